/- The document's disks: Sync, Trim. No statement of the seat is proved here. -/
import Derived.Test.YtkhckgbhpfjfkaaDkI
namespace Go.Proofs.Ytkhckgbhpfjfkaa
open Go.RowKit
set_option maxRecDepth 100000

set_option maxHeartbeats 1600000 in
theorem ref_sync (d : Dv) (A : Option Addr) (n c : Nat) (S : Nat → Prop) (w : World) (hm : Byt w S (.slice A n c) d.bs)
    (hl : -9223372036854775808 ≤ d.fuse) (hh : d.fuse < 9223372036854775808) :
    Calls Try.prog 71 #[.agg #[.slice A n c, .int .i64 d.safe, .bool (!d.on), .int .i64 d.fuse]] w fun e w' =>
      RfE w S w' e (chD d 0 (dSync (burnt d))) (chCode d 0) := by
  have hn : n = d.bs.length := by obtain ⟨_, _, h, _⟩ := hm; injection h
  have C := fun w' => ref_use d A n c w' hl hh
  by_cases hon : d.on = false
  · have e1 : Hid (∀ f d', chCode d f = 11 ∧ chD d f d' = d) := fun f d' => ⟨by rw [chCode, if_pos hon], by rw [chD, if_pos hon]⟩
    have e2 : (!d.on) = true := by rw [hon]; rfl
    rw [(e1.out _ (dSync (burnt d))).1, (e1.out _ (dSync (burnt d))).2]
    have R := Lib.hid (fun x y t u => rfe_same hm x y 11 t u)
    rw [e2] at R ⊢
    clear hm hon C e1 hn
    go_enter Try.func71, Try.ntmps71
    go_wp2_with fail
    exact bodyPost_ret (v := .tuple #[.agg #[.slice A n c, .int .i64 d.safe, .bool true, .int .i64 d.fuse], .int .i64 11]) (by simp [results, Try.results71, go_sem]) rfl (R.out _ _ _ _)
  · have hon1 : d.on = true := by cases hd : d.on <;> simp_all
    have e2 : (!d.on) = false := by rw [hon1]; rfl
    obtain ⟨bb1, bb2⟩ := burnt_bs d
    obtain ⟨b, hb⟩ : ∃ b, burnt d = b := ⟨_, rfl⟩
    rw [hb] at C bb1 bb2 ⊢
    have R0 := Lib.hid (Rf.new w #[.slice A n c, .int .i64 d.safe, .bool false, .int .i64 d.fuse] #[.slice none 0 0, .int .i64 0, .bool false, .int .i64 0])
    rw [← bb1] at hm hn
    have HM := Lib.hid hm
    by_cases hz : d.fuse = 0
    · have e1 : Hid (∀ d', chCode d 0 = 11 ∧ chD d 0 d' = b) := fun d' => ⟨by simp [chCode, hon1, hz], by rw [← hb]; simp [chD, hon1, hz, burnt]⟩
      rw [(e1.out (dSync b)).1, (e1.out (dSync b)).2]
      rw [show decide (d.fuse ≠ 0) = false by simp [hz]] at C
      rw [e2] at C ⊢
      clear hm hon hon1 e1 hn hb hz bb1 bb2
      go_enter Try.func71, Try.ntmps71
      go_wp2_with (first
        | (go_at_call 98; refine (C _).mono ?_; rintro e w1 ⟨rfl, o1⟩
           have R1 := Lib.hid (R0.out.keep o1)
           clear o1)
        | (refine wpList_store_row rfl 74 _ _ rfl w.heap.size #[.slice A n c, .int .i64 b.safe, .bool (!b.on), .int .i64 b.fuse] rfl rfl 74 _ R1.out.b0 (by kernel_rfl) rfl (by simp [Value.oneCell']) ?_
           have R2 := Lib.hid (R1.out.row0 #[.slice A n c, .int .i64 b.safe, .bool (!b.on), .int .i64 b.fuse])
           have q2 := four_of R2.out.b0)
        | (refine wpList_store_row rfl 74 _ _ rfl (w.heap.size + 1) #[.slice A n c, .int .i64 b.safe, .bool (!b.on), .int .i64 b.fuse] rfl rfl 74 _ R2.out.b1 (by kernel_rfl) rfl (by simp [Value.oneCell']) ?_
           have R3 := Lib.hid (R2.out.row1 #[.slice A n c, .int .i64 b.safe, .bool (!b.on), .int .i64 b.fuse])))
      refine bodyPost_ret (results_cell_tmp rfl _ _ (w.heap.size + 1) 74 _ _ rfl R3.out.b1 Try.underlying74 rfl (by kernel_rfl) _ rfl) rfl ?_
      exact ⟨⟨A, n, c, rfl, (HM.out.only R3.out.ho (fun _ _ h => h)).mono (fun _ _ h => .inl h)⟩, R3.out.ho⟩
    · have e1 : Hid (∀ d', chCode d 0 = 0 ∧ chD d 0 d' = d') := fun d' => ⟨by simp [chCode, hon1, hz], by simp [chD, hon1, hz]⟩
      rw [(e1.out (dSync b)).1, (e1.out (dSync b)).2]
      rw [show decide (d.fuse ≠ 0) = true by simp [hz]] at C
      rw [e2] at C ⊢
      have HE : Hid (dSync b = ⟨b.on, b.fuse, b.bs, n⟩) := by rw [Hid, hn]; rfl
      clear hm hon hon1 e1 hn hb hz bb1 bb2
      go_enter Try.func71, Try.ntmps71
      go_wp2_with (first
        | (go_at_call 98; refine (C _).mono ?_; rintro e w1 ⟨rfl, o1⟩
           have R1 := Lib.hid (R0.out.keep o1)
           clear o1)
        | (refine wpList_store_row rfl 74 _ _ rfl w.heap.size #[.slice A n c, .int .i64 b.safe, .bool (!b.on), .int .i64 b.fuse] rfl rfl 74 _ R1.out.b0 (by kernel_rfl) rfl (by simp [Value.oneCell']) ?_
           have R2 := Lib.hid (R1.out.row0 #[.slice A n c, .int .i64 b.safe, .bool (!b.on), .int .i64 b.fuse])
           clear R1 R0
           generalize w1.setRow w.heap.size #[.slice A n c, .int .i64 b.safe, .bool (!b.on), .int .i64 b.fuse] = w2 at *
           have q2 := four_of R2.out.b0
           have z2 := frozen4 R2.out.b0
           have R7 := Lib.hid (R2.out.set0 1 (.int .i64 (n : Int)))
           have q7 := four_of R7.out.b0)
        | (refine wpList_store_row rfl 74 _ _ rfl (w.heap.size + 1) #[.slice A n c, .int .i64 (n : Int), .bool (!b.on), .int .i64 b.fuse] rfl rfl 74 _ R7.out.b1 (by kernel_rfl) rfl (by simp [Value.oneCell']) ?_
           have R8 := Lib.hid (R7.out.row1 #[.slice A n c, .int .i64 (n : Int), .bool (!b.on), .int .i64 b.fuse])))
      refine bodyPost_ret (results_cell_tmp rfl _ _ (w.heap.size + 1) 74 _ _ rfl R8.out.b1 Try.underlying74 rfl (by kernel_rfl) _ rfl) rfl ?_
      rw [HE.out]
      exact ⟨⟨A, n, c, rfl, (HM.out.only R8.out.ho (fun _ _ h => h)).mono (fun _ _ h => .inl h)⟩, R8.out.ho⟩

set_option maxHeartbeats 1600000 in
theorem ref_trim (d : Dv) (k : Int) (A : Option Addr) (n c : Nat) (S : Nat → Prop) (w : World) (hm : Byt w S (.slice A n c) d.bs)
    (hl : -9223372036854775808 ≤ d.fuse) (hh : d.fuse < 9223372036854775808) :
    Calls Try.prog 72 #[.agg #[.slice A n c, .int .i64 d.safe, .bool (!d.on), .int .i64 d.fuse], .int .i64 k] w fun e w' =>
      RfE w S w' e (chD d (if k < 0 ∨ (d.bs.length : Int) < k then 2 else 0) (dTrim k.toNat (burnt d))) (chCode d (if k < 0 ∨ (d.bs.length : Int) < k then 2 else 0)) := by
  obtain ⟨i0, hi0, hz0, hz1, hz2⟩ := info_parts u8_info
  have hn : n = d.bs.length := by obtain ⟨_, _, h, _⟩ := hm; injection h
  have C := fun w' => ref_use d A n c w' hl hh
  by_cases hon : d.on = false
  · have e1 : Hid (∀ f d', chCode d f = 11 ∧ chD d f d' = d) := fun f d' => ⟨by rw [chCode, if_pos hon], by rw [chD, if_pos hon]⟩
    have e2 : (!d.on) = true := by rw [hon]; rfl
    rw [(e1.out _ (dTrim k.toNat (burnt d))).1, (e1.out _ (dTrim k.toNat (burnt d))).2]
    have R := Lib.hid (fun x y t u => rfe_same hm x y 11 t u)
    rw [e2] at R ⊢
    clear hm hon C e1 hn
    go_enter Try.func72, Try.ntmps72
    go_wp2_with fail
    exact bodyPost_ret (v := .tuple #[.agg #[.slice A n c, .int .i64 d.safe, .bool true, .int .i64 d.fuse], .int .i64 11]) (by simp [results, Try.results72, go_sem]) rfl (R.out _ _ _ _)
  · have hon1 : d.on = true := by cases hd : d.on <;> simp_all
    have e2 : (!d.on) = false := by rw [hon1]; rfl
    by_cases hf : k < 0 ∨ (d.bs.length : Int) < k
    · have e1 : Hid (∀ d', chCode d 2 = 2 ∧ chD d 2 d' = d) := fun d' => ⟨by simp [chCode, hon1], by simp [chD, hon1]⟩
      rw [if_pos hf, (e1.out (dTrim k.toNat (burnt d))).1, (e1.out (dTrim k.toNat (burnt d))).2]
      have R := Lib.hid (fun x y t u => rfe_same hm x y 2 t u)
      rw [e2] at R ⊢
      by_cases hk : k < 0
      · clear hm hon hon1 C e1 hn hf
        go_enter Try.func72, Try.ntmps72
        go_wp2_with fail
        exact bodyPost_ret (v := .tuple #[.agg #[.slice A n c, .int .i64 d.safe, .bool false, .int .i64 d.fuse], .int .i64 2]) (by simp [results, Try.results72, go_sem]) rfl (R.out _ _ _ _)
      · have hf' : (n : Int) < k := by omega
        clear hm hon hon1 C e1 hn hf
        go_enter Try.func72, Try.ntmps72
        go_wp2_with fail
        exact bodyPost_ret (v := .tuple #[.agg #[.slice A n c, .int .i64 d.safe, .bool false, .int .i64 d.fuse], .int .i64 2]) (by simp [results, Try.results72, go_sem]) rfl (R.out _ _ _ _)
    · rw [if_neg hf]
      have hf1 : ¬ k < 0 := by omega
      have hf2 : ¬ (n : Int) < k := by omega
      obtain ⟨j, rfl⟩ : ∃ j : Nat, k = j := ⟨k.toNat, by omega⟩
      rw [Int.toNat_natCast]
      have hj : j ≤ n := by omega
      obtain ⟨bb1, bb2⟩ := burnt_bs d
      obtain ⟨b, hb⟩ : ∃ b, burnt d = b := ⟨_, rfl⟩
      rw [hb] at C bb1 bb2 ⊢
      have R0 := Lib.hid (Rf.new w #[.slice A n c, .int .i64 d.safe, .bool false, .int .i64 d.fuse] #[.slice none 0 0, .int .i64 0, .bool false, .int .i64 0])
      rw [← bb1] at hm hn
      have HM := Lib.hid hm
      by_cases hz : d.fuse = 0
      · have e1 : Hid (∀ d', chCode d 0 = 11 ∧ chD d 0 d' = b) := fun d' => ⟨by simp [chCode, hon1, hz], by rw [← hb]; simp [chD, hon1, hz, burnt]⟩
        rw [(e1.out (dTrim j b)).1, (e1.out (dTrim j b)).2]
        rw [show decide (d.fuse ≠ 0) = false by simp [hz]] at C
        rw [e2] at C ⊢
        clear hm hon hon1 e1 hn hb hz bb1 bb2 hf
        go_enter Try.func72, Try.ntmps72
        go_wp2_with (first
          | (go_at_call 98; refine (C _).mono ?_; rintro e w1 ⟨rfl, o1⟩
             have R1 := Lib.hid (R0.out.keep o1)
             clear o1)
          | (refine wpList_store_row rfl 74 _ _ rfl w.heap.size #[.slice A n c, .int .i64 b.safe, .bool (!b.on), .int .i64 b.fuse] rfl rfl 74 _ R1.out.b0 (by kernel_rfl) rfl (by simp [Value.oneCell']) ?_
             have R2 := Lib.hid (R1.out.row0 #[.slice A n c, .int .i64 b.safe, .bool (!b.on), .int .i64 b.fuse])
             have q2 := four_of R2.out.b0)
          | (refine wpList_store_row rfl 74 _ _ rfl (w.heap.size + 1) #[.slice A n c, .int .i64 b.safe, .bool (!b.on), .int .i64 b.fuse] rfl rfl 74 _ R2.out.b1 (by kernel_rfl) rfl (by simp [Value.oneCell']) ?_
             have R3 := Lib.hid (R2.out.row1 #[.slice A n c, .int .i64 b.safe, .bool (!b.on), .int .i64 b.fuse])))
        refine bodyPost_ret (results_cell_tmp rfl _ _ (w.heap.size + 1) 74 _ _ rfl R3.out.b1 Try.underlying74 rfl (by kernel_rfl) _ rfl) rfl ?_
        exact ⟨⟨A, n, c, rfl, (HM.out.only R3.out.ho (fun _ _ h => h)).mono (fun _ _ h => .inl h)⟩, R3.out.ho⟩
      · have e1 : Hid (∀ d', chCode d 0 = 0 ∧ chD d 0 d' = d') := fun d' => ⟨by simp [chCode, hon1, hz], by simp [chD, hon1, hz]⟩
        rw [(e1.out (dTrim j b)).1, (e1.out (dTrim j b)).2]
        rw [show decide (d.fuse ≠ 0) = true by simp [hz]] at C
        rw [e2] at C ⊢
        obtain ⟨A1, hrun, hB1⟩ := byt_hi Try.underlying29 hi0 hm j hj j rfl
        have HM1 := Lib.hid hB1
        obtain ⟨s, hs⟩ : ∃ s, b.safe = s := ⟨_, rfl⟩
        have HE : Hid (dTrim j b = ⟨b.on, b.fuse, b.bs.take j, min s j⟩) := by rw [Hid, ← hs]; rfl
        rw [hs] at C
        clear hm hon hon1 e1 hn hb hz bb1 bb2 hf hB1 hs
        by_cases hsj : j < s
        · have hsj' : (j : Int) < s := by omega
          have EM : Hid (min s j = j) := Nat.min_eq_right (by omega)
          go_enter Try.func72, Try.ntmps72
          go_wp2_with (first
            | (go_at_call 98; refine (C _).mono ?_; rintro e w1 ⟨rfl, o1⟩
               have R1 := Lib.hid (R0.out.keep o1)
               clear o1)
            | (refine wpList_store_row rfl 74 _ _ rfl w.heap.size #[.slice A n c, .int .i64 s, .bool (!b.on), .int .i64 b.fuse] rfl rfl 74 _ R1.out.b0 (by kernel_rfl) rfl (by simp [Value.oneCell']) ?_
               have R2 := Lib.hid (R1.out.row0 #[.slice A n c, .int .i64 s, .bool (!b.on), .int .i64 b.fuse])
               clear R1 R0
               generalize w1.setRow w.heap.size #[.slice A n c, .int .i64 s, .bool (!b.on), .int .i64 b.fuse] = w2 at *
               have q2 := four_of R2.out.b0
               have z2 := frozen4 R2.out.b0
               have R6 := Lib.hid (R2.out.set0 0 (.slice A1 j c))
               have q6 := four_of R6.out.b0
               have z6 := frozen4 R6.out.b0
               have R7 := Lib.hid (R6.out.set0 1 (.int .i64 (j : Int)))
               have q7 := four_of R7.out.b0)
            | (refine wpList_store_row rfl 74 _ _ rfl (w.heap.size + 1) #[.slice A1 j c, .int .i64 (j : Int), .bool (!b.on), .int .i64 b.fuse] rfl rfl 74 _ R7.out.b1 (by kernel_rfl) rfl (by simp [Value.oneCell']) ?_
               have R8 := Lib.hid (R7.out.row1 #[.slice A1 j c, .int .i64 (j : Int), .bool (!b.on), .int .i64 b.fuse])))
          refine bodyPost_ret (results_cell_tmp rfl _ _ (w.heap.size + 1) 74 _ _ rfl R8.out.b1 Try.underlying74 rfl (by kernel_rfl) _ rfl) rfl ?_
          rw [HE.out, EM.out]
          exact ⟨⟨A1, j, c, rfl, (HM1.out.only R8.out.ho (fun _ _ h => h)).mono (fun _ _ h => .inl h)⟩, R8.out.ho⟩
        · have hsj' : ¬ (j : Int) < s := by omega
          have EM : Hid (min s j = s) := Nat.min_eq_left (by omega)
          go_enter Try.func72, Try.ntmps72
          go_wp2_with (first
            | (go_at_call 98; refine (C _).mono ?_; rintro e w1 ⟨rfl, o1⟩
               have R1 := Lib.hid (R0.out.keep o1)
               clear o1)
            | (refine wpList_store_row rfl 74 _ _ rfl w.heap.size #[.slice A n c, .int .i64 s, .bool (!b.on), .int .i64 b.fuse] rfl rfl 74 _ R1.out.b0 (by kernel_rfl) rfl (by simp [Value.oneCell']) ?_
               have R2 := Lib.hid (R1.out.row0 #[.slice A n c, .int .i64 s, .bool (!b.on), .int .i64 b.fuse])
               clear R1 R0
               generalize w1.setRow w.heap.size #[.slice A n c, .int .i64 s, .bool (!b.on), .int .i64 b.fuse] = w2 at *
               have q2 := four_of R2.out.b0
               have z2 := frozen4 R2.out.b0
               have R6 := Lib.hid (R2.out.set0 0 (.slice A1 j c))
               have q6 := four_of R6.out.b0)
            | (refine wpList_store_row rfl 74 _ _ rfl (w.heap.size + 1) #[.slice A1 j c, .int .i64 s, .bool (!b.on), .int .i64 b.fuse] rfl rfl 74 _ R6.out.b1 (by kernel_rfl) rfl (by simp [Value.oneCell']) ?_
               have R8 := Lib.hid (R6.out.row1 #[.slice A1 j c, .int .i64 s, .bool (!b.on), .int .i64 b.fuse])))
          refine bodyPost_ret (results_cell_tmp rfl _ _ (w.heap.size + 1) 74 _ _ rfl R8.out.b1 Try.underlying74 rfl (by kernel_rfl) _ rfl) rfl ?_
          rw [HE.out, EM.out]
          exact ⟨⟨A1, j, c, rfl, (HM1.out.only R8.out.ho (fun _ _ h => h)).mono (fun _ _ h => .inl h)⟩, R8.out.ho⟩
end Go.Proofs.Ytkhckgbhpfjfkaa
