/- The document's disks: Append, Sync. No statement of the seat is proved here. -/
import Derived.Test.YtkhckgbhpfjfkaaDkH
namespace Go.Proofs.Ytkhckgbhpfjfkaa
open Go.RowKit
set_option maxRecDepth 100000

section
variable {w : World} {S : Nat → Prop} {A : Option Addr} {n c : Nat} {d : Dv}
theorem rfe_same (hm : Byt w S (.slice A n c) d.bs) (x y : Array Value) (code : Int) (t u : TypeId) :
    RfE w S ((w.alloc (.cells x t)).alloc (.cells y u)) (.returned (.tuple #[.agg #[.slice A n c, .int .i64 d.safe, .bool (!d.on), .int .i64 d.fuse], .int .i64 code])) d code :=
  ⟨⟨A, n, c, rfl, ((hm.alloc _).alloc _).mono (fun _ _ h => .inl h)⟩, ((Only.refl none_ w).alloc _).alloc _⟩
end

set_option maxHeartbeats 1600000 in
theorem ref_append (d : Dv) (A X : Option Addr) (n c L e0 : Nat) (ys : List UInt8) (S T : Nat → Prop) (w : World) (hm : Byt w S (.slice A n c) d.bs) (hx : Byt w T (.slice X L e0) ys) (hml : d.bs.length ≤ 1048576)
    (hl : -9223372036854775808 ≤ d.fuse) (hh : d.fuse < 9223372036854775808) :
    Calls Try.prog 70 #[.agg #[.slice A n c, .int .i64 d.safe, .bool (!d.on), .int .i64 d.fuse], .slice X L e0] w fun e w' =>
      RfE w S w' e (chD d (if 1048576 < d.bs.length + ys.length then 7 else 0) (dApp ys (burnt d))) (chCode d (if 1048576 < d.bs.length + ys.length then 7 else 0)) := by
  obtain ⟨i0, hi0, hz0, hz1, hz2⟩ := info_parts u8_info
  have hn : n = d.bs.length := by obtain ⟨_, _, h, _⟩ := hm; injection h
  have hL : L = ys.length := by obtain ⟨_, _, h, _⟩ := hx; injection h
  have HM := Lib.hid hm
  have HX := Lib.hid hx
  have hw : IntKind.i64.wrap (1048576 - (n : Int)) = 1048576 - (n : Int) := IntWalk.i64_in _ (by omega)
  have C := fun w' => ref_use d A n c w' hl hh
  by_cases hon : d.on = false
  · have e1 : Hid (∀ f d', chCode d f = 11 ∧ chD d f d' = d) := fun f d' => ⟨by rw [chCode, if_pos hon], by rw [chD, if_pos hon]⟩
    have e2 : (!d.on) = true := by rw [hon]; rfl
    rw [(e1.out _ (dApp ys (burnt d))).1, (e1.out _ (dApp ys (burnt d))).2]
    have R := Lib.hid (fun x y t u => rfe_same hm x y 11 t u)
    rw [e2] at R ⊢
    clear hm hx hon C e1 hn hL
    go_enter Try.func70, Try.ntmps70
    go_wp2_with fail
    exact bodyPost_ret (v := .tuple #[.agg #[.slice A n c, .int .i64 d.safe, .bool true, .int .i64 d.fuse], .int .i64 11]) (by simp [results, Try.results70, go_sem]) rfl (R.out _ _ _ _)
  · have hon1 : d.on = true := by cases hd : d.on <;> simp_all
    have e2 : (!d.on) = false := by rw [hon1]; rfl
    by_cases hf : 1048576 < d.bs.length + ys.length
    · have e1 : Hid (∀ d', chCode d 7 = 7 ∧ chD d 7 d' = d) := fun d' => ⟨by simp [chCode, hon1], by simp [chD, hon1]⟩
      rw [if_pos hf, (e1.out (dApp ys (burnt d))).1, (e1.out (dApp ys (burnt d))).2]
      have R := Lib.hid (fun x y t u => rfe_same hm x y 7 t u)
      have hf' : (1048576 : Int) - n < L := by omega
      rw [e2] at R ⊢
      clear hm hx hon hon1 C e1 hn hL hf
      go_enter Try.func70, Try.ntmps70
      go_wp2_with fail
      exact bodyPost_ret (v := .tuple #[.agg #[.slice A n c, .int .i64 d.safe, .bool false, .int .i64 d.fuse], .int .i64 7]) (by simp [results, Try.results70, go_sem]) rfl (R.out _ _ _ _)
    · rw [if_neg hf]
      have hf' : ¬ (1048576 : Int) - n < L := by omega
      obtain ⟨bb1, bb2⟩ := burnt_bs d
      obtain ⟨b, hb⟩ : ∃ b, burnt d = b := ⟨_, rfl⟩
      rw [hb] at C bb1 bb2 ⊢
      by_cases hz : d.fuse = 0
      · have e1 : Hid (∀ d', chCode d 0 = 11 ∧ chD d 0 d' = b) := fun d' => ⟨by simp [chCode, hon1, hz], by rw [← hb]; simp [chD, hon1, hz, burnt]⟩
        rw [(e1.out (dApp ys b)).1, (e1.out (dApp ys b)).2]
        rw [show decide (d.fuse ≠ 0) = false by simp [hz]] at C
        rw [e2] at C ⊢
        rw [← bb1] at hm
        have HM := Lib.hid hm
        have R0 := Lib.hid (Rf.new w #[.slice A n c, .int .i64 d.safe, .bool false, .int .i64 d.fuse] #[.slice none 0 0, .int .i64 0, .bool false, .int .i64 0])
        clear hm hx hon hon1 e1 hn hL hf hb hz bb1 bb2 hml
        go_enter Try.func70, Try.ntmps70
        go_wp2_with (first
          | (go_at_call 98; refine (C _).mono ?_; rintro e w1 ⟨rfl, o1⟩
             have R1 := Lib.hid (R0.out.keep o1)
             clear o1)
          | (refine wpList_store_row rfl 74 _ _ rfl w.heap.size #[.slice A n c, .int .i64 b.safe, .bool (!b.on), .int .i64 b.fuse] rfl rfl 74 _ R1.out.b0 (by kernel_rfl) rfl (by simp [Value.oneCell']) ?_
             have R2 := Lib.hid (R1.out.row0 #[.slice A n c, .int .i64 b.safe, .bool (!b.on), .int .i64 b.fuse])
             have q2 := four_of R2.out.b0)
          | (refine wpList_store_row rfl 74 _ _ rfl (w.heap.size + 1) #[.slice A n c, .int .i64 b.safe, .bool (!b.on), .int .i64 b.fuse] rfl rfl 74 _ R2.out.b1 (by kernel_rfl) rfl (by simp [Value.oneCell']) ?_
             have R3 := Lib.hid (R2.out.row1 #[.slice A n c, .int .i64 b.safe, .bool (!b.on), .int .i64 b.fuse])))
        refine bodyPost_ret (results_cell_tmp rfl _ _ (w.heap.size + 1) 74 _ _ rfl R3.out.b1 Try.underlying74 rfl (by kernel_rfl) _ rfl) rfl ?_
        exact ⟨⟨A, n, c, rfl, (HM.out.only R3.out.ho (fun _ _ h => h)).mono (fun _ _ h => .inl h)⟩, R3.out.ho⟩
      · have e1 : Hid (∀ d', chCode d 0 = 0 ∧ chD d 0 d' = d') := fun d' => ⟨by simp [chCode, hon1, hz], by simp [chD, hon1, hz]⟩
        rw [(e1.out (dApp ys b)).1, (e1.out (dApp ys b)).2]
        rw [show decide (d.fuse ≠ 0) = true by simp [hz]] at C
        rw [e2] at C ⊢
        rw [← bb1] at hm hml hf
        have HM := Lib.hid hm
        have HE : Hid (dApp ys b = ⟨b.on, b.fuse, b.bs ++ ys, b.safe⟩) := rfl
        have R0 := Lib.hid (Rf.new w #[.slice A n c, .int .i64 d.safe, .bool false, .int .i64 d.fuse] #[.slice none 0 0, .int .i64 0, .bool false, .int .i64 0])
        have hc1 : ([] : List UInt8).length + b.bs.length ≤ 140737488355328 := by simp; omega
        have hc2 : ([] ++ b.bs : List UInt8).length + ys.length ≤ 140737488355328 := by simp; omega
        clear hm hx hon hon1 e1 hn hL hf hb hz bb1 bb2 hml
        go_enter Try.func70, Try.ntmps70
        go_wp2_with (first
          | (go_at_call 98; refine (C _).mono ?_; rintro e w1 ⟨rfl, o1⟩
             have R1 := Lib.hid (R0.out.keep o1)
             clear o1)
          | (refine wpList_store_row rfl 74 _ _ rfl w.heap.size #[.slice A n c, .int .i64 b.safe, .bool (!b.on), .int .i64 b.fuse] rfl rfl 74 _ R1.out.b0 (by kernel_rfl) rfl (by simp [Value.oneCell']) ?_
             have R2 := Lib.hid (R1.out.row0 #[.slice A n c, .int .i64 b.safe, .bool (!b.on), .int .i64 b.fuse])
             clear R1 R0
             generalize w1.setRow w.heap.size #[.slice A n c, .int .i64 b.safe, .bool (!b.on), .int .i64 b.fuse] = w2 at *
             have R4 := Lib.hid (R2.out.keep ((Only.refl none_ w2).alloc (.cells #[] 5)))
             have q4 := four_of R4.out.b0
             have hb4 : w2.heap.size ≤ (w2.alloc (.cells #[] 5)).heap.size := by simp
             have HB2 : Hid (w.heap.size ≤ w2.heap.size) := R2.out.ho.size
             have X4 : Hid ((w2.alloc (.cells #[] 5)).ownsRow w2.heap.size 5 1 (.slice (some ⟨w2.heap.size, 0, none⟩) 0 0) ([] : List UInt8).length (byts [])) := (by have := World.ownsRow_made (base := w2.heap.size) (e := 5) (size := 1) w2 #[] 0 (by simp) (by simp [maxLen]) rfl; simpa [byts, Hid] using this))
          | (at_builtin; refine wpList_append_byt _ rfl (.tmp 26) (.tmp 28) _ rfl w2.heap.size 5 i0 (.int .u8 0) Try.underlying29 hi0 hz0 hz1 hz2 rfl _ _ rfl X4.out S (.slice A n c) b.bs rfl (HM.out.only R4.out.ho (fun _ _ h => h)) hc1 hb4 ?_
             intro A5 n5 c5 w5 hown5 hgrow5 hmv5
             have R5 := Lib.hid (R4.out.own X4.out HB2.out hgrow5)
             have X5 := Lib.hid hown5
             have hb5 := Nat.le_trans hb4 hgrow5.size
             clear hown5 hgrow5 hmv5)
          | (at_builtin; refine wpList_append_byt _ rfl (.tmp 29) (.tmp 30) _ rfl w2.heap.size 5 i0 (.int .u8 0) Try.underlying29 hi0 hz0 hz1 hz2 rfl _ _ rfl X5.out T (.slice X L e0) ys rfl (HX.out.only R5.out.ho (fun _ _ h => h)) hc2 hb5 ?_
             intro A6 n6 c6 w6 hown6 hgrow6 hmv6
             have R6 := Lib.hid (R5.out.own X5.out HB2.out hgrow6)
             have X6 := Lib.hid hown6
             have q6 := four_of R6.out.b0
             have z6 := frozen4 R6.out.b0
             have R7 := Lib.hid (R6.out.set0 0 (.slice A6 n6 c6))
             have q7 := four_of R7.out.b0
             clear hown6 hgrow6 hmv6)
          | (refine wpList_store_row rfl 74 _ _ rfl (w.heap.size + 1) #[.slice A6 n6 c6, .int .i64 b.safe, .bool (!b.on), .int .i64 b.fuse] rfl rfl 74 _ R7.out.b1 (by kernel_rfl) rfl (by simp [Value.oneCell']) ?_
             have R8 := Lib.hid (R7.out.row1 #[.slice A6 n6 c6, .int .i64 b.safe, .bool (!b.on), .int .i64 b.fuse])))
        refine bodyPost_ret (results_cell_tmp rfl _ _ (w.heap.size + 1) 74 _ _ rfl R8.out.b1 Try.underlying74 rfl (by kernel_rfl) _ rfl) rfl ?_
        rw [HE.out]
        have hfin := R7.out.own_row1 (R6.out.own_set0 X6.out 0 (.slice A6 n6 c6)) #[.slice A6 n6 c6, .int .i64 b.safe, .bool (!b.on), .int .i64 b.fuse]
        exact ⟨⟨A6, n6, c6, rfl, (Byt.of_own hfin).mono (fun k _ hk => .inr (Nat.le_trans HB2.out (hfin.lt k hk).1))⟩, R8.out.ho⟩
end Go.Proofs.Ytkhckgbhpfjfkaa
