/- The document's disks: Crash, Turn; the bits that an act turns. No statement of the seat is proved here. -/
import Derived.Test.YtkhckgbhpfjfkaaDkJ
namespace Go.Proofs.Ytkhckgbhpfjfkaa
open Go.RowKit
set_option maxRecDepth 100000

set_option maxHeartbeats 1600000 in
theorem ref_crash (d : Dv) (k : Int) (A : Option Addr) (n c : Nat) (S : Nat → Prop) (w : World) (hm : Byt w S (.slice A n c) d.bs) (hsl : d.safe ≤ d.bs.length) (hml : d.bs.length ≤ 1048576) :
    Calls Try.prog 73 #[.agg #[.slice A n c, .int .i64 d.safe, .bool (!d.on), .int .i64 d.fuse], .int .i64 k] w fun e w' =>
      RfE w S w' e (dCrash k d) (stay d k : Nat) := by
  obtain ⟨i0, hi0, hz0, hz1, hz2⟩ := info_parts u8_info
  have hn : n = d.bs.length := by obtain ⟨_, _, h, _⟩ := hm; injection h
  obtain ⟨o, ho⟩ : ∃ o, (!d.on) = o := ⟨_, rfl⟩
  obtain ⟨f, hf⟩ : ∃ f, d.fuse = f := ⟨_, rfl⟩
  obtain ⟨s, hs⟩ : ∃ s, d.safe = s := ⟨_, rfl⟩
  obtain ⟨q, hq⟩ : ∃ q, stay d k = q := ⟨_, rfl⟩
  have hq1 : q = min (n - s) k.toNat := by rw [← hq, stay, hn, hs]
  obtain ⟨N, hN⟩ : ∃ N, s + q = N := ⟨_, rfl⟩
  obtain ⟨A1, hrun, hB1⟩ := byt_hi Try.underlying29 hi0 hm N (by omega) N rfl
  have HM1 := Lib.hid hB1
  have HE : Hid (dCrash k d = ⟨true, -1, d.bs.take N, N⟩) := by rw [Hid, dCrash, hq, hs, hN]
  have hw1 : IntKind.i64.wrap ((n : Int) - s) = (n : Int) - s := IntWalk.i64_in _ (by omega)
  have B1 := Lib.hid (Blk.new (w.alloc (.cells #[.slice A n c, .int .i64 s, .bool o, .int .i64 f] 74)) 74 #[.slice none 0 0, .int .i64 0, .bool false, .int .i64 0])
  have O1 := Lib.hid (((Only.refl none_ w).alloc (.cells #[.slice A n c, .int .i64 s, .bool o, .int .i64 f] 74)).alloc (.cells #[.slice none 0 0, .int .i64 0, .bool false, .int .i64 0] 74))
  rw [ho, hf, hs, hq]
  have hsn : s ≤ n := by omega
  have hnn : n ≤ 1048576 := by omega
  have HQ := Lib.hid hq1
  have HN := Lib.hid hN
  clear hm ho hf hs hq hB1 hn hsl hml
  by_cases h1 : k < (n : Int) - s
  · by_cases h2 : k < 0
    · have e1 : q = 0 := by omega
      subst e1
      have hw2 : IntKind.i64.wrap ((s : Int) + 0) = (N : Int) := by rw [IntWalk.i64_in _ (by omega)]; omega
      have hw3 : (s : Int) = (N : Int) := by omega
      clear hq1 hN
      go_enter Try.func73, Try.ntmps73
      go_wp2_with fail
      go_region
      all_goals
        go_wp2_with fail
        refine bodyPost_ret (v := .tuple #[.agg #[.slice A1 N c, .int .i64 (N : Int), .bool false, .int .i64 (-1)], .int .i64 0]) (by simp [results, Try.results73, go_sem]) rfl ?_
        rw [HE.out]
        exact ⟨⟨A1, N, c, rfl, (((HM1.out.alloc _).alloc _).drew).mono (fun _ _ h => .inl h)⟩, (((Only.refl none_ w).alloc _).alloc _).drew⟩
    · obtain ⟨j, rfl⟩ : ∃ j : Nat, k = j := ⟨k.toNat, by omega⟩
      have e1 : q = j := by omega
      subst e1
      have hw2 : IntKind.i64.wrap ((s : Int) + q) = (N : Int) := by rw [IntWalk.i64_in _ (by omega)]; omega
      clear hq1 hN
      go_enter Try.func73, Try.ntmps73
      go_wp2_with fail
      go_region
      all_goals
        go_wp2_with fail
        refine bodyPost_ret (v := .tuple #[.agg #[.slice A1 N c, .int .i64 (N : Int), .bool false, .int .i64 (-1)], .int .i64 (q : Int)]) (by simp [results, Try.results73, go_sem]) rfl ?_
        rw [HE.out]
        exact ⟨⟨A1, N, c, rfl, (((HM1.out.alloc _).alloc _).drew).mono (fun _ _ h => .inl h)⟩, (((Only.refl none_ w).alloc _).alloc _).drew⟩
  · have e1 : ((n : Int) - s) = (q : Int) := by omega
    have e2 : IntKind.i64.wrap ((n : Int) - s) = (q : Int) := by rw [hw1]; exact e1
    have h1' : ¬ k < (q : Int) := by omega
    have h2 : ¬ (q : Int) < 0 := by omega
    have hw2 : IntKind.i64.wrap ((s : Int) + q) = (N : Int) := by rw [IntWalk.i64_in _ (by omega)]; omega
    clear hq1 hN hw1 e1 h1
    go_enter Try.func73, Try.ntmps73
    go_wp2_with fail
    go_region
    all_goals
      go_wp2_with fail
      refine bodyPost_ret (v := .tuple #[.agg #[.slice A1 N c, .int .i64 (N : Int), .bool false, .int .i64 (-1)], .int .i64 (q : Int)]) (by simp [results, Try.results73, go_sem]) rfl ?_
      rw [HE.out]
      exact ⟨⟨A1, N, c, rfl, (((HM1.out.alloc _).alloc _).drew).mono (fun _ _ h => .inl h)⟩, (((Only.refl none_ w).alloc _).alloc _).drew⟩

set_option maxHeartbeats 1600000 in
theorem ref_turn (d : Dv) (k : Int) (b : UInt8) (A : Option Addr) (n c : Nat) (S : Nat → Prop) (w : World) (hm : Byt w S (.slice A n c) d.bs) (hml : d.bs.length ≤ 1048576) :
    Calls Try.prog 76 #[.agg #[.slice A n c, .int .i64 d.safe, .bool (!d.on), .int .i64 d.fuse], .int .i64 k, .int .u8 (b.toNat : Int)] w fun e w' =>
      RfE w S w' e (if k < 0 ∨ (d.bs.length : Int) ≤ k then d else dTurn k.toNat b d) (if k < 0 ∨ (d.bs.length : Int) ≤ k then 2 else 0) := by
  obtain ⟨i0, hi0, hz0, hz1, hz2⟩ := info_parts u8_info
  have hn : n = d.bs.length := by obtain ⟨_, _, h, _⟩ := hm; injection h
  have HM := Lib.hid hm
  obtain ⟨o, ho⟩ : ∃ o, (!d.on) = o := ⟨_, rfl⟩
  obtain ⟨f, hf⟩ : ∃ f, d.fuse = f := ⟨_, rfl⟩
  obtain ⟨s, hs⟩ : ∃ s, d.safe = s := ⟨_, rfl⟩
  by_cases hb : k < 0 ∨ (d.bs.length : Int) ≤ k
  · rw [if_pos hb, if_pos hb]
    have R := Lib.hid (fun x y t u => rfe_same hm x y 2 t u)
    rw [ho, hf, hs] at R ⊢
    by_cases hk : k < 0
    · clear hm ho hf hs hb hn
      go_enter Try.func76, Try.ntmps76
      go_wp2_with fail
      exact bodyPost_ret (v := .tuple #[.agg #[.slice A n c, .int .i64 s, .bool o, .int .i64 f], .int .i64 2]) (by simp [results, Try.results76, go_sem]) rfl (R.out _ _ _ _)
    · have hk2 : (n : Int) ≤ k := by omega
      clear hm ho hf hs hb hn
      go_enter Try.func76, Try.ntmps76
      go_wp2_with fail
      exact bodyPost_ret (v := .tuple #[.agg #[.slice A n c, .int .i64 s, .bool o, .int .i64 f], .int .i64 2]) (by simp [results, Try.results76, go_sem]) rfl (R.out _ _ _ _)
  · rw [if_neg hb, if_neg hb]
    have hk1 : ¬ k < 0 := by omega
    have hk2 : ¬ (n : Int) ≤ k := by omega
    obtain ⟨j, rfl⟩ : ∃ j : Nat, k = j := ⟨k.toNat, by omega⟩
    rw [Int.toNat_natCast]
    have hj : j < n := by omega
    have hjl : j < d.bs.length := by omega
    have HE : Hid (dTurn j b d = ⟨d.on, f, d.bs.set j (d.bs[j] ^^^ b), s⟩) := by rw [Hid, ← hf, ← hs]; unfold dTurn; simp [hjl]
    have hx := u8_xor_nat (d.bs[j].toNat) b.toNat (d.bs[j].toNat_lt) b.toNat_lt
    rw [show d.bs[j].toNat ^^^ b.toNat = (d.bs[j] ^^^ b).toNat by simp] at hx
    obtain ⟨zb, hzb⟩ : ∃ z, d.bs[j] ^^^ b = z := ⟨_, rfl⟩
    rw [hzb] at HE hx
    have R0 := Lib.hid ((Rf.new w #[.slice A n c, .int .i64 s, .bool o, .int .i64 f] #[.slice none 0 0, .int .i64 0, .bool false, .int .i64 0]).keep ((Only.refl none_ _).alloc (.cells #[] 5)))
    generalize hw2 : (w.alloc (.cells #[.slice A n c, .int .i64 s, .bool o, .int .i64 f] 74)).alloc (.cells #[.slice none 0 0, .int .i64 0, .bool false, .int .i64 0] 74) = w2 at R0
    have hs2 : w2.heap.size = w.heap.size + 1 + 1 := by rw [← hw2]; simp
    have X4 : Hid ((w2.alloc (.cells #[] 5)).ownsRow w2.heap.size 5 1 (.slice (some ⟨w2.heap.size, 0, none⟩) 0 0) ([] : List UInt8).length (byts [])) := by
      have := World.ownsRow_made (base := w2.heap.size) (e := 5) (size := 1) w2 #[] 0 (by simp) (by simp [maxLen]) rfl
      simpa [byts, Hid] using this
    have hb4 : w2.heap.size ≤ (w2.alloc (.cells #[] 5)).heap.size := by simp
    have HB2 : Hid (w.heap.size ≤ w2.heap.size) := by rw [hs2]; exact Nat.le_succ_of_le (Nat.le_succ _)
    have hc1 : ([] : List UInt8).length + d.bs.length ≤ 140737488355328 := by simp; omega
    rw [hs2] at X4 hb4 HB2
    subst hw2
    rw [ho, hf, hs]
    have HO : Hid ((!d.on) = o) := ho
    obtain ⟨xj, hxj⟩ : ∃ x, d.bs[j].toNat = x := ⟨_, rfl⟩
    obtain ⟨yb, hyb⟩ : ∃ x, b.toNat = x := ⟨_, rfl⟩
    rw [hxj, hyb] at hx
    rw [hyb]
    have HXJ : Hid (∃ h : j < d.bs.length, d.bs[j].toNat = xj) := ⟨hjl, hxj⟩
    have HN : Hid (n = d.bs.length) := hn
    clear hm ho hf hs hb hn hml hyb hxj hzb hjl
    go_enter Try.func76, Try.ntmps76
    go_wp2_with (first
      | (at_builtin; refine wpList_append_byt _ rfl (.tmp 18) (.tmp 20) _ rfl (w.heap.size + 1 + 1) 5 i0 (.int .u8 0) Try.underlying29 hi0 hz0 hz1 hz2 rfl _ _ rfl X4.out S (.slice A n c) d.bs rfl (HM.out.only R0.out.ho (fun _ _ h => h)) hc1 hb4 ?_
         intro A5 n5 c5 w5 hown5 hgrow5 hmv5
         have R5 := Lib.hid (R0.out.own X4.out HB2.out hgrow5)
         have X5 := Lib.hid hown5
         have q5 := four_of R5.out.b0
         have z5 := frozen4 R5.out.b0
         have R6 := Lib.hid (R5.out.set0 0 (.slice A5 n5 c5))
         obtain ⟨hjl, hxj⟩ := HXJ.out
         have e5 : n5 = n := (own_len hown5).trans HN.out.symm
         subst e5
         obtain ⟨g5, rfl, hc5, hf5, hs5⟩ := own_byte (bs := d.bs) (R5.out.own_set0 hown5 0 (.slice A5 n5 c5)) hjl
         rw [hxj] at hc5
         have q6 := four_of R6.out.b0
         have hne : w.heap.size ≠ g5 := fun e => own_blk_ne hown5 R5.out.b0 (by decide) (by rw [e]; rfl)
         have hne1 : w.heap.size + 1 ≠ g5 := fun e => own_blk_ne hown5 R5.out.b1 (by decide) (by rw [e]; rfl)
         have o5 : w.heap.size + 1 + 1 ≤ g5 := (hown5.lt g5 rfl).1
         have R7 : Hid (Rf w w.heap.size (w.heap.size + 1) #[.slice (some ⟨g5, 0, none⟩) n5 c5, .int .i64 s, .bool o, .int .i64 f] #[.slice none 0 0, .int .i64 0, .bool false, .int .i64 0] ((w5.setCell ⟨w.heap.size, 0, none⟩ (.slice (some ⟨g5, 0, none⟩) n5 c5)).drew.setCell ⟨g5, j, none⟩ (.int .u8 (zb.toNat : Int)))) :=
           ⟨R6.out.b0.drew.far (p := ⟨g5, j, none⟩) hne _, R6.out.b1.drew.far (p := ⟨g5, j, none⟩) hne1 _, (R6.out.ho.drew).setCell (p := ⟨g5, j, none⟩) (.inr (by show w.heap.size ≤ g5; omega)) _, R6.out.ge, R6.out.he, R6.out.ne⟩
         have q7 := four_of R7.out.b0
         have X7 := Lib.hid (hs5 zb)
         have HG5 := Lib.hid o5
         clear hown5 hgrow5 hmv5 hs5 hxj hjl))
    go_region
    all_goals
      go_wp2_with (first
        | (refine wpList_store_row rfl 74 _ _ rfl (w.heap.size + 1) #[.slice (some ⟨g5, 0, none⟩) n5 c5, .int .i64 s, .bool o, .int .i64 f] rfl rfl 74 _ R7.out.b1 (by kernel_rfl) rfl (by simp [Value.oneCell']) ?_
           have R8 := Lib.hid (R7.out.row1 #[.slice (some ⟨g5, 0, none⟩) n5 c5, .int .i64 s, .bool o, .int .i64 f])))
      refine bodyPost_ret (results_cell_tmp rfl _ _ (w.heap.size + 1) 74 _ _ rfl R8.out.b1 Try.underlying74 rfl (by kernel_rfl) _ rfl) rfl ?_
      rw [HE.out]
      have hfin := R7.out.own_row1 X7.out #[.slice (some ⟨g5, 0, none⟩) n5 c5, .int .i64 s, .bool o, .int .i64 f]
      refine ⟨⟨_, n5, c5, by rw [← HO.out]; rfl, (Byt.of_own hfin).mono (fun k _ hk => .inr ?_)⟩, R8.out.ho⟩
      have := (hfin.lt k hk).1
      omega
end Go.Proofs.Ytkhckgbhpfjfkaa
