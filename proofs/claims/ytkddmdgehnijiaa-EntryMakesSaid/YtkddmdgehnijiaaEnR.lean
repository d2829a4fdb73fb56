/- The call of EntryMakes answers yes, and changes nothing that was there. The statement itself is proved in another text. -/
import Derived.Test.YtkddmdgehnijiaaEnJ
import Derived.Test.YtkddmdgehnijiaaEnF
import Derived.Test.YtkddmdgehnijiaaEnL
import Derived.Test.YtkddmdgehnijiaaBls
namespace Go.Proofs.Ytkddmdgehnijiaa
open Go.RowKit
set_option maxRecDepth 100000
set_option linter.all false

theorem en_one' (e : En) : (#[.string e.k, .string e.v, .bool e.d, .int .i64 e.s.c, .int .i64 e.s.s, .int .i64 e.a.c, .int .i64 e.a.s, .int .i64 e.p, .int .i64 e.g] : Array Value).all (·.oneCell') = true := by simp [Value.oneCell']
theorem checked_two (e : En) : ∃ f z, enChecked e = (f, z) ∧ enCheck e = z ∧ (z ≠ 0 → f = enZero) ∧ (z = 0 → f = e) := by
  by_cases h : enCheck e = 0
  · exact ⟨e, 0, by rw [enChecked, if_pos h], h, fun h => absurd rfl h, fun _ => rfl⟩
  · exact ⟨enZero, enCheck e, by rw [enChecked, if_neg h], rfl, fun _ => rfl, fun h' => absurd h' h⟩

set_option maxHeartbeats 25600000 in
theorem makes_any (e : En) (a : St) (W : World) :
    Calls Try.prog 4 #[.agg #[.string e.k, .string e.v, .bool e.d, .int .i64 e.s.c, .int .i64 e.s.s, .int .i64 e.a.c, .int .i64 e.a.s, .int .i64 e.p, .int .i64 e.g], .agg #[.int .i64 a.c, .int .i64 a.s]] W fun E w' => E = .returned (.bool true) ∧ Below W.heap.size W w' := by
  have T0 := ((Bl.nil W).new 25 #[.string e.k, .string e.v, .bool e.d, .int .i64 e.s.c, .int .i64 e.s.s, .int .i64 e.a.c, .int .i64 e.a.s, .int .i64 e.p, .int .i64 e.g]).new 23 #[.int .i64 a.c, .int .i64 a.s]
  simp only [List.nil_append, List.cons_append, World.size_alloc] at T0
  have T := Lib.hid T0
  clear T0
  have HA := fun w => rf_short e w
  generalize enShort e = sa at HA
  have ha := Lib.hid HA
  clear HA
  cases sa
  · go_enter Try.func4, Try.ntmps4
    go_wp2_with (first
      | (go_at_call 10; refine (en_speaks _).mono ?_; rintro E w9 ⟨rfl, rfl⟩)
      | (go_at_call 11; refine (ha.out _).mono ?_; rintro E w1 ⟨rfl, o1⟩; have t1 := Lib.hid (T.out.keep o1); clear o1))
    go_ret
    exact ⟨rfl, t1.out.ho.below (Nat.le_refl _) (fun k hk => hk.elim)⟩
  · obtain ⟨L, hL⟩ : ∃ L : En, L = ⟨e.k, e.v, false, e.s, e.s, 0, 0⟩ := ⟨_, rfl⟩
    obtain ⟨C, hC⟩ : ∃ L : En, L = ⟨e.k, ⟨#[]⟩, true, e.s, e.s, e.p, 0⟩ := ⟨_, rfl⟩
    have eL : (#[.string L.k, .string L.v, .bool L.d, .int .i64 L.s.c, .int .i64 L.s.s, .int .i64 L.a.c, .int .i64 L.a.s, .int .i64 L.p, .int .i64 L.g] : Array Value) = #[.string e.k, .string e.v, .bool false, .int .i64 e.s.c, .int .i64 e.s.s, .int .i64 e.s.c, .int .i64 e.s.s, .int .i64 0, .int .i64 0] := by rw [hL]
    have eC : (#[.string C.k, .string C.v, .bool C.d, .int .i64 C.s.c, .int .i64 C.s.s, .int .i64 C.a.c, .int .i64 C.a.s, .int .i64 C.p, .int .i64 C.g] : Array Value) = #[.string e.k, .string ⟨#[]⟩, .bool true, .int .i64 e.s.c, .int .i64 e.s.s, .int .i64 e.s.c, .int .i64 e.s.s, .int .i64 e.p, .int .i64 0] := by rw [hC]
    obtain ⟨fa, ka, hfa, hka, za, ya⟩ := checked_two L
    obtain ⟨fb, kb, hfb, hkb, zb, yb⟩ := checked_two C
    obtain ⟨⟨fc, kc⟩, hfc⟩ : ∃ r, enWake e a = r := ⟨_, rfl⟩
    have HP := fun w => en_put e.k e.v e.s w
    have HD := fun w => en_delete e.k e.s e.p w
    have HW := fun w => en_wake e a w
    have HV := fun w => rf_wake e a w
    have HL1 := fun w => rf_check L w
    have HC1 := fun w => rf_check C w
    have HL2 := HL1
    have HC2 := HC1
    rw [eL] at HL2
    rw [eC] at HC2
    rw [← hL, hfa] at HP
    rw [← hC, hfb] at HD
    rw [hfc] at HW HV
    rw [hka] at HL1 HL2
    rw [hkb] at HC1 HC2
    simp only at HP HD HW HV
    have hP := Lib.hid HP
    have hD := Lib.hid HD
    have hW := Lib.hid HW
    have hV := Lib.hid HV
    have hL1 := Lib.hid HL1
    have hC1 := Lib.hid HC1
    have hL2 := Lib.hid HL2
    have hC2 := Lib.hid HC2
    have EL := Lib.hid eL
    have EC := Lib.hid eC
    have ZA := Lib.hid za
    have YA := Lib.hid ya
    have ZB := Lib.hid zb
    have YB := Lib.hid yb
    clear HP HD HW HV HL1 HC1 HL2 HC2 hfa hfb hfc hka hkb hL hC eL eC za ya zb yb
    go_enter Try.func4, Try.ntmps4
    go_wp2_with (first
      | (go_at_call 10; refine (en_speaks _).mono ?_; rintro E w9 ⟨rfl, rfl⟩)
      | (go_at_call 11; refine (ha.out _).mono ?_; rintro E w1 ⟨rfl, o1⟩; have t1 := Lib.hid (T.out.keep o1); have q1 := nine_of (t1.out.get 0 rfl); have q2 := nine_of ((t1.out.get 0 rfl).alloc (.cells #[.string e.k, .string e.v, .bool false, .int .i64 e.s.c, .int .i64 e.s.s, .int .i64 e.s.c, .int .i64 e.s.s, .int .i64 0, .int .i64 0] 25)); clear o1))
    have T2a := (t1.out.new 25 #[.string L.k, .string L.v, .bool L.d, .int .i64 L.s.c, .int .i64 L.s.s, .int .i64 L.a.c, .int .i64 L.a.s, .int .i64 L.p, .int .i64 L.g]).new 25 #[.string C.k, .string C.v, .bool C.d, .int .i64 C.s.c, .int .i64 C.s.s, .int .i64 C.a.c, .int .i64 C.a.s, .int .i64 C.p, .int .i64 C.g]
    rw [EL.out, EC.out] at T2a
    simp only [List.nil_append, List.cons_append, World.size_alloc] at T2a
    have T2 := Lib.hid T2a
    clear T2a q1 q2 T
    generalize hw2 : (w1.alloc (.cells #[.string e.k, .string e.v, .bool false, .int .i64 e.s.c, .int .i64 e.s.s, .int .i64 e.s.c, .int .i64 e.s.s, .int .i64 0, .int .i64 0] 25)).alloc (.cells #[.string e.k, .string ⟨#[]⟩, .bool true, .int .i64 e.s.c, .int .i64 e.s.s, .int .i64 e.s.c, .int .i64 e.s.s, .int .i64 e.p, .int .i64 0] 25) = w2 at *
    have hg5 : W.heap.size + 1 < w1.heap.size := (t1.out.get 1 rfl).lt
    have HG5 := Lib.hid hg5
    clear hg5
    generalize w1.heap.size = g5 at *
    clear t1 hw2
    rw [← EL.out, ← EC.out] at T2
    (refine wp_region_float (fun w' => Bl w2 _ w') (w2.heap.size) 14 (by kernel_rfl) (by kernel_rfl) (T2.out.self.drew) (fun w h => h.ge) (fun w cs t h => h.alloc _) (fun w g cs h hg => T2.out.rowS h hg cs) ?_; simp only [List.take_succ_cons, List.take_zero, List.drop_succ_cons, List.drop_zero, List.take_nil, List.drop_nil])
    repeat (first
      | (refine fl_value (v := ?_) (by rfl) (by rfl) (by rfl) (fun w0 hS => ?_) ?_; rotate_left; (· (skip; go_simp; try (with_reducible rfl))); try simp only [Act.put, List.setIfInBounds_toArray, List.set_cons_zero, List.set_cons_succ, Nat.reduceAdd])
      | (refine fl_value (v := ?_) (by rfl) (by rfl) (by rfl) (fun w0 hS => ?_) ?_; rotate_left; (· (have hc := nine_of (hS.get 0 rfl); go_simp; try (with_reducible rfl))); try simp only [Act.put, List.setIfInBounds_toArray, List.set_cons_zero, List.set_cons_succ, Nat.reduceAdd])
      | (refine fl_call (v := ?_) (f := 21) (args := ?_) (by rfl) (by rfl) (by rfl) (fun w0 hS => ?_) (fun w0 hS => ?_) ?_; rotate_left 2; (· (skip; go_simp; try (with_reducible rfl))); (· (refine (st_of _ _ _).mono ?_; rintro E w8 ⟨rfl, o8⟩; refine ⟨?_, hS.keep o8, o8⟩; rfl)); try simp only [Act.put, List.setIfInBounds_toArray, List.set_cons_zero, List.set_cons_succ, Nat.reduceAdd])
      | (refine fl_call (v := ?_) (f := 27) (args := ?_) (by rfl) (by rfl) (by rfl) (fun w0 hS => ?_) (fun w0 hS => ?_) ?_; rotate_left 2; (· (skip; go_simp; try (with_reducible rfl))); (· (refine (hP.out _).mono ?_; rintro E w8 ⟨rfl, o8⟩; refine ⟨?_, hS.keep o8, o8⟩; rfl)); try simp only [Act.put, List.setIfInBounds_toArray, List.set_cons_zero, List.set_cons_succ, Nat.reduceAdd]))
    (refine fl_make 7 35 #[.string ⟨#[]⟩, .string ⟨#[]⟩, .bool false, .int .i64 0, .int .i64 0, .int .i64 0, .int .i64 0, .int .i64 0, .int .i64 0] (by rfl) (by rfl) (by rfl) (fun ρ w0 => ?_) ?_; (· (go_simp; try (with_reducible rfl))); try simp only [List.nil_append, List.cons_append, Nat.reduceAdd])
    (refine fl_store ⟨11, 7, 35, #[.string ⟨#[]⟩, .string ⟨#[]⟩, .bool false, .int .i64 0, .int .i64 0, .int .i64 0, .int .i64 0, .int .i64 0, .int .i64 0]⟩ #[.string fa.k, .string fa.v, .bool fa.d, .int .i64 fa.s.c, .int .i64 fa.s.s, .int .i64 fa.a.c, .int .i64 fa.a.s, .int .i64 fa.p, .int .i64 fa.g] 35 _ (by simp) (by simp) (by rfl) (by rfl) (by rfl) (Nat.le_of_ble_eq_true rfl) (by rfl) (by kernel_rfl) (by rfl) (en_one' _) ?_; try simp only [List.nil_append, List.cons_append, Nat.reduceAdd])
    (refine fl_value (v := ?_) (by rfl) (by rfl) (by rfl) (fun w0 hS => ?_) ?_; rotate_left; (· (skip; go_simp; try (with_reducible rfl))); try simp only [Act.put, List.setIfInBounds_toArray, List.set_cons_zero, List.set_cons_succ, Nat.reduceAdd])
    refine fl_nil ?_
    intro G w3 t9 hM _
    simp only [List.forall_mem_cons, List.not_mem_nil, false_imp_iff, implies_true, and_true] at hM
    obtain ⟨⟨zs, bx, _, hz⟩, gx⟩ := hM
    obtain rfl := hz trivial
    simp only [putAl, Act.put, List.setIfInBounds_toArray, List.set_cons_zero, List.set_cons_succ]
    generalize G 11 = gA at *
    have T3 := Lib.hid ((T2.out.keep t9.ho).add bx)
    simp only [List.nil_append, List.cons_append] at T3
    have hT3 := Lib.hid (Nat.le_trans T2.out.ge gx)
    have nT3 := Lib.hid (T2.out.fresh gx)
    clear t9 bx gx hz
    go_wp2_with fail
    (refine wp_region_float (fun w' => Bl w3 _ w') (w3.heap.size) 14 (by kernel_rfl) (by kernel_rfl) (T3.out.self.drew) (fun w h => h.ge) (fun w cs t h => h.alloc _) (fun w g cs h hg => T3.out.rowS h hg cs) ?_; simp only [List.take_succ_cons, List.take_zero, List.drop_succ_cons, List.drop_zero, List.take_nil, List.drop_nil])
    repeat (first
      | (refine fl_value (v := ?_) (by rfl) (by rfl) (by rfl) (fun w0 hS => ?_) ?_; rotate_left; (· (skip; go_simp; try (with_reducible rfl))); try simp only [Act.put, List.setIfInBounds_toArray, List.set_cons_zero, List.set_cons_succ, Nat.reduceAdd])
      | (refine fl_value (v := ?_) (by rfl) (by rfl) (by rfl) (fun w0 hS => ?_) ?_; rotate_left; (· (have hc := nine_of (hS.get 0 rfl); go_simp; try (with_reducible rfl))); try simp only [Act.put, List.setIfInBounds_toArray, List.set_cons_zero, List.set_cons_succ, Nat.reduceAdd])
      | (refine fl_call (v := ?_) (f := 21) (args := ?_) (by rfl) (by rfl) (by rfl) (fun w0 hS => ?_) (fun w0 hS => ?_) ?_; rotate_left 2; (· (skip; go_simp; try (with_reducible rfl))); (· (refine (st_of _ _ _).mono ?_; rintro E w8 ⟨rfl, o8⟩; refine ⟨?_, hS.keep o8, o8⟩; rfl)); try simp only [Act.put, List.setIfInBounds_toArray, List.set_cons_zero, List.set_cons_succ, Nat.reduceAdd])
      | (refine fl_call (v := ?_) (f := 28) (args := ?_) (by rfl) (by rfl) (by rfl) (fun w0 hS => ?_) (fun w0 hS => ?_) ?_; rotate_left 2; (· (skip; go_simp; try (with_reducible rfl))); (· (refine (hD.out _).mono ?_; rintro E w8 ⟨rfl, o8⟩; refine ⟨?_, hS.keep o8, o8⟩; rfl)); try simp only [Act.put, List.setIfInBounds_toArray, List.set_cons_zero, List.set_cons_succ, Nat.reduceAdd]))
    (refine fl_make 9 35 #[.string ⟨#[]⟩, .string ⟨#[]⟩, .bool false, .int .i64 0, .int .i64 0, .int .i64 0, .int .i64 0, .int .i64 0, .int .i64 0] (by rfl) (by rfl) (by rfl) (fun ρ w0 => ?_) ?_; (· (go_simp; try (with_reducible rfl))); try simp only [List.nil_append, List.cons_append, Nat.reduceAdd])
    (refine fl_store ⟨11, 9, 35, #[.string ⟨#[]⟩, .string ⟨#[]⟩, .bool false, .int .i64 0, .int .i64 0, .int .i64 0, .int .i64 0, .int .i64 0, .int .i64 0]⟩ #[.string fb.k, .string fb.v, .bool fb.d, .int .i64 fb.s.c, .int .i64 fb.s.s, .int .i64 fb.a.c, .int .i64 fb.a.s, .int .i64 fb.p, .int .i64 fb.g] 35 _ (by simp) (by simp) (by rfl) (by rfl) (by rfl) (Nat.le_of_ble_eq_true rfl) (by rfl) (by kernel_rfl) (by rfl) (en_one' _) ?_; try simp only [List.nil_append, List.cons_append, Nat.reduceAdd])
    (refine fl_value (v := ?_) (by rfl) (by rfl) (by rfl) (fun w0 hS => ?_) ?_; rotate_left; (· (skip; go_simp; try (with_reducible rfl))); try simp only [Act.put, List.setIfInBounds_toArray, List.set_cons_zero, List.set_cons_succ, Nat.reduceAdd])
    refine fl_nil ?_
    intro G w4 t9 hM _
    simp only [List.forall_mem_cons, List.not_mem_nil, false_imp_iff, implies_true, and_true] at hM
    obtain ⟨⟨zs, bx, _, hz⟩, gx⟩ := hM
    obtain rfl := hz trivial
    simp only [putAl, Act.put, List.setIfInBounds_toArray, List.set_cons_zero, List.set_cons_succ]
    generalize G 11 = gB at *
    have T4 := Lib.hid ((T3.out.keep t9.ho).add bx)
    simp only [List.nil_append, List.cons_append] at T4
    have hT4 := Lib.hid (Nat.le_trans T3.out.ge gx)
    have nT4 := Lib.hid (T3.out.fresh gx)
    clear t9 bx gx hz
    go_wp2_with fail
    (refine wp_region_float (fun w' => Bl w4 _ w') (w4.heap.size) 11 (by kernel_rfl) (by kernel_rfl) (T4.out.self.drew) (fun w h => h.ge) (fun w cs t h => h.alloc _) (fun w g cs h hg => T4.out.rowS h hg cs) ?_; simp only [List.take_succ_cons, List.take_zero, List.drop_succ_cons, List.drop_zero, List.take_nil, List.drop_nil])
    repeat (first
      | (refine fl_value (v := ?_) (by rfl) (by rfl) (by rfl) (fun w0 hS => ?_) ?_; rotate_left; (· (skip; go_simp; try (with_reducible rfl))); try simp only [Act.put, List.setIfInBounds_toArray, List.set_cons_zero, List.set_cons_succ, Nat.reduceAdd])
      | (refine fl_value (v := ?_) (by rfl) (by rfl) (by rfl) (fun w0 hS => ?_) ?_; rotate_left; (· (have hc := nine_of (hS.get 0 rfl); have hd := two_of (hS.get 1 rfl); go_simp; try (with_reducible rfl))); try simp only [Act.put, List.setIfInBounds_toArray, List.set_cons_zero, List.set_cons_succ, Nat.reduceAdd])
      | (refine fl_call (v := ?_) (f := 21) (args := ?_) (by rfl) (by rfl) (by rfl) (fun w0 hS => ?_) (fun w0 hS => ?_) ?_; rotate_left 2; (· (skip; go_simp; try (with_reducible rfl))); (· (refine (st_of _ _ _).mono ?_; rintro E w8 ⟨rfl, o8⟩; refine ⟨?_, hS.keep o8, o8⟩; rfl)); try simp only [Act.put, List.setIfInBounds_toArray, List.set_cons_zero, List.set_cons_succ, Nat.reduceAdd])
      | (refine fl_call (v := ?_) (f := 14) (args := ?_) (by rfl) (by rfl) (by rfl) (fun w0 hS => ?_) (fun w0 hS => ?_) ?_; rotate_left 2; (· (skip; go_simp; try (with_reducible rfl))); (· (refine (en_of _ _).mono ?_; rintro E w8 ⟨rfl, o8⟩; refine ⟨?_, hS.keep o8, o8⟩; rfl)); try simp only [Act.put, List.setIfInBounds_toArray, List.set_cons_zero, List.set_cons_succ, Nat.reduceAdd])
      | (refine fl_call (v := ?_) (f := 29) (args := ?_) (by rfl) (by rfl) (by rfl) (fun w0 hS => ?_) (fun w0 hS => ?_) ?_; rotate_left 2; (· (skip; go_simp; try (with_reducible rfl))); (· (refine (hW.out _).mono ?_; rintro E w8 ⟨rfl, o8⟩; refine ⟨?_, hS.keep o8, o8⟩; rfl)); try simp only [Act.put, List.setIfInBounds_toArray, List.set_cons_zero, List.set_cons_succ, Nat.reduceAdd]))
    (refine fl_make 11 35 #[.string ⟨#[]⟩, .string ⟨#[]⟩, .bool false, .int .i64 0, .int .i64 0, .int .i64 0, .int .i64 0, .int .i64 0, .int .i64 0] (by rfl) (by rfl) (by rfl) (fun ρ w0 => ?_) ?_; (· (go_simp; try (with_reducible rfl))); try simp only [List.nil_append, List.cons_append, Nat.reduceAdd])
    (refine fl_store ⟨8, 11, 35, #[.string ⟨#[]⟩, .string ⟨#[]⟩, .bool false, .int .i64 0, .int .i64 0, .int .i64 0, .int .i64 0, .int .i64 0, .int .i64 0]⟩ #[.string fc.k, .string fc.v, .bool fc.d, .int .i64 fc.s.c, .int .i64 fc.s.s, .int .i64 fc.a.c, .int .i64 fc.a.s, .int .i64 fc.p, .int .i64 fc.g] 35 _ (by simp) (by simp) (by rfl) (by rfl) (by rfl) (Nat.le_of_ble_eq_true rfl) (by rfl) (by kernel_rfl) (by rfl) (en_one' _) ?_; try simp only [List.nil_append, List.cons_append, Nat.reduceAdd])
    (refine fl_value (v := ?_) (by rfl) (by rfl) (by rfl) (fun w0 hS => ?_) ?_; rotate_left; (· (skip; go_simp; try (with_reducible rfl))); try simp only [Act.put, List.setIfInBounds_toArray, List.set_cons_zero, List.set_cons_succ, Nat.reduceAdd])
    refine fl_nil ?_
    intro G w5 t9 hM _
    simp only [List.forall_mem_cons, List.not_mem_nil, false_imp_iff, implies_true, and_true] at hM
    obtain ⟨⟨zs, bx, _, hz⟩, gx⟩ := hM
    obtain rfl := hz trivial
    simp only [putAl, Act.put, List.setIfInBounds_toArray, List.set_cons_zero, List.set_cons_succ]
    generalize G 8 = gC at *
    have T5 := Lib.hid ((T4.out.keep t9.ho).add bx)
    simp only [List.nil_append, List.cons_append] at T5
    have hT5 := Lib.hid (Nat.le_trans T4.out.ge gx)
    have nT5 := Lib.hid (T4.out.fresh gx)
    clear t9 bx gx hz
    have dist : (W.heap.size ≠ g5 ∧ W.heap.size + 1 ≠ g5 ∧ g5 + 1 ≠ g5 ∧ gA ≠ g5 ∧ gB ≠ g5 ∧ gC ≠ g5) ∧ W.heap.size ≠ g5 + 1 ∧ W.heap.size + 1 ≠ g5 + 1 ∧ g5 ≠ g5 + 1 ∧ gA ≠ g5 + 1 ∧ gB ≠ g5 + 1 ∧ gC ≠ g5 + 1 := by
      have h0 := HG5.out
      have h1 := nT3.out
      have h2 := nT4.out
      have h3 := nT5.out
      simp only [List.forall_mem_cons] at h1 h2 h3
      refine ⟨⟨by omega, by omega, by omega, fun e => h1.2.2.1 e.symm, fun e => h2.2.2.1 e.symm, fun e => h3.2.2.1 e.symm⟩, by omega, by omega, by omega, fun e => h1.2.2.2.1 e.symm, fun e => h2.2.2.2.1 e.symm, fun e => h3.2.2.2.1 e.symm⟩
    have HDI := Lib.hid dist
    have HG : Hid (W.heap.size ≤ g5 ∧ W.heap.size ≤ g5 + 1 ∧ g5 + 1 < w5.heap.size) := by
      have h1 := (T5.out.get 3 rfl).lt
      have h2 := HG5.out
      exact ⟨by omega, by omega, h1⟩
    have EA := fun w => eql_of (eq_ref_entry w fa fa 9997)
    have EB := fun w => eql_of (eq_ref_entry w fb fb 9997)
    have ECc := fun w => eql_of (eq_ref_entry w fc fc 9997)
    rw [enEq_refl] at EA EB ECc
    have za : (ka == ka) = true := by simp
    have zb : (kb == kb) = true := by simp
    have zc : (kc == kc) = true := by simp
    clear dist hT3 hT4 hT5 nT3 nT4 nT5 hP hD hW HG5 T2 T3 T4 ha
    have tokA : True := trivial
    have tokB : True := trivial
    have tokC : True := trivial
    cases hka : ka != 0 <;> cases hkb : kb != 0
    · have fA : fa = L := YA.out (by simpa using hka)
      have fB : fb = C := YB.out (by simpa using hkb)
      have FA := Lib.hid fA
      have FB := Lib.hid fB
      clear fA fB
      go_wp2_with (first
        | (refine wpList_load_g (by rfl) 25 _ rfl W.heap.size rfl 25 _ (0, 0) _ (T5.out.get 0 rfl) Try.underlying25 rfl (by kernel_rfl) ?_)
        | (refine wpList_load_g (by rfl) 23 _ rfl (W.heap.size + 1) rfl 23 _ (0, 0) _ (T5.out.get 1 rfl) Try.underlying23 rfl (by kernel_rfl) ?_)
        | (go_at_call 30; refine (hV.out _).mono ?_; rintro E w6 ⟨rfl, o6⟩; have T6a := (T5.out.keep o6).new 25 #[.string fc.k, .string fc.v, .bool fc.d, .int .i64 fc.s.c, .int .i64 fc.s.s, .int .i64 fc.a.c, .int .i64 fc.a.s, .int .i64 fc.p, .int .i64 fc.g]; simp only [List.nil_append, List.cons_append] at T6a; have T6 := Lib.hid T6a; have HW6 : Hid (w5.heap.size ≤ w6.heap.size) := o6.size; clear o6 T6a)
        | (refine wpList_load_g (by rfl) 25 _ rfl g5 rfl 25 _ (0, 0) _ (T6.out.get 2 rfl) Try.underlying25 rfl (by kernel_rfl) ?_)
        | (go_at_call 12; have _t := tokA; refine (hL1.out _).mono ?_; rintro E w7 ⟨rfl, o7⟩; have T7 := Lib.hid (T6.out.keep o7); clear o7 tokA; have T8 := T7)
        | (refine wpList_load_g (by rfl) 25 _ rfl (g5 + 1) rfl 25 _ (0, 0) _ (T8.out.get 3 rfl) Try.underlying25 rfl (by kernel_rfl) ?_)
        | (go_at_call 12; have _t := tokB; refine (hC1.out _).mono ?_; rintro E w9 ⟨rfl, o9⟩; have T9 := Lib.hid (T8.out.keep o9); clear o9 tokB; have T10 := T9; have q10 := nine_of (T10.out.get 0 rfl))
        | (go_at_call 12; have _t := tokC; refine (hL2.out _).mono ?_; rintro E w11 ⟨rfl, o11⟩; have T11 := Lib.hid (T10.out.keep o11); have q11 := nine_of (T11.out.get 0 rfl); clear o11 tokC q10)
        | (go_at_call 12; refine (hC2.out _).mono ?_; rintro E w12 ⟨rfl, o12⟩; have T12 := Lib.hid (T11.out.keep o12); clear o12))
      have T13 : Hid (Bl W [(W.heap.size, 25, #[.string e.k, .string e.v, .bool e.d, .int .i64 e.s.c, .int .i64 e.s.s, .int .i64 e.a.c, .int .i64 e.a.s, .int .i64 e.p, .int .i64 e.g]), (W.heap.size + 1, 23, #[.int .i64 a.c, .int .i64 a.s]), (g5, 25, #[.string fa.k, .string fa.v, .bool fa.d, .int .i64 fa.s.c, .int .i64 fa.s.s, .int .i64 fa.a.c, .int .i64 fa.a.s, .int .i64 fa.p, .int .i64 fa.g]), (g5 + 1, 25, #[.string fb.k, .string fb.v, .bool fb.d, .int .i64 fb.s.c, .int .i64 fb.s.s, .int .i64 fb.a.c, .int .i64 fb.a.s, .int .i64 fb.p, .int .i64 fb.g]), (gA, 35, #[.string fa.k, .string fa.v, .bool fa.d, .int .i64 fa.s.c, .int .i64 fa.s.s, .int .i64 fa.a.c, .int .i64 fa.a.s, .int .i64 fa.p, .int .i64 fa.g]), (gB, 35, #[.string fb.k, .string fb.v, .bool fb.d, .int .i64 fb.s.c, .int .i64 fb.s.s, .int .i64 fb.a.c, .int .i64 fb.a.s, .int .i64 fb.p, .int .i64 fb.g]), (gC, 35, #[.string fc.k, .string fc.v, .bool fc.d, .int .i64 fc.s.c, .int .i64 fc.s.s, .int .i64 fc.a.c, .int .i64 fc.a.s, .int .i64 fc.p, .int .i64 fc.g]), (w6.heap.size, 25, #[.string fc.k, .string fc.v, .bool fc.d, .int .i64 fc.s.c, .int .i64 fc.s.s, .int .i64 fc.a.c, .int .i64 fc.a.s, .int .i64 fc.p, .int .i64 fc.g])] w12) := by
        have := T12.out
        rw [FA.out, FB.out] at this ⊢
        exact this
      (refine wp_region_steady (fun w' => Bl W _ w') 32 (by kernel_rfl) (by kernel_rfl) (T13.out.drew) ?_; simp only [List.take_succ_cons, List.take_zero, List.drop_succ_cons, List.drop_zero])
      repeat (first
        | (refine sd_value (v := ?_) (by rfl) (fun w0 hS => ?_) ?_; rotate_left; (· (skip; go_simp; try (with_reducible rfl))); try simp only [Act.put, List.setIfInBounds_toArray, List.set_cons_zero, List.set_cons_succ])
        | (refine sd_value (v := ?_) (by rfl) (fun w0 hS => ?_) ?_; rotate_left; (· (have hc := nine_of (hS.get 4 rfl); go_simp; try (with_reducible rfl))); try simp only [Act.put, List.setIfInBounds_toArray, List.set_cons_zero, List.set_cons_succ])
        | (refine sd_value (v := ?_) (by rfl) (fun w0 hS => ?_) ?_; rotate_left; (· (have hc := nine_of (hS.get 2 rfl); go_simp; try (with_reducible rfl))); try simp only [Act.put, List.setIfInBounds_toArray, List.set_cons_zero, List.set_cons_succ])
        | (refine sd_value (v := ?_) (by rfl) (fun w0 hS => ?_) ?_; rotate_left; (· (have hc := nine_of (hS.get 5 rfl); go_simp; try (with_reducible rfl))); try simp only [Act.put, List.setIfInBounds_toArray, List.set_cons_zero, List.set_cons_succ])
        | (refine sd_value (v := ?_) (by rfl) (fun w0 hS => ?_) ?_; rotate_left; (· (have hc := nine_of (hS.get 3 rfl); go_simp; try (with_reducible rfl))); try simp only [Act.put, List.setIfInBounds_toArray, List.set_cons_zero, List.set_cons_succ])
        | (refine sd_value (v := ?_) (by rfl) (fun w0 hS => ?_) ?_; rotate_left; (· (have hc := nine_of (hS.get 6 rfl); go_simp; try (with_reducible rfl))); try simp only [Act.put, List.setIfInBounds_toArray, List.set_cons_zero, List.set_cons_succ])
        | (refine sd_value (v := ?_) (by rfl) (fun w0 hS => ?_) ?_; rotate_left; (· (have hc := nine_of (hS.get 7 rfl); go_simp; try (with_reducible rfl))); try simp only [Act.put, List.setIfInBounds_toArray, List.set_cons_zero, List.set_cons_succ])
        | (refine sd_call (v := ?_) (f := 26) (args := ?_) (by rfl) (fun w0 hS => ?_) (fun w0 hS => ?_) ?_; rotate_left 2; (· (skip; go_simp; try (with_reducible rfl))); (· (refine (en_to _ _).mono ?_; rintro E w8 ⟨rfl, o8⟩; refine ⟨?_, hS.keep o8⟩; rfl)); try simp only [Act.put, List.setIfInBounds_toArray, List.set_cons_zero, List.set_cons_succ]))
      refine sd_nil ?_
      intro w14 t14
      go_wp2_with fail
      go_ret
      exact ⟨rfl, t14.ho.below (Nat.le_refl _) (fun k hk => hk.elim)⟩
    · have fA : fa = L := YA.out (by simpa using hka)
      have fB : fb = enZero := ZB.out (by simpa using hkb)
      have FA := Lib.hid fA
      have FB := Lib.hid fB
      clear fA fB
      go_wp2_with (first
        | (refine wpList_load_g (by rfl) 25 _ rfl W.heap.size rfl 25 _ (0, 0) _ (T5.out.get 0 rfl) Try.underlying25 rfl (by kernel_rfl) ?_)
        | (refine wpList_load_g (by rfl) 23 _ rfl (W.heap.size + 1) rfl 23 _ (0, 0) _ (T5.out.get 1 rfl) Try.underlying23 rfl (by kernel_rfl) ?_)
        | (go_at_call 30; refine (hV.out _).mono ?_; rintro E w6 ⟨rfl, o6⟩; have T6a := (T5.out.keep o6).new 25 #[.string fc.k, .string fc.v, .bool fc.d, .int .i64 fc.s.c, .int .i64 fc.s.s, .int .i64 fc.a.c, .int .i64 fc.a.s, .int .i64 fc.p, .int .i64 fc.g]; simp only [List.nil_append, List.cons_append] at T6a; have T6 := Lib.hid T6a; have HW6 : Hid (w5.heap.size ≤ w6.heap.size) := o6.size; clear o6 T6a)
        | (refine wpList_load_g (by rfl) 25 _ rfl g5 rfl 25 _ (0, 0) _ (T6.out.get 2 rfl) Try.underlying25 rfl (by kernel_rfl) ?_)
        | (go_at_call 12; have _t := tokA; refine (hL1.out _).mono ?_; rintro E w7 ⟨rfl, o7⟩; have T7 := Lib.hid (T6.out.keep o7); clear o7 tokA; have T8 := T7)
        | (refine wpList_load_g (by rfl) 25 _ rfl (g5 + 1) rfl 25 _ (0, 0) _ (T8.out.get 3 rfl) Try.underlying25 rfl (by kernel_rfl) ?_)
        | (go_at_call 12; have _t := tokB; refine (hC1.out _).mono ?_; rintro E w9 ⟨rfl, o9⟩; have T9 := Lib.hid (T8.out.keep o9); clear o9 tokB)
        | (refine wpList_store_row rfl 25 _ _ rfl (g5 + 1) #[.string ⟨#[]⟩, .string ⟨#[]⟩, .bool false, .int .i64 0, .int .i64 0, .int .i64 0, .int .i64 0, .int .i64 0, .int .i64 0] rfl rfl 25 _ (T9.out.get 3 rfl) (by kernel_rfl) rfl (by simp [Value.oneCell']) ?_; have Ta := T9.out.over 3 rfl HG.out.2.1 (by simp only [List.take_succ_cons, List.take_zero, List.drop_succ_cons, List.drop_zero, List.cons_append, List.nil_append, List.forall_mem_cons, List.not_mem_nil, false_imp_iff, implies_true, and_true]; obtain ⟨_, d1, d2, d3, d4, d5, d6⟩ := HDI.out; exact ⟨d1, d2, d3, d4, d5, d6, by have := HG.out.2.2; have := HW6.out; omega⟩) #[.string ⟨#[]⟩, .string ⟨#[]⟩, .bool false, .int .i64 0, .int .i64 0, .int .i64 0, .int .i64 0, .int .i64 0, .int .i64 0]; simp only [List.set_cons_zero, List.set_cons_succ] at Ta; have T10 := Lib.hid Ta; have q10 := nine_of (T10.out.get 0 rfl); clear Ta)
        | (go_at_call 12; have _t := tokC; refine (hL2.out _).mono ?_; rintro E w11 ⟨rfl, o11⟩; have T11 := Lib.hid (T10.out.keep o11); have q11 := nine_of (T11.out.get 0 rfl); clear o11 tokC q10)
        | (go_at_call 12; refine (hC2.out _).mono ?_; rintro E w12 ⟨rfl, o12⟩; have T12 := Lib.hid (T11.out.keep o12); clear o12))
      have T13 : Hid (Bl W [(W.heap.size, 25, #[.string e.k, .string e.v, .bool e.d, .int .i64 e.s.c, .int .i64 e.s.s, .int .i64 e.a.c, .int .i64 e.a.s, .int .i64 e.p, .int .i64 e.g]), (W.heap.size + 1, 23, #[.int .i64 a.c, .int .i64 a.s]), (g5, 25, #[.string fa.k, .string fa.v, .bool fa.d, .int .i64 fa.s.c, .int .i64 fa.s.s, .int .i64 fa.a.c, .int .i64 fa.a.s, .int .i64 fa.p, .int .i64 fa.g]), (g5 + 1, 25, #[.string fb.k, .string fb.v, .bool fb.d, .int .i64 fb.s.c, .int .i64 fb.s.s, .int .i64 fb.a.c, .int .i64 fb.a.s, .int .i64 fb.p, .int .i64 fb.g]), (gA, 35, #[.string fa.k, .string fa.v, .bool fa.d, .int .i64 fa.s.c, .int .i64 fa.s.s, .int .i64 fa.a.c, .int .i64 fa.a.s, .int .i64 fa.p, .int .i64 fa.g]), (gB, 35, #[.string fb.k, .string fb.v, .bool fb.d, .int .i64 fb.s.c, .int .i64 fb.s.s, .int .i64 fb.a.c, .int .i64 fb.a.s, .int .i64 fb.p, .int .i64 fb.g]), (gC, 35, #[.string fc.k, .string fc.v, .bool fc.d, .int .i64 fc.s.c, .int .i64 fc.s.s, .int .i64 fc.a.c, .int .i64 fc.a.s, .int .i64 fc.p, .int .i64 fc.g]), (w6.heap.size, 25, #[.string fc.k, .string fc.v, .bool fc.d, .int .i64 fc.s.c, .int .i64 fc.s.s, .int .i64 fc.a.c, .int .i64 fc.a.s, .int .i64 fc.p, .int .i64 fc.g])] w12) := by
        have := T12.out
        rw [FA.out, FB.out] at this ⊢
        exact this
      (refine wp_region_steady (fun w' => Bl W _ w') 32 (by kernel_rfl) (by kernel_rfl) (T13.out.drew) ?_; simp only [List.take_succ_cons, List.take_zero, List.drop_succ_cons, List.drop_zero])
      repeat (first
        | (refine sd_value (v := ?_) (by rfl) (fun w0 hS => ?_) ?_; rotate_left; (· (skip; go_simp; try (with_reducible rfl))); try simp only [Act.put, List.setIfInBounds_toArray, List.set_cons_zero, List.set_cons_succ])
        | (refine sd_value (v := ?_) (by rfl) (fun w0 hS => ?_) ?_; rotate_left; (· (have hc := nine_of (hS.get 4 rfl); go_simp; try (with_reducible rfl))); try simp only [Act.put, List.setIfInBounds_toArray, List.set_cons_zero, List.set_cons_succ])
        | (refine sd_value (v := ?_) (by rfl) (fun w0 hS => ?_) ?_; rotate_left; (· (have hc := nine_of (hS.get 2 rfl); go_simp; try (with_reducible rfl))); try simp only [Act.put, List.setIfInBounds_toArray, List.set_cons_zero, List.set_cons_succ])
        | (refine sd_value (v := ?_) (by rfl) (fun w0 hS => ?_) ?_; rotate_left; (· (have hc := nine_of (hS.get 5 rfl); go_simp; try (with_reducible rfl))); try simp only [Act.put, List.setIfInBounds_toArray, List.set_cons_zero, List.set_cons_succ])
        | (refine sd_value (v := ?_) (by rfl) (fun w0 hS => ?_) ?_; rotate_left; (· (have hc := nine_of (hS.get 3 rfl); go_simp; try (with_reducible rfl))); try simp only [Act.put, List.setIfInBounds_toArray, List.set_cons_zero, List.set_cons_succ])
        | (refine sd_value (v := ?_) (by rfl) (fun w0 hS => ?_) ?_; rotate_left; (· (have hc := nine_of (hS.get 6 rfl); go_simp; try (with_reducible rfl))); try simp only [Act.put, List.setIfInBounds_toArray, List.set_cons_zero, List.set_cons_succ])
        | (refine sd_value (v := ?_) (by rfl) (fun w0 hS => ?_) ?_; rotate_left; (· (have hc := nine_of (hS.get 7 rfl); go_simp; try (with_reducible rfl))); try simp only [Act.put, List.setIfInBounds_toArray, List.set_cons_zero, List.set_cons_succ])
        | (refine sd_call (v := ?_) (f := 26) (args := ?_) (by rfl) (fun w0 hS => ?_) (fun w0 hS => ?_) ?_; rotate_left 2; (· (skip; go_simp; try (with_reducible rfl))); (· (refine (en_to _ _).mono ?_; rintro E w8 ⟨rfl, o8⟩; refine ⟨?_, hS.keep o8⟩; rfl)); try simp only [Act.put, List.setIfInBounds_toArray, List.set_cons_zero, List.set_cons_succ]))
      refine sd_nil ?_
      intro w14 t14
      go_wp2_with fail
      go_ret
      exact ⟨rfl, t14.ho.below (Nat.le_refl _) (fun k hk => hk.elim)⟩
    · have fA : fa = enZero := ZA.out (by simpa using hka)
      have fB : fb = C := YB.out (by simpa using hkb)
      have FA := Lib.hid fA
      have FB := Lib.hid fB
      clear fA fB
      go_wp2_with (first
        | (refine wpList_load_g (by rfl) 25 _ rfl W.heap.size rfl 25 _ (0, 0) _ (T5.out.get 0 rfl) Try.underlying25 rfl (by kernel_rfl) ?_)
        | (refine wpList_load_g (by rfl) 23 _ rfl (W.heap.size + 1) rfl 23 _ (0, 0) _ (T5.out.get 1 rfl) Try.underlying23 rfl (by kernel_rfl) ?_)
        | (go_at_call 30; refine (hV.out _).mono ?_; rintro E w6 ⟨rfl, o6⟩; have T6a := (T5.out.keep o6).new 25 #[.string fc.k, .string fc.v, .bool fc.d, .int .i64 fc.s.c, .int .i64 fc.s.s, .int .i64 fc.a.c, .int .i64 fc.a.s, .int .i64 fc.p, .int .i64 fc.g]; simp only [List.nil_append, List.cons_append] at T6a; have T6 := Lib.hid T6a; have HW6 : Hid (w5.heap.size ≤ w6.heap.size) := o6.size; clear o6 T6a)
        | (refine wpList_load_g (by rfl) 25 _ rfl g5 rfl 25 _ (0, 0) _ (T6.out.get 2 rfl) Try.underlying25 rfl (by kernel_rfl) ?_)
        | (go_at_call 12; have _t := tokA; refine (hL1.out _).mono ?_; rintro E w7 ⟨rfl, o7⟩; have T7 := Lib.hid (T6.out.keep o7); clear o7 tokA)
        | (refine wpList_store_row rfl 25 _ _ rfl g5 #[.string ⟨#[]⟩, .string ⟨#[]⟩, .bool false, .int .i64 0, .int .i64 0, .int .i64 0, .int .i64 0, .int .i64 0, .int .i64 0] rfl rfl 25 _ (T7.out.get 2 rfl) (by kernel_rfl) rfl (by simp [Value.oneCell']) ?_; have T8a := T7.out.over 2 rfl HG.out.1 (by simp only [List.take_succ_cons, List.take_zero, List.drop_succ_cons, List.drop_zero, List.cons_append, List.nil_append, List.forall_mem_cons, List.not_mem_nil, false_imp_iff, implies_true, and_true]; obtain ⟨⟨d1, d2, d3, d4, d5, d6⟩, _⟩ := HDI.out; exact ⟨d1, d2, d3, d4, d5, d6, by have := HG.out.2.2; have := HW6.out; omega⟩) #[.string ⟨#[]⟩, .string ⟨#[]⟩, .bool false, .int .i64 0, .int .i64 0, .int .i64 0, .int .i64 0, .int .i64 0, .int .i64 0]; simp only [List.set_cons_zero, List.set_cons_succ] at T8a; have T8 := Lib.hid T8a; clear T8a)
        | (refine wpList_load_g (by rfl) 25 _ rfl (g5 + 1) rfl 25 _ (0, 0) _ (T8.out.get 3 rfl) Try.underlying25 rfl (by kernel_rfl) ?_)
        | (go_at_call 12; have _t := tokB; refine (hC1.out _).mono ?_; rintro E w9 ⟨rfl, o9⟩; have T9 := Lib.hid (T8.out.keep o9); clear o9 tokB; have T10 := T9; have q10 := nine_of (T10.out.get 0 rfl))
        | (go_at_call 12; have _t := tokC; refine (hL2.out _).mono ?_; rintro E w11 ⟨rfl, o11⟩; have T11 := Lib.hid (T10.out.keep o11); have q11 := nine_of (T11.out.get 0 rfl); clear o11 tokC q10)
        | (go_at_call 12; refine (hC2.out _).mono ?_; rintro E w12 ⟨rfl, o12⟩; have T12 := Lib.hid (T11.out.keep o12); clear o12))
      have T13 : Hid (Bl W [(W.heap.size, 25, #[.string e.k, .string e.v, .bool e.d, .int .i64 e.s.c, .int .i64 e.s.s, .int .i64 e.a.c, .int .i64 e.a.s, .int .i64 e.p, .int .i64 e.g]), (W.heap.size + 1, 23, #[.int .i64 a.c, .int .i64 a.s]), (g5, 25, #[.string fa.k, .string fa.v, .bool fa.d, .int .i64 fa.s.c, .int .i64 fa.s.s, .int .i64 fa.a.c, .int .i64 fa.a.s, .int .i64 fa.p, .int .i64 fa.g]), (g5 + 1, 25, #[.string fb.k, .string fb.v, .bool fb.d, .int .i64 fb.s.c, .int .i64 fb.s.s, .int .i64 fb.a.c, .int .i64 fb.a.s, .int .i64 fb.p, .int .i64 fb.g]), (gA, 35, #[.string fa.k, .string fa.v, .bool fa.d, .int .i64 fa.s.c, .int .i64 fa.s.s, .int .i64 fa.a.c, .int .i64 fa.a.s, .int .i64 fa.p, .int .i64 fa.g]), (gB, 35, #[.string fb.k, .string fb.v, .bool fb.d, .int .i64 fb.s.c, .int .i64 fb.s.s, .int .i64 fb.a.c, .int .i64 fb.a.s, .int .i64 fb.p, .int .i64 fb.g]), (gC, 35, #[.string fc.k, .string fc.v, .bool fc.d, .int .i64 fc.s.c, .int .i64 fc.s.s, .int .i64 fc.a.c, .int .i64 fc.a.s, .int .i64 fc.p, .int .i64 fc.g]), (w6.heap.size, 25, #[.string fc.k, .string fc.v, .bool fc.d, .int .i64 fc.s.c, .int .i64 fc.s.s, .int .i64 fc.a.c, .int .i64 fc.a.s, .int .i64 fc.p, .int .i64 fc.g])] w12) := by
        have := T12.out
        rw [FA.out, FB.out] at this ⊢
        exact this
      (refine wp_region_steady (fun w' => Bl W _ w') 32 (by kernel_rfl) (by kernel_rfl) (T13.out.drew) ?_; simp only [List.take_succ_cons, List.take_zero, List.drop_succ_cons, List.drop_zero])
      repeat (first
        | (refine sd_value (v := ?_) (by rfl) (fun w0 hS => ?_) ?_; rotate_left; (· (skip; go_simp; try (with_reducible rfl))); try simp only [Act.put, List.setIfInBounds_toArray, List.set_cons_zero, List.set_cons_succ])
        | (refine sd_value (v := ?_) (by rfl) (fun w0 hS => ?_) ?_; rotate_left; (· (have hc := nine_of (hS.get 4 rfl); go_simp; try (with_reducible rfl))); try simp only [Act.put, List.setIfInBounds_toArray, List.set_cons_zero, List.set_cons_succ])
        | (refine sd_value (v := ?_) (by rfl) (fun w0 hS => ?_) ?_; rotate_left; (· (have hc := nine_of (hS.get 2 rfl); go_simp; try (with_reducible rfl))); try simp only [Act.put, List.setIfInBounds_toArray, List.set_cons_zero, List.set_cons_succ])
        | (refine sd_value (v := ?_) (by rfl) (fun w0 hS => ?_) ?_; rotate_left; (· (have hc := nine_of (hS.get 5 rfl); go_simp; try (with_reducible rfl))); try simp only [Act.put, List.setIfInBounds_toArray, List.set_cons_zero, List.set_cons_succ])
        | (refine sd_value (v := ?_) (by rfl) (fun w0 hS => ?_) ?_; rotate_left; (· (have hc := nine_of (hS.get 3 rfl); go_simp; try (with_reducible rfl))); try simp only [Act.put, List.setIfInBounds_toArray, List.set_cons_zero, List.set_cons_succ])
        | (refine sd_value (v := ?_) (by rfl) (fun w0 hS => ?_) ?_; rotate_left; (· (have hc := nine_of (hS.get 6 rfl); go_simp; try (with_reducible rfl))); try simp only [Act.put, List.setIfInBounds_toArray, List.set_cons_zero, List.set_cons_succ])
        | (refine sd_value (v := ?_) (by rfl) (fun w0 hS => ?_) ?_; rotate_left; (· (have hc := nine_of (hS.get 7 rfl); go_simp; try (with_reducible rfl))); try simp only [Act.put, List.setIfInBounds_toArray, List.set_cons_zero, List.set_cons_succ])
        | (refine sd_call (v := ?_) (f := 26) (args := ?_) (by rfl) (fun w0 hS => ?_) (fun w0 hS => ?_) ?_; rotate_left 2; (· (skip; go_simp; try (with_reducible rfl))); (· (refine (en_to _ _).mono ?_; rintro E w8 ⟨rfl, o8⟩; refine ⟨?_, hS.keep o8⟩; rfl)); try simp only [Act.put, List.setIfInBounds_toArray, List.set_cons_zero, List.set_cons_succ]))
      refine sd_nil ?_
      intro w14 t14
      go_wp2_with fail
      go_ret
      exact ⟨rfl, t14.ho.below (Nat.le_refl _) (fun k hk => hk.elim)⟩
    · have fA : fa = enZero := ZA.out (by simpa using hka)
      have fB : fb = enZero := ZB.out (by simpa using hkb)
      have FA := Lib.hid fA
      have FB := Lib.hid fB
      clear fA fB
      go_wp2_with (first
        | (refine wpList_load_g (by rfl) 25 _ rfl W.heap.size rfl 25 _ (0, 0) _ (T5.out.get 0 rfl) Try.underlying25 rfl (by kernel_rfl) ?_)
        | (refine wpList_load_g (by rfl) 23 _ rfl (W.heap.size + 1) rfl 23 _ (0, 0) _ (T5.out.get 1 rfl) Try.underlying23 rfl (by kernel_rfl) ?_)
        | (go_at_call 30; refine (hV.out _).mono ?_; rintro E w6 ⟨rfl, o6⟩; have T6a := (T5.out.keep o6).new 25 #[.string fc.k, .string fc.v, .bool fc.d, .int .i64 fc.s.c, .int .i64 fc.s.s, .int .i64 fc.a.c, .int .i64 fc.a.s, .int .i64 fc.p, .int .i64 fc.g]; simp only [List.nil_append, List.cons_append] at T6a; have T6 := Lib.hid T6a; have HW6 : Hid (w5.heap.size ≤ w6.heap.size) := o6.size; clear o6 T6a)
        | (refine wpList_load_g (by rfl) 25 _ rfl g5 rfl 25 _ (0, 0) _ (T6.out.get 2 rfl) Try.underlying25 rfl (by kernel_rfl) ?_)
        | (go_at_call 12; have _t := tokA; refine (hL1.out _).mono ?_; rintro E w7 ⟨rfl, o7⟩; have T7 := Lib.hid (T6.out.keep o7); clear o7 tokA)
        | (refine wpList_store_row rfl 25 _ _ rfl g5 #[.string ⟨#[]⟩, .string ⟨#[]⟩, .bool false, .int .i64 0, .int .i64 0, .int .i64 0, .int .i64 0, .int .i64 0, .int .i64 0] rfl rfl 25 _ (T7.out.get 2 rfl) (by kernel_rfl) rfl (by simp [Value.oneCell']) ?_; have T8a := T7.out.over 2 rfl HG.out.1 (by simp only [List.take_succ_cons, List.take_zero, List.drop_succ_cons, List.drop_zero, List.cons_append, List.nil_append, List.forall_mem_cons, List.not_mem_nil, false_imp_iff, implies_true, and_true]; obtain ⟨⟨d1, d2, d3, d4, d5, d6⟩, _⟩ := HDI.out; exact ⟨d1, d2, d3, d4, d5, d6, by have := HG.out.2.2; have := HW6.out; omega⟩) #[.string ⟨#[]⟩, .string ⟨#[]⟩, .bool false, .int .i64 0, .int .i64 0, .int .i64 0, .int .i64 0, .int .i64 0, .int .i64 0]; simp only [List.set_cons_zero, List.set_cons_succ] at T8a; have T8 := Lib.hid T8a; clear T8a)
        | (refine wpList_load_g (by rfl) 25 _ rfl (g5 + 1) rfl 25 _ (0, 0) _ (T8.out.get 3 rfl) Try.underlying25 rfl (by kernel_rfl) ?_)
        | (go_at_call 12; have _t := tokB; refine (hC1.out _).mono ?_; rintro E w9 ⟨rfl, o9⟩; have T9 := Lib.hid (T8.out.keep o9); clear o9 tokB)
        | (refine wpList_store_row rfl 25 _ _ rfl (g5 + 1) #[.string ⟨#[]⟩, .string ⟨#[]⟩, .bool false, .int .i64 0, .int .i64 0, .int .i64 0, .int .i64 0, .int .i64 0, .int .i64 0] rfl rfl 25 _ (T9.out.get 3 rfl) (by kernel_rfl) rfl (by simp [Value.oneCell']) ?_; have Ta := T9.out.over 3 rfl HG.out.2.1 (by simp only [List.take_succ_cons, List.take_zero, List.drop_succ_cons, List.drop_zero, List.cons_append, List.nil_append, List.forall_mem_cons, List.not_mem_nil, false_imp_iff, implies_true, and_true]; obtain ⟨_, d1, d2, d3, d4, d5, d6⟩ := HDI.out; exact ⟨d1, d2, d3, d4, d5, d6, by have := HG.out.2.2; have := HW6.out; omega⟩) #[.string ⟨#[]⟩, .string ⟨#[]⟩, .bool false, .int .i64 0, .int .i64 0, .int .i64 0, .int .i64 0, .int .i64 0, .int .i64 0]; simp only [List.set_cons_zero, List.set_cons_succ] at Ta; have T10 := Lib.hid Ta; have q10 := nine_of (T10.out.get 0 rfl); clear Ta)
        | (go_at_call 12; have _t := tokC; refine (hL2.out _).mono ?_; rintro E w11 ⟨rfl, o11⟩; have T11 := Lib.hid (T10.out.keep o11); have q11 := nine_of (T11.out.get 0 rfl); clear o11 tokC q10)
        | (go_at_call 12; refine (hC2.out _).mono ?_; rintro E w12 ⟨rfl, o12⟩; have T12 := Lib.hid (T11.out.keep o12); clear o12))
      have T13 : Hid (Bl W [(W.heap.size, 25, #[.string e.k, .string e.v, .bool e.d, .int .i64 e.s.c, .int .i64 e.s.s, .int .i64 e.a.c, .int .i64 e.a.s, .int .i64 e.p, .int .i64 e.g]), (W.heap.size + 1, 23, #[.int .i64 a.c, .int .i64 a.s]), (g5, 25, #[.string fa.k, .string fa.v, .bool fa.d, .int .i64 fa.s.c, .int .i64 fa.s.s, .int .i64 fa.a.c, .int .i64 fa.a.s, .int .i64 fa.p, .int .i64 fa.g]), (g5 + 1, 25, #[.string fb.k, .string fb.v, .bool fb.d, .int .i64 fb.s.c, .int .i64 fb.s.s, .int .i64 fb.a.c, .int .i64 fb.a.s, .int .i64 fb.p, .int .i64 fb.g]), (gA, 35, #[.string fa.k, .string fa.v, .bool fa.d, .int .i64 fa.s.c, .int .i64 fa.s.s, .int .i64 fa.a.c, .int .i64 fa.a.s, .int .i64 fa.p, .int .i64 fa.g]), (gB, 35, #[.string fb.k, .string fb.v, .bool fb.d, .int .i64 fb.s.c, .int .i64 fb.s.s, .int .i64 fb.a.c, .int .i64 fb.a.s, .int .i64 fb.p, .int .i64 fb.g]), (gC, 35, #[.string fc.k, .string fc.v, .bool fc.d, .int .i64 fc.s.c, .int .i64 fc.s.s, .int .i64 fc.a.c, .int .i64 fc.a.s, .int .i64 fc.p, .int .i64 fc.g]), (w6.heap.size, 25, #[.string fc.k, .string fc.v, .bool fc.d, .int .i64 fc.s.c, .int .i64 fc.s.s, .int .i64 fc.a.c, .int .i64 fc.a.s, .int .i64 fc.p, .int .i64 fc.g])] w12) := by
        have := T12.out
        rw [FA.out, FB.out] at this ⊢
        exact this
      (refine wp_region_steady (fun w' => Bl W _ w') 32 (by kernel_rfl) (by kernel_rfl) (T13.out.drew) ?_; simp only [List.take_succ_cons, List.take_zero, List.drop_succ_cons, List.drop_zero])
      repeat (first
        | (refine sd_value (v := ?_) (by rfl) (fun w0 hS => ?_) ?_; rotate_left; (· (skip; go_simp; try (with_reducible rfl))); try simp only [Act.put, List.setIfInBounds_toArray, List.set_cons_zero, List.set_cons_succ])
        | (refine sd_value (v := ?_) (by rfl) (fun w0 hS => ?_) ?_; rotate_left; (· (have hc := nine_of (hS.get 4 rfl); go_simp; try (with_reducible rfl))); try simp only [Act.put, List.setIfInBounds_toArray, List.set_cons_zero, List.set_cons_succ])
        | (refine sd_value (v := ?_) (by rfl) (fun w0 hS => ?_) ?_; rotate_left; (· (have hc := nine_of (hS.get 2 rfl); go_simp; try (with_reducible rfl))); try simp only [Act.put, List.setIfInBounds_toArray, List.set_cons_zero, List.set_cons_succ])
        | (refine sd_value (v := ?_) (by rfl) (fun w0 hS => ?_) ?_; rotate_left; (· (have hc := nine_of (hS.get 5 rfl); go_simp; try (with_reducible rfl))); try simp only [Act.put, List.setIfInBounds_toArray, List.set_cons_zero, List.set_cons_succ])
        | (refine sd_value (v := ?_) (by rfl) (fun w0 hS => ?_) ?_; rotate_left; (· (have hc := nine_of (hS.get 3 rfl); go_simp; try (with_reducible rfl))); try simp only [Act.put, List.setIfInBounds_toArray, List.set_cons_zero, List.set_cons_succ])
        | (refine sd_value (v := ?_) (by rfl) (fun w0 hS => ?_) ?_; rotate_left; (· (have hc := nine_of (hS.get 6 rfl); go_simp; try (with_reducible rfl))); try simp only [Act.put, List.setIfInBounds_toArray, List.set_cons_zero, List.set_cons_succ])
        | (refine sd_value (v := ?_) (by rfl) (fun w0 hS => ?_) ?_; rotate_left; (· (have hc := nine_of (hS.get 7 rfl); go_simp; try (with_reducible rfl))); try simp only [Act.put, List.setIfInBounds_toArray, List.set_cons_zero, List.set_cons_succ])
        | (refine sd_call (v := ?_) (f := 26) (args := ?_) (by rfl) (fun w0 hS => ?_) (fun w0 hS => ?_) ?_; rotate_left 2; (· (skip; go_simp; try (with_reducible rfl))); (· (refine (en_to _ _).mono ?_; rintro E w8 ⟨rfl, o8⟩; refine ⟨?_, hS.keep o8⟩; rfl)); try simp only [Act.put, List.setIfInBounds_toArray, List.set_cons_zero, List.set_cons_succ]))
      refine sd_nil ?_
      intro w14 t14
      go_wp2_with fail
      go_ret
      exact ⟨rfl, t14.ho.below (Nat.le_refl _) (fun k hk => hk.elim)⟩
end Go.Proofs.Ytkddmdgehnijiaa
