/- The call of EntryWoken answers yes, and changes nothing that was there. The statement itself is proved in another text. -/
import Derived.Test.YtkddmdgehnijiaaEnJ
import Derived.Test.YtkddmdgehnijiaaEnG
import Derived.Test.YtkddmdgehnijiaaEnP
import Derived.Test.YtkddmdgehnijiaaEnN
import Derived.Test.YtkddmdgehnijiaaBls
namespace Go.Proofs.Ytkddmdgehnijiaa
open Go.RowKit
set_option maxRecDepth 100000
set_option linter.all false

theorem en_one2 (e : En) : (#[.string e.k, .string e.v, .bool e.d, .int .i64 e.s.c, .int .i64 e.s.s, .int .i64 e.a.c, .int .i64 e.a.s, .int .i64 e.p, .int .i64 e.g] : Array Value).all (·.oneCell') = true := by simp [Value.oneCell']
/-- What a certificate that was woken is. -/
theorem woken_one {e x : En} {a : St} {k : Int} (h : enWake e a = (x, k)) : (k ≠ 0 → x = enZero) ∧ (k = 0 → enCheck e = 0 ∧ e.d = true ∧ stGood a = true ∧ stLater a e.a = true ∧ x = ⟨e.k, e.v, true, e.s, a, e.p, 0⟩) := by
  unfold enWake at h
  split at h
  · next h1 =>
    split at h
    · next h2 =>
      injection h with hx hk
      simp only [Bool.and_eq_true] at h2
      refine ⟨fun h => absurd hk.symm h, fun _ => ⟨h1, h2.1.1, h2.1.2, h2.2, ?_⟩⟩
      rw [← hx, h2.1.1]
    · injection h with hx hk
      exact ⟨fun _ => hx.symm, fun h => by rw [h] at hk; cases hk⟩
  · next h1 =>
    injection h with hx hk
    exact ⟨fun _ => hx.symm, fun h => absurd (hk.trans h) h1⟩
theorem woken_check {e : En} {a : St} (h1 : enCheck e = 0) (h2 : e.d = true) (h3 : stGood a = true) (h4 : stLater a e.a = true) : enCheck ⟨e.k, e.v, true, e.s, a, e.p, 0⟩ = 0 := by
  obtain ⟨k1, k2, k3, k4, _⟩ := check_zero h1
  have k4 := k4 h2
  have k5 := k2.2 h2
  have hk : enKeyBad ⟨e.k, e.v, true, e.s, a, e.p, 0⟩ = false := by simp only [enKeyBad, Bool.or_eq_false_iff, decide_eq_false_iff_not]; omega
  have hv : enValBad ⟨e.k, e.v, true, e.s, a, e.p, 0⟩ = false := by simp only [enValBad, Bool.true_and, Bool.or_eq_false_iff, decide_eq_false_iff_not]; omega
  have hl : stLater e.s a = false := by
    have h5 := k3.2.2
    rw [later_def] at h4
    rw [later_false] at h5 ⊢
    omega
  have hs : enStBad ⟨e.k, e.v, true, e.s, a, e.p, 0⟩ = false := by simp [enStBad, k3.1, h3, hl]
  have hr : enRestBad ⟨e.k, e.v, true, e.s, a, e.p, 0⟩ = false := by simp [enRestBad, enCert]; omega
  simp [enCheck, hk, hv, hs, hr]
theorem field_stamp (e : En) (w : World) : (Instr.field 35 (.agg #[.string e.k, .string e.v, .bool e.d, .int .i64 e.s.c, .int .i64 e.s.s, .int .i64 e.a.c, .int .i64 e.a.s, .int .i64 e.p, .int .i64 e.g]) 3).run Try.prog w = .ok (.agg #[.int .i64 e.s.c, .int .i64 e.s.s]) w := by
  obtain ⟨i0, hi0, hz0⟩ : ∃ i0, Try.prog.info? 33 = some i0 ∧ i0.size = 2 := by
    have : (Try.prog.info? 33).map (·.size) = some 2 := by kernel_rfl
    cases h : Try.prog.info? 33 with
    | none => rw [h] at this; cases this
    | some i0 => rw [h] at this; simp at this; exact ⟨i0, rfl, this⟩
  simp [Instr.field, run_underlying Try.underlying35, part, isAgg, run_underlying Try.underlying33, sizeOf, typeInfo, hi0, hz0, asAgg]
theorem woken_newer (e : En) (a : St) (x y : En) (hx : x.s = y.s) (h : stLater x.a y.a = true) : enNewer x y = true := by
  rw [enNewer, if_pos ((stEq_iff _ _).2 hx)]
  exact h
/-- Woken twice. -/
theorem woken_two {e X y : En} {a b : St} {k : Int} (hX : X = ⟨e.k, e.v, true, e.s, a, e.p, 0⟩) (h1 : enCheck e = 0) (h2 : e.d = true) (h3 : stLater a e.a = true) (hc : enCheck X = 0) (h : enWake X b = (y, k)) :
    (k ≠ 0 → (stLater b a && stGood b) = false) ∧ (k = 0 → enWake e b = (y, 0) ∧ enNewer y X = true) := by
  have hXd : X.d = true := by rw [hX]
  have hXa : X.a = a := by rw [hX]
  unfold enWake at h
  rw [if_pos hc, hXd, hXa, Bool.true_and] at h
  split at h
  · next hb =>
    injection h with hy hk
    refine ⟨fun h => absurd hk.symm h, fun _ => ?_⟩
    simp only [Bool.and_eq_true] at hb
    have hl : stLater b e.a = true := by
      have := hb.2
      rw [later_def] at this h3 ⊢
      omega
    constructor
    · rw [enWake, if_pos h1, h2, hb.1, hl]
      simp only [Bool.and_self, if_true]
      rw [← hy, hX]
    · refine woken_newer e a y X (by rw [← hy]) ?_
      rw [← hy, hXa]
      exact hb.2
  · next hb =>
    injection h with hy hk
    refine ⟨fun _ => ?_, fun h => by rw [h] at hk; cases hk⟩
    simp only [Bool.not_eq_true] at hb
    rw [Bool.and_comm]
    exact hb

set_option maxHeartbeats 25600000 in
theorem woken_any (e : En) (a b : St) (W : World) :
    Calls Try.prog 8 #[.agg #[.string e.k, .string e.v, .bool e.d, .int .i64 e.s.c, .int .i64 e.s.s, .int .i64 e.a.c, .int .i64 e.a.s, .int .i64 e.p, .int .i64 e.g], .agg #[.int .i64 a.c, .int .i64 a.s], .agg #[.int .i64 b.c, .int .i64 b.s]] W fun E w' => E = .returned (.bool true) ∧ Below W.heap.size W w' := by
  have T0 := (((Bl.nil W).new 25 #[.string e.k, .string e.v, .bool e.d, .int .i64 e.s.c, .int .i64 e.s.s, .int .i64 e.a.c, .int .i64 e.a.s, .int .i64 e.p, .int .i64 e.g]).new 23 #[.int .i64 a.c, .int .i64 a.s]).new 23 #[.int .i64 b.c, .int .i64 b.s]
  simp only [List.nil_append, List.cons_append, World.size_alloc] at T0
  have T := Lib.hid T0
  clear T0
  have HA := fun w => rf_short e w
  generalize enShort e = sa at HA
  have ha := Lib.hid HA
  clear HA
  cases sa
  · go_enter Try.func8, Try.ntmps8
    go_wp2_with (first
      | (go_at_call 10; refine (en_speaks _).mono ?_; rintro E w9 ⟨rfl, rfl⟩)
      | (go_at_call 11; refine (ha.out _).mono ?_; rintro E w1 ⟨rfl, o1⟩; have t1 := Lib.hid (T.out.keep o1); clear o1))
    go_ret
    exact ⟨rfl, t1.out.ho.below (Nat.le_refl _) (fun k hk => hk.elim)⟩
  · obtain ⟨⟨fx, k1⟩, hfx⟩ : ∃ r, enWake e a = r := ⟨_, rfl⟩
    obtain ⟨zx, yx⟩ := woken_one hfx
    have HW := fun w => en_wake e a w
    rw [hfx] at HW
    simp only at HW
    have hW := Lib.hid HW
    have ZX := Lib.hid zx
    have YX := Lib.hid yx
    clear HW hfx zx yx
    go_enter Try.func8, Try.ntmps8
    go_wp2_with (first
      | (go_at_call 10; refine (en_speaks _).mono ?_; rintro E w9 ⟨rfl, rfl⟩)
      | (go_at_call 11; refine (ha.out _).mono ?_; rintro E w1 ⟨rfl, o1⟩; have T1 := Lib.hid (T.out.keep o1); clear o1))
    clear T ha
    (refine wp_region_float (fun w' => Bl w1 _ w') (w1.heap.size) 11 (by kernel_rfl) (by kernel_rfl) (T1.out.self.drew) (fun w h => h.ge) (fun w cs t h => h.alloc _) (fun w g cs h hg => T1.out.rowS h hg cs) ?_; simp only [List.take_succ_cons, List.take_zero, List.drop_succ_cons, List.drop_zero, List.take_nil, List.drop_nil])
    repeat (first
      | (refine fl_value (v := ?_) (by rfl) (by rfl) (by rfl) (fun w0 hS => ?_) ?_; rotate_left; (· (skip; go_simp; try (with_reducible rfl))); try simp only [Act.put, List.setIfInBounds_toArray, List.set_cons_zero, List.set_cons_succ, Nat.reduceAdd])
      | (refine fl_value (v := ?_) (by rfl) (by rfl) (by rfl) (fun w0 hS => ?_) ?_; rotate_left; (· (have hc := nine_of (hS.get 0 rfl); have hd := two_of (hS.get 1 rfl); go_simp; try (with_reducible rfl))); try simp only [Act.put, List.setIfInBounds_toArray, List.set_cons_zero, List.set_cons_succ, Nat.reduceAdd])
      | (refine fl_call (v := ?_) (f := 14) (args := ?_) (by rfl) (by rfl) (by rfl) (fun w0 hS => ?_) (fun w0 hS => ?_) ?_; rotate_left 2; (· (skip; go_simp; try (with_reducible rfl))); (· (refine (en_of _ _).mono ?_; rintro E w8 ⟨rfl, o8⟩; refine ⟨?_, hS.keep o8, o8⟩; rfl)); try simp only [Act.put, List.setIfInBounds_toArray, List.set_cons_zero, List.set_cons_succ, Nat.reduceAdd])
      | (refine fl_call (v := ?_) (f := 21) (args := ?_) (by rfl) (by rfl) (by rfl) (fun w0 hS => ?_) (fun w0 hS => ?_) ?_; rotate_left 2; (· (skip; go_simp; try (with_reducible rfl))); (· (refine (st_of _ _ _).mono ?_; rintro E w8 ⟨rfl, o8⟩; refine ⟨?_, hS.keep o8, o8⟩; rfl)); try simp only [Act.put, List.setIfInBounds_toArray, List.set_cons_zero, List.set_cons_succ, Nat.reduceAdd])
      | (refine fl_call (v := ?_) (f := 29) (args := ?_) (by rfl) (by rfl) (by rfl) (fun w0 hS => ?_) (fun w0 hS => ?_) ?_; rotate_left 2; (· (skip; go_simp; try (with_reducible rfl))); (· (refine (hW.out _).mono ?_; rintro E w8 ⟨rfl, o8⟩; refine ⟨?_, hS.keep o8, o8⟩; rfl)); try simp only [Act.put, List.setIfInBounds_toArray, List.set_cons_zero, List.set_cons_succ, Nat.reduceAdd]))
    (refine fl_make 7 35 #[.string ⟨#[]⟩, .string ⟨#[]⟩, .bool false, .int .i64 0, .int .i64 0, .int .i64 0, .int .i64 0, .int .i64 0, .int .i64 0] (by rfl) (by rfl) (by rfl) (fun ρ w0 => ?_) ?_; (· (go_simp; try (with_reducible rfl))); try simp only [List.nil_append, List.cons_append, Nat.reduceAdd])
    (refine fl_store ⟨8, 7, 35, #[.string ⟨#[]⟩, .string ⟨#[]⟩, .bool false, .int .i64 0, .int .i64 0, .int .i64 0, .int .i64 0, .int .i64 0, .int .i64 0]⟩ #[.string fx.k, .string fx.v, .bool fx.d, .int .i64 fx.s.c, .int .i64 fx.s.s, .int .i64 fx.a.c, .int .i64 fx.a.s, .int .i64 fx.p, .int .i64 fx.g] 35 _ (by simp) (by simp) (by rfl) (by rfl) (by rfl) (Nat.le_of_ble_eq_true rfl) (by rfl) (by kernel_rfl) (by rfl) (en_one2 _) ?_; try simp only [List.nil_append, List.cons_append, Nat.reduceAdd])
    (refine fl_value (v := ?_) (by rfl) (by rfl) (by rfl) (fun w0 hS => ?_) ?_; rotate_left; (· (skip; go_simp; try (with_reducible rfl))); try simp only [Act.put, List.setIfInBounds_toArray, List.set_cons_zero, List.set_cons_succ, Nat.reduceAdd])
    refine fl_nil ?_
    intro G w2 t9 hM _
    simp only [List.forall_mem_cons, List.not_mem_nil, false_imp_iff, implies_true, and_true] at hM
    obtain ⟨⟨zs, bx, _, hz⟩, gx⟩ := hM
    obtain rfl := hz trivial
    simp only [putAl, Act.put, List.setIfInBounds_toArray, List.set_cons_zero, List.set_cons_succ]
    generalize G 8 = gX at *
    have T2 := Lib.hid ((T1.out.keep t9.ho).add bx)
    simp only [List.nil_append, List.cons_append] at T2
    clear t9 bx gx hz
    cases hk : k1 != 0
    · obtain ⟨c1, c2, c3, c4, hX⟩ := YX.out (by simpa using hk)
      have hc := woken_check c1 c2 c3 c4
      rw [← hX] at hc
      have eX : (#[.string fx.k, .string fx.v, .bool fx.d, .int .i64 fx.s.c, .int .i64 fx.s.s, .int .i64 fx.a.c, .int .i64 fx.a.s, .int .i64 fx.p, .int .i64 fx.g] : Array Value) = #[.string e.k, .string e.v, .bool true, .int .i64 e.s.c, .int .i64 e.s.s, .int .i64 a.c, .int .i64 a.s, .int .i64 e.p, .int .i64 0] := by rw [hX]
      have hn : enNewer fx e = true := woken_newer e a fx e (by rw [hX]) (by rw [hX]; exact c4)
      have HT := fun w => en_to fx w
      have HC := fun w => rf_check fx w
      have HN := fun w => en_newer fx e w
      rw [hc] at HC
      rw [hn] at HN
      rw [eX] at HT HC HN
      obtain ⟨⟨fy, k2⟩, hfy⟩ : ∃ r, enWake fx b = r := ⟨_, rfl⟩
      obtain ⟨n1, n2⟩ := woken_two hX c1 c2 c4 hc hfy
      have HY := fun w => en_wake fx b w
      rw [hfy, eX] at HY
      simp only at HY
      rw [eX] at T2
      have hT := Lib.hid HT
      have hC := Lib.hid HC
      have hN := Lib.hid HN
      have hY := Lib.hid HY
      have EX := Lib.hid eX
      have N1 := Lib.hid n1
      have N2 := Lib.hid n2
      have ks : (e.k.toList == e.k.toList) = true := by simp
      have kp : (e.p != e.p) = false := by simp
      have q1 := fun w => neq_of (eq_api_stamp w e.s e.s 9998)
      have q2 := fun w => neq_of (eq_api_stamp w a a 9998)
      rw [(stEq_iff _ _).2 rfl] at q1 q2
      have q3 := fun w => field_stamp e w
      clear HT HC HN HY eX n1 n2 hX hc hn hfy c1 c2 c3 c4 ZX YX hW
      go_wp2_with fail
      (refine wp_region_steady (fun w' => Bl W _ w') 50 (by kernel_rfl) (by kernel_rfl) (T2.out.drew) ?_; simp only [List.take_succ_cons, List.take_zero, List.drop_succ_cons, List.drop_zero])
      repeat (first
        | (refine sd_value (v := ?_) (by rfl) (fun w0 hS => ?_) ?_; rotate_left; (· (skip; go_simp; try (with_reducible rfl))); try simp only [Act.put, List.setIfInBounds_toArray, List.set_cons_zero, List.set_cons_succ])
        | (refine sd_value (v := ?_) (by rfl) (fun w0 hS => ?_) ?_; rotate_left; (· (have hc := nine_of (hS.get 3 rfl); go_simp; try (with_reducible rfl))); try simp only [Act.put, List.setIfInBounds_toArray, List.set_cons_zero, List.set_cons_succ])
        | (refine sd_value (v := ?_) (by rfl) (fun w0 hS => ?_) ?_; rotate_left; (· (have hc := nine_of (hS.get 0 rfl); go_simp; try (with_reducible rfl))); try simp only [Act.put, List.setIfInBounds_toArray, List.set_cons_zero, List.set_cons_succ])
        | (refine sd_value (v := ?_) (by rfl) (fun w0 hS => ?_) ?_; rotate_left; (· (have hc := two_of (hS.get 1 rfl); go_simp; try (with_reducible rfl))); try simp only [Act.put, List.setIfInBounds_toArray, List.set_cons_zero, List.set_cons_succ])
        | (refine sd_skip (by rfl) ?_; try simp only [Act.put, List.setIfInBounds_toArray, List.set_cons_zero, List.set_cons_succ])
        | (refine sd_call (v := ?_) (f := 26) (args := ?_) (by rfl) (fun w0 hS => ?_) (fun w0 hS => ?_) ?_; rotate_left 2; (· (skip; go_simp; try (with_reducible rfl))); (· (refine (hT.out _).mono ?_; rintro E w8 ⟨rfl, o8⟩; refine ⟨?_, hS.keep o8⟩; rfl)); try simp only [Act.put, List.setIfInBounds_toArray, List.set_cons_zero, List.set_cons_succ])
        | (refine sd_call (v := ?_) (f := 12) (args := ?_) (by rfl) (fun w0 hS => ?_) (fun w0 hS => ?_) ?_; rotate_left 2; (· (skip; go_simp; try (with_reducible rfl))); (· (refine (hC.out _).mono ?_; rintro E w8 ⟨rfl, o8⟩; refine ⟨?_, hS.keep o8⟩; rfl)); try simp only [Act.put, List.setIfInBounds_toArray, List.set_cons_zero, List.set_cons_succ])
        | (refine sd_call (v := ?_) (f := 14) (args := ?_) (by rfl) (fun w0 hS => ?_) (fun w0 hS => ?_) ?_; rotate_left 2; (· (skip; go_simp; try (with_reducible rfl))); (· (refine (en_of _ _).mono ?_; rintro E w8 ⟨rfl, o8⟩; refine ⟨?_, hS.keep o8⟩; rfl)); try simp only [Act.put, List.setIfInBounds_toArray, List.set_cons_zero, List.set_cons_succ])
        | (refine sd_call (v := ?_) (f := 21) (args := ?_) (by rfl) (fun w0 hS => ?_) (fun w0 hS => ?_) ?_; rotate_left 2; (· (skip; go_simp; try (with_reducible rfl))); (· (refine (st_of _ _ _).mono ?_; rintro E w8 ⟨rfl, o8⟩; refine ⟨?_, hS.keep o8⟩; rfl)); try simp only [Act.put, List.setIfInBounds_toArray, List.set_cons_zero, List.set_cons_succ])
        | (refine sd_call (v := ?_) (f := 16) (args := ?_) (by rfl) (fun w0 hS => ?_) (fun w0 hS => ?_) ?_; rotate_left 2; (· (skip; go_simp; try (with_reducible rfl))); (· (refine (hN.out _).mono ?_; rintro E w8 ⟨rfl, o8⟩; refine ⟨?_, hS.keep o8⟩; rfl)); try simp only [Act.put, List.setIfInBounds_toArray, List.set_cons_zero, List.set_cons_succ]))
      refine sd_nil ?_
      intro w3 t3
      have T3 := Lib.hid t3
      clear t3 T2
      go_wp2_with fail
      (refine wp_region_float (fun w' => Bl w3 _ w') (w3.heap.size) 10 (by kernel_rfl) (by kernel_rfl) (T3.out.self.drew) (fun w h => h.ge) (fun w cs t h => h.alloc _) (fun w g cs h hg => T3.out.rowS h hg cs) ?_; simp only [List.take_succ_cons, List.take_zero, List.drop_succ_cons, List.drop_zero, List.take_nil, List.drop_nil])
      repeat (first
        | (refine fl_value (v := ?_) (by rfl) (by rfl) (by rfl) (fun w0 hS => ?_) ?_; rotate_left; (· (skip; go_simp; try (with_reducible rfl))); try simp only [Act.put, List.setIfInBounds_toArray, List.set_cons_zero, List.set_cons_succ, Nat.reduceAdd])
        | (refine fl_value (v := ?_) (by rfl) (by rfl) (by rfl) (fun w0 hS => ?_) ?_; rotate_left; (· (have hc := nine_of (hS.get 3 rfl); have hd := two_of (hS.get 2 rfl); go_simp; try (with_reducible rfl))); try simp only [Act.put, List.setIfInBounds_toArray, List.set_cons_zero, List.set_cons_succ, Nat.reduceAdd])
        | (refine fl_call (v := ?_) (f := 21) (args := ?_) (by rfl) (by rfl) (by rfl) (fun w0 hS => ?_) (fun w0 hS => ?_) ?_; rotate_left 2; (· (skip; go_simp; try (with_reducible rfl))); (· (refine (st_of _ _ _).mono ?_; rintro E w8 ⟨rfl, o8⟩; refine ⟨?_, hS.keep o8, o8⟩; rfl)); try simp only [Act.put, List.setIfInBounds_toArray, List.set_cons_zero, List.set_cons_succ, Nat.reduceAdd])
        | (refine fl_call (v := ?_) (f := 29) (args := ?_) (by rfl) (by rfl) (by rfl) (fun w0 hS => ?_) (fun w0 hS => ?_) ?_; rotate_left 2; (· (skip; go_simp; try (with_reducible rfl))); (· (refine (hY.out _).mono ?_; rintro E w8 ⟨rfl, o8⟩; refine ⟨?_, hS.keep o8, o8⟩; rfl)); try simp only [Act.put, List.setIfInBounds_toArray, List.set_cons_zero, List.set_cons_succ, Nat.reduceAdd]))
      (refine fl_make 9 35 #[.string ⟨#[]⟩, .string ⟨#[]⟩, .bool false, .int .i64 0, .int .i64 0, .int .i64 0, .int .i64 0, .int .i64 0, .int .i64 0] (by rfl) (by rfl) (by rfl) (fun ρ w0 => ?_) ?_; (· (go_simp; try (with_reducible rfl))); try simp only [List.nil_append, List.cons_append, Nat.reduceAdd])
      (refine fl_store ⟨7, 9, 35, #[.string ⟨#[]⟩, .string ⟨#[]⟩, .bool false, .int .i64 0, .int .i64 0, .int .i64 0, .int .i64 0, .int .i64 0, .int .i64 0]⟩ #[.string fy.k, .string fy.v, .bool fy.d, .int .i64 fy.s.c, .int .i64 fy.s.s, .int .i64 fy.a.c, .int .i64 fy.a.s, .int .i64 fy.p, .int .i64 fy.g] 35 _ (by simp) (by simp) (by rfl) (by rfl) (by rfl) (Nat.le_of_ble_eq_true rfl) (by rfl) (by kernel_rfl) (by rfl) (en_one2 _) ?_; try simp only [List.nil_append, List.cons_append, Nat.reduceAdd])
      (refine fl_value (v := ?_) (by rfl) (by rfl) (by rfl) (fun w0 hS => ?_) ?_; rotate_left; (· (skip; go_simp; try (with_reducible rfl))); try simp only [Act.put, List.setIfInBounds_toArray, List.set_cons_zero, List.set_cons_succ, Nat.reduceAdd])
      refine fl_nil ?_
      intro G w4 t9 hM _
      simp only [List.forall_mem_cons, List.not_mem_nil, false_imp_iff, implies_true, and_true] at hM
      obtain ⟨⟨zs, bx, _, hz⟩, gx⟩ := hM
      obtain rfl := hz trivial
      simp only [putAl, Act.put, List.setIfInBounds_toArray, List.set_cons_zero, List.set_cons_succ]
      generalize G 7 = gY at *
      have T4 := Lib.hid ((T3.out.keep t9.ho).add bx)
      simp only [List.nil_append, List.cons_append] at T4
      clear t9 bx gx hz
      obtain ⟨lb, hlb⟩ : ∃ l, stLater ⟨b.c, b.s⟩ ⟨a.c, a.s⟩ = l := ⟨_, rfl⟩
      obtain ⟨gb, hgb⟩ : ∃ l, stGood ⟨b.c, b.s⟩ = l := ⟨_, rfl⟩
      have LB := Lib.hid hlb
      have GB := Lib.hid hgb
      cases hk2 : k2 != 0
      · obtain ⟨hfz, hnz⟩ := N2.out (by simpa using hk2)
        have HZ := fun w => en_wake e b w
        have HM := fun w => en_newer fy fx w
        rw [hfz] at HZ
        rw [hnz, EX.out] at HM
        simp only at HZ
        have hZ := Lib.hid HZ
        have hM := Lib.hid HM
        have EY := fun w => eql_of (eq_api_entry w fy fy 9997)
        rw [enEq_refl] at EY
        clear HZ HM hfz hnz hlb hgb hT hC hN hY N1 N2 ks kp q1 q2 q3
        go_wp2_with fail
        (refine wp_region_float (fun w' => Bl w4 _ w') (w4.heap.size) 11 (by kernel_rfl) (by kernel_rfl) (T4.out.self.drew) (fun w h => h.ge) (fun w cs t h => h.alloc _) (fun w g cs h hg => T4.out.rowS h hg cs) ?_; simp only [List.take_succ_cons, List.take_zero, List.drop_succ_cons, List.drop_zero, List.take_nil, List.drop_nil])
        repeat (first
          | (refine fl_value (v := ?_) (by rfl) (by rfl) (by rfl) (fun w0 hS => ?_) ?_; rotate_left; (· (skip; go_simp; try (with_reducible rfl))); try simp only [Act.put, List.setIfInBounds_toArray, List.set_cons_zero, List.set_cons_succ, Nat.reduceAdd])
          | (refine fl_value (v := ?_) (by rfl) (by rfl) (by rfl) (fun w0 hS => ?_) ?_; rotate_left; (· (have hc := nine_of (hS.get 0 rfl); have hd := two_of (hS.get 2 rfl); go_simp; try (with_reducible rfl))); try simp only [Act.put, List.setIfInBounds_toArray, List.set_cons_zero, List.set_cons_succ, Nat.reduceAdd])
          | (refine fl_call (v := ?_) (f := 14) (args := ?_) (by rfl) (by rfl) (by rfl) (fun w0 hS => ?_) (fun w0 hS => ?_) ?_; rotate_left 2; (· (skip; go_simp; try (with_reducible rfl))); (· (refine (en_of _ _).mono ?_; rintro E w8 ⟨rfl, o8⟩; refine ⟨?_, hS.keep o8, o8⟩; rfl)); try simp only [Act.put, List.setIfInBounds_toArray, List.set_cons_zero, List.set_cons_succ, Nat.reduceAdd])
          | (refine fl_call (v := ?_) (f := 21) (args := ?_) (by rfl) (by rfl) (by rfl) (fun w0 hS => ?_) (fun w0 hS => ?_) ?_; rotate_left 2; (· (skip; go_simp; try (with_reducible rfl))); (· (refine (st_of _ _ _).mono ?_; rintro E w8 ⟨rfl, o8⟩; refine ⟨?_, hS.keep o8, o8⟩; rfl)); try simp only [Act.put, List.setIfInBounds_toArray, List.set_cons_zero, List.set_cons_succ, Nat.reduceAdd])
          | (refine fl_call (v := ?_) (f := 29) (args := ?_) (by rfl) (by rfl) (by rfl) (fun w0 hS => ?_) (fun w0 hS => ?_) ?_; rotate_left 2; (· (skip; go_simp; try (with_reducible rfl))); (· (refine (hZ.out _).mono ?_; rintro E w8 ⟨rfl, o8⟩; refine ⟨?_, hS.keep o8, o8⟩; rfl)); try simp only [Act.put, List.setIfInBounds_toArray, List.set_cons_zero, List.set_cons_succ, Nat.reduceAdd]))
        (refine fl_make 10 35 #[.string ⟨#[]⟩, .string ⟨#[]⟩, .bool false, .int .i64 0, .int .i64 0, .int .i64 0, .int .i64 0, .int .i64 0, .int .i64 0] (by rfl) (by rfl) (by rfl) (fun ρ w0 => ?_) ?_; (· (go_simp; try (with_reducible rfl))); try simp only [List.nil_append, List.cons_append, Nat.reduceAdd])
        (refine fl_store ⟨8, 10, 35, #[.string ⟨#[]⟩, .string ⟨#[]⟩, .bool false, .int .i64 0, .int .i64 0, .int .i64 0, .int .i64 0, .int .i64 0, .int .i64 0]⟩ #[.string fy.k, .string fy.v, .bool fy.d, .int .i64 fy.s.c, .int .i64 fy.s.s, .int .i64 fy.a.c, .int .i64 fy.a.s, .int .i64 fy.p, .int .i64 fy.g] 35 _ (by simp) (by simp) (by rfl) (by rfl) (by rfl) (Nat.le_of_ble_eq_true rfl) (by rfl) (by kernel_rfl) (by rfl) (en_one2 _) ?_; try simp only [List.nil_append, List.cons_append, Nat.reduceAdd])
        (refine fl_value (v := ?_) (by rfl) (by rfl) (by rfl) (fun w0 hS => ?_) ?_; rotate_left; (· (skip; go_simp; try (with_reducible rfl))); try simp only [Act.put, List.setIfInBounds_toArray, List.set_cons_zero, List.set_cons_succ, Nat.reduceAdd])
        refine fl_nil ?_
        intro G w5 t9 hM9 _
        simp only [List.forall_mem_cons, List.not_mem_nil, false_imp_iff, implies_true, and_true] at hM9
        obtain ⟨⟨zs, bx, _, hz⟩, gx⟩ := hM9
        obtain rfl := hz trivial
        simp only [putAl, Act.put, List.setIfInBounds_toArray, List.set_cons_zero, List.set_cons_succ]
        generalize G 8 = gZ at *
        have T5 := Lib.hid ((T4.out.keep t9.ho).add bx)
        simp only [List.nil_append, List.cons_append] at T5
        clear t9 bx gx hz
        go_wp2_with (first
          | (refine wpList_load_g (by rfl) 35 _ rfl gX rfl 35 _ (0, 0) _ (T5.out.get 3 rfl) Try.underlying35 rfl (by kernel_rfl) ?_)
          | (refine wpList_load_g (by rfl) 35 _ rfl gY rfl 35 _ (0, 0) _ (T5.out.get 4 rfl) Try.underlying35 rfl (by kernel_rfl) ?_)
          | (refine wpList_load_g (by rfl) 35 _ rfl gZ rfl 35 _ (0, 0) _ (T5.out.get 5 rfl) Try.underlying35 rfl (by kernel_rfl) ?_)
          | (go_at_call 16; refine (hM.out _).mono ?_; rintro E w6 ⟨rfl, o6⟩))
        go_ret
        exact ⟨rfl, (T5.out.keep o6).ho.below (Nat.le_refl _) (fun k hk => hk.elim)⟩
      · have hN1 := N1.out (by simpa using hk2)
        have e1 : stLater b a = lb := hlb
        have e2 : stGood b = gb := hgb
        rw [e1, e2] at hN1
        clear hlb hgb hT hC hN hY N1 N2 ks kp q1 q2 q3 e1 e2 EX
        cases lb
        · go_wp2_with (first
            | (refine wpList_load_g (by rfl) 23 _ rfl (W.heap.size + 1 + 1) rfl 23 _ (0, 0) _ (T4.out.get 2 rfl) Try.underlying23 rfl (by kernel_rfl) ?_)
            | (refine wpList_load_g (by rfl) 23 _ rfl (W.heap.size + 1) rfl 23 _ (0, 0) _ (T4.out.get 1 rfl) Try.underlying23 rfl (by kernel_rfl) ?_)
            | (go_at_call 41; refine (rf_later _ _ _ _ _).mono ?_; rintro E w6 ⟨rfl, o6⟩; rw [LB.out]))
          go_ret
          exact ⟨rfl, (T4.out.keep o6).ho.below (Nat.le_refl _) (fun k hk => hk.elim)⟩
        · cases gb
          · go_wp2_with (first
              | (refine wpList_load_g (by rfl) 23 _ rfl (W.heap.size + 1 + 1) rfl 23 _ (0, 0) _ (T4.out.get 2 rfl) Try.underlying23 rfl (by kernel_rfl) ?_)
              | (refine wpList_load_g (by rfl) 23 _ rfl (W.heap.size + 1) rfl 23 _ (0, 0) _ (T4.out.get 1 rfl) Try.underlying23 rfl (by kernel_rfl) ?_)
              | (go_at_call 41; refine (rf_later _ _ _ _ _).mono ?_; rintro E w6 ⟨rfl, o6⟩; rw [LB.out]; have T6 := Lib.hid (T4.out.keep o6); clear o6)
              | (refine wpList_load_g (by rfl) 23 _ rfl (W.heap.size + 1 + 1) rfl 23 _ (0, 0) _ (T6.out.get 2 rfl) Try.underlying23 rfl (by kernel_rfl) ?_)
              | (go_at_call 42; refine (rf_good _ _ _).mono ?_; rintro E w7 ⟨rfl, o7⟩; rw [GB.out]))
            go_ret
            exact ⟨rfl, (T6.out.keep o7).ho.below (Nat.le_refl _) (fun k hk => hk.elim)⟩
          · cases hN1
    · have fz : fx = enZero := ZX.out (by simpa using hk)
      have E0 := fun w => eql_of (eq_api_entry w fx enZero 9997)
      rw [show enEq fx enZero = true from by rw [fz]; exact enEq_refl _] at E0
      simp only [enZero, stZero] at E0
      clear fz ZX YX hW
      go_wp2_with (first
        | (refine wpList_load_g (by rfl) 35 _ rfl gX rfl 35 _ (0, 0) _ (T2.out.get 3 rfl) Try.underlying35 rfl (by kernel_rfl) ?_))
      go_ret
      exact ⟨rfl, T2.out.ho.below (Nat.le_refl _) (fun k hk => hk.elim)⟩
end Go.Proofs.Ytkddmdgehnijiaa
