/- Steps, rounds, Bound and Long of a configuration: package setup's and the document's. No statement of the seat is proved here. -/
import Derived.Test.YthhfpjecgdedgaaSuD
namespace Go.Proofs.Ythhfpjecgdedgaa
open Go.RowKit
set_option maxRecDepth 100000
set_option linter.all false

theorem suSteps_le (c : Nat → Int) : 0 ≤ suSteps c ∧ suSteps c ≤ 3000 := by
  cases hr : suRight c with
  | false => simp [suSteps, hr]
  | true =>
    have h1 := su_parts hr
    obtain ⟨⟨b0, b1⟩, ⟨b2, b3⟩, _, _, _, _, _, _, _, _, _, _, _, _, _, _, _, ⟨b4, b5⟩, _, b6, b7⟩ := su_bounds hr
    simp only [suSteps, hr, if_true]
    omega
/-- The product of rounds, its parts within bounds. -/
theorem su_rounds_le {c : Nat → Int} (hr : suRight c = true) : (0 ≤ (c 0 - 1) * (c 0 - 1) ∧ (c 0 - 1) * (c 0 - 1) ≤ 121) ∧ (0 ≤ (c 0 - 1) * (c 0 - 1) * (c 18 + 2) ∧ (c 0 - 1) * (c 0 - 1) * (c 18 + 2) ≤ 1210) ∧
    (0 ≤ (c 0 - 1) * (c 0 - 1) * (c 18 + 2) * (2 * suSteps c + 5 + 1) ∧ (c 0 - 1) * (c 0 - 1) * (c 18 + 2) * (2 * suSteps c + 5 + 1) ≤ 8000000) := by
  obtain ⟨⟨b0, b1⟩, ⟨b2, b3⟩, _, _, _, _, _, _, _, _, _, _, _, _, _, _, _, ⟨b4, b5⟩, ⟨b8, b9⟩, b6, b7⟩ := su_bounds hr
  have hs := suSteps_le c
  have m1 := mulb (a := c 0 - 1) (A := 11) (by omega) (by omega) (b := c 0 - 1) (B := 11) (by omega) (by omega)
  have m2 := mulb m1.1 m1.2 (b := c 18 + 2) (B := 10) (by omega) (by omega)
  have m3 := mulb m2.1 m2.2 (b := 2 * suSteps c + 5 + 1) (B := 6006) (by omega) (by omega)
  refine ⟨⟨m1.1, by omega⟩, ⟨m2.1, by omega⟩, m3.1, by omega⟩
theorem suRounds_le {c : Nat → Int} (hr : suRight c = true) : 2 ≤ suRounds c ∧ suRounds c ≤ 8000002 := by
  have := (su_rounds_le hr).2.2
  unfold suRounds
  omega
theorem suRoomy_right {c : Nat → Int} (h : suRoomy c = true) : suRight c = true := by
  simp only [suRoomy, Bool.and_eq_true] at h
  exact h.1

/-- The document's parts, by going up. -/
theorem part_lt {n m : Int} {k : Nat} (hm : 1 ≤ m) : (k : Int) * m < n ↔ (k : Int) < (n + m - 1) / m := by
  rw [Int.lt_iff_add_one_le, Int.lt_iff_add_one_le, Int.le_ediv_iff_mul_le (by omega), Int.add_mul, Int.one_mul]
  omega

set_option maxHeartbeats 1600000 in
theorem rf_steps (c : Nat → Int) (w : World) :
    Calls Try.prog 24 #[.agg #[.int .i64 (c 0), .int .i64 (c 1), .int .i64 (c 2), .int .i64 (c 3), .int .i64 (c 4), .int .i64 (c 5), .int .i64 (c 6), .int .i64 (c 7), .int .i64 (c 8), .int .i64 (c 9), .int .i64 (c 10), .int .i64 (c 11), .int .i64 (c 12), .int .i64 (c 13), .int .i64 (c 14), .int .i64 (c 15), .int .i64 (c 16), .int .i64 (c 17), .int .i64 (c 18), .int .i64 (c 19)]] w fun E w' => E = .returned (.int .i64 (suSteps c)) ∧ Only none_ w w' := by
  have BX := Lib.hid (Cb.new w 23 c)
  have O0 := Lib.hid ((Only.refl none_ w).alloc (.cells #[.int .i64 (c 0), .int .i64 (c 1), .int .i64 (c 2), .int .i64 (c 3), .int .i64 (c 4), .int .i64 (c 5), .int .i64 (c 6), .int .i64 (c 7), .int .i64 (c 8), .int .i64 (c 9), .int .i64 (c 10), .int .i64 (c 11), .int .i64 (c 12), .int .i64 (c 13), .int .i64 (c 14), .int .i64 (c 15), .int .i64 (c 16), .int .i64 (c 17), .int .i64 (c 18), .int .i64 (c 19)] 23))
  have HC := Lib.hid (fun w => rf_right c w)
  cases hr : suRight c with
  | false =>
    have HR : Hid (suSteps c = 0) := by rw [Hid, suSteps, hr]; rfl
    rw [hr] at HC
    clear hr
    go_enter Try.func24, Try.ntmps24
    go_wp2_with (first
      | (refine wpl_load rfl 23 _ rfl w.heap.size rfl _ #[.int .i64 (c 0), .int .i64 (c 1), .int .i64 (c 2), .int .i64 (c 3), .int .i64 (c 4), .int .i64 (c 5), .int .i64 (c 6), .int .i64 (c 7), .int .i64 (c 8), .int .i64 (c 9), .int .i64 (c 10), .int .i64 (c 11), .int .i64 (c 12), .int .i64 (c 13), .int .i64 (c 14), .int .i64 (c 15), .int .i64 (c 16), .int .i64 (c 17), .int .i64 (c 18), .int .i64 (c 19)] _ BX.out.x Try.underlying23 rfl (by kernel_rfl) ?_)
      | (go_at_call 26; refine (HC.out _).mono ?_; rintro E w1 ⟨rfl, o1⟩; have O1 := Lib.hid (O0.out.trans o1); clear o1))
    go_ret
    exact ⟨by rw [HR.out]; rfl, O1.out⟩
  | true =>
    obtain ⟨⟨b0, b1⟩, ⟨b2, b3⟩, _, _, _, _, _, _, _, _, _, _, _, _, _, _, _, ⟨b4, b5⟩, _, b6, b7⟩ := su_bounds hr
    have HR : Hid (suSteps c = (c 0 * c 0 * c 1 + c 17 - 1) / c 17 + c 19 + 2) := by rw [Hid, suSteps, hr]; rfl
    have HP := Lib.hid (su_parts hr)
    rw [hr] at HC
    clear hr
    have m1 := mulb (by omega) b1 (by omega) b1
    have m2 := mulb m1.1 m1.2 (by omega) b3
    have m3 : 0 ≤ (c 0 * c 0 * c 1 + c 17 - 1) / c 17 ∧ (c 0 * c 0 * c 1 + c 17 - 1) / c 17 ≤ 2400 := HP.out
    go_enter Try.func24, Try.ntmps24
    go_wp2_with (first
      | (refine wpl_load rfl 23 _ rfl w.heap.size rfl _ #[.int .i64 (c 0), .int .i64 (c 1), .int .i64 (c 2), .int .i64 (c 3), .int .i64 (c 4), .int .i64 (c 5), .int .i64 (c 6), .int .i64 (c 7), .int .i64 (c 8), .int .i64 (c 9), .int .i64 (c 10), .int .i64 (c 11), .int .i64 (c 12), .int .i64 (c 13), .int .i64 (c 14), .int .i64 (c 15), .int .i64 (c 16), .int .i64 (c 17), .int .i64 (c 18), .int .i64 (c 19)] _ BX.out.x Try.underlying23 rfl (by kernel_rfl) ?_)
      | (go_at_call 26; refine (HC.out _).mono ?_; rintro E w1 ⟨rfl, o1⟩; have O1 := Lib.hid (O0.out.trans o1)
         have B1 := Lib.hid (BX.out.keep o1); have q1 := B1.out.x.cell_ (i := 1) rfl; have q0 := B1.out.x.cell_ (i := 0) rfl; clear o1))
    clear q0 q1
    generalize w.heap.size = g at *
    have HN : Hid (∀ k : Nat, (k : Int) * c 17 < c 0 * c 0 * c 1 ↔ (k : Int) < (c 0 * c 0 * c 1 + c 17 - 1) / c 17) := fun k => part_lt b4
    generalize c 0 * c 0 * c 1 = n at *
    generalize (n + c 17 - 1) / c 17 = ps at *
    go_loopw [4] (fun i wr => ∃ k : Nat, (k : Int) ≤ ps ∧ i = .int .i64 (k : Int) ∧ wr = w1) (fun i _ => ps.toNat - (intOf i).toNat)
    case atStart => exact ⟨0, by omega, rfl, rfl⟩
    case round =>
      obtain ⟨k, hk, rfl, rfl⟩ := hrel
      have q17 := B1.out.x.cell_ (i := 17) rfl
      have q19 := B1.out.x.cell_ (i := 19) rfl
      have m4 := mulb (a := (k : Int)) (A := 2400) (by omega) (by omega) (b := c 17) (B := 8) (by omega) b5
      have HK := HN.out k
      by_cases hlt : (k : Int) * c 17 < n
      · go_wp2_with fail
        go_roundw
        case rel => exact ⟨k + 1, by omega, by go_num, trivial⟩
        case measure => simp [intOf]; omega
      · have e : ps = (k : Int) := by omega
        subst e
        go_wp2_with fail
        go_ret
        exact ⟨by rw [HR.out]; rfl, O1.out⟩

set_option maxHeartbeats 1600000 in
theorem su_rounds (c : Nat → Int) (hr : suRight c = true) (w : World) :
    Calls Try.prog 34 #[.agg #[.int .i64 (c 0), .int .i64 (c 1), .int .i64 (c 2), .int .i64 (c 3), .int .i64 (c 4), .int .i64 (c 5), .int .i64 (c 6), .int .i64 (c 7), .int .i64 (c 8), .int .i64 (c 9), .int .i64 (c 10), .int .i64 (c 11), .int .i64 (c 12), .int .i64 (c 13), .int .i64 (c 14), .int .i64 (c 15), .int .i64 (c 16), .int .i64 (c 17), .int .i64 (c 18), .int .i64 (c 19)]] w fun E w' => E = .returned (.int .i64 (suRounds c)) ∧ Only none_ w w' := by
  have BX := Lib.hid (Cb.new w 26 c)
  have O0 := Lib.hid ((Only.refl none_ w).alloc (.cells #[.int .i64 (c 0), .int .i64 (c 1), .int .i64 (c 2), .int .i64 (c 3), .int .i64 (c 4), .int .i64 (c 5), .int .i64 (c 6), .int .i64 (c 7), .int .i64 (c 8), .int .i64 (c 9), .int .i64 (c 10), .int .i64 (c 11), .int .i64 (c 12), .int .i64 (c 13), .int .i64 (c 14), .int .i64 (c 15), .int .i64 (c 16), .int .i64 (c 17), .int .i64 (c 18), .int .i64 (c 19)] 26))
  have HC := Lib.hid (fun w => su_steps c w)
  have HR : Hid (suRounds c = 2 + (c 0 - 1) * (c 0 - 1) * (c 18 + 2) * (2 * suSteps c + 5 + 1)) := rfl
  obtain ⟨⟨b0, b1⟩, ⟨b2, b3⟩, _, _, _, _, _, _, _, _, _, _, _, _, _, _, _, ⟨b4, b5⟩, ⟨b8, b9⟩, b6, b7⟩ := su_bounds hr
  obtain ⟨n1, n2, n3⟩ := su_rounds_le hr
  have hs := suSteps_le c
  generalize suSteps c = st at *
  clear hr
  go_enter Try.func34, Try.ntmps34
  go_wp2_with (first
    | (refine wpl_load rfl 26 _ rfl w.heap.size rfl _ #[.int .i64 (c 0), .int .i64 (c 1), .int .i64 (c 2), .int .i64 (c 3), .int .i64 (c 4), .int .i64 (c 5), .int .i64 (c 6), .int .i64 (c 7), .int .i64 (c 8), .int .i64 (c 9), .int .i64 (c 10), .int .i64 (c 11), .int .i64 (c 12), .int .i64 (c 13), .int .i64 (c 14), .int .i64 (c 15), .int .i64 (c 16), .int .i64 (c 17), .int .i64 (c 18), .int .i64 (c 19)] _ BX.out.x Try.underlying26 rfl (by kernel_rfl) ?_)
    | (go_at_call 23; refine (HC.out _).mono ?_; rintro E w1 ⟨rfl, o1⟩; have O1 := Lib.hid (O0.out.trans o1)
       have B1 := BX.out.keep o1; have q18 := B1.x.cell_ (i := 18) rfl; have q0 := B1.x.cell_ (i := 0) rfl; clear o1 B1))
  go_ret
  exact ⟨by rw [HR.out]; rfl, O1.out⟩

set_option maxHeartbeats 1600000 in
theorem rf_rounds (c : Nat → Int) (hr : suRight c = true) (w : World) :
    Calls Try.prog 35 #[.agg #[.int .i64 (c 0), .int .i64 (c 1), .int .i64 (c 2), .int .i64 (c 3), .int .i64 (c 4), .int .i64 (c 5), .int .i64 (c 6), .int .i64 (c 7), .int .i64 (c 8), .int .i64 (c 9), .int .i64 (c 10), .int .i64 (c 11), .int .i64 (c 12), .int .i64 (c 13), .int .i64 (c 14), .int .i64 (c 15), .int .i64 (c 16), .int .i64 (c 17), .int .i64 (c 18), .int .i64 (c 19)]] w fun E w' => E = .returned (.int .i64 (suRounds c)) ∧ Only none_ w w' := by
  have BX := Lib.hid (Cb.new w 23 c)
  have O0 := Lib.hid ((Only.refl none_ w).alloc (.cells #[.int .i64 (c 0), .int .i64 (c 1), .int .i64 (c 2), .int .i64 (c 3), .int .i64 (c 4), .int .i64 (c 5), .int .i64 (c 6), .int .i64 (c 7), .int .i64 (c 8), .int .i64 (c 9), .int .i64 (c 10), .int .i64 (c 11), .int .i64 (c 12), .int .i64 (c 13), .int .i64 (c 14), .int .i64 (c 15), .int .i64 (c 16), .int .i64 (c 17), .int .i64 (c 18), .int .i64 (c 19)] 23))
  have HC := Lib.hid (fun w => rf_steps c w)
  have HR : Hid (suRounds c = 2 + (c 0 - 1) * (c 0 - 1) * (c 18 + 2) * (2 * suSteps c + 5 + 1)) := rfl
  obtain ⟨⟨b0, b1⟩, ⟨b2, b3⟩, _, _, _, _, _, _, _, _, _, _, _, _, _, _, _, ⟨b4, b5⟩, ⟨b8, b9⟩, b6, b7⟩ := su_bounds hr
  obtain ⟨n1, n2, n3⟩ := su_rounds_le hr
  have hs := suSteps_le c
  generalize suSteps c = st at *
  clear hr
  go_enter Try.func35, Try.ntmps35
  go_wp2_with (first
    | (refine wpl_load rfl 23 _ rfl w.heap.size rfl _ #[.int .i64 (c 0), .int .i64 (c 1), .int .i64 (c 2), .int .i64 (c 3), .int .i64 (c 4), .int .i64 (c 5), .int .i64 (c 6), .int .i64 (c 7), .int .i64 (c 8), .int .i64 (c 9), .int .i64 (c 10), .int .i64 (c 11), .int .i64 (c 12), .int .i64 (c 13), .int .i64 (c 14), .int .i64 (c 15), .int .i64 (c 16), .int .i64 (c 17), .int .i64 (c 18), .int .i64 (c 19)] _ BX.out.x Try.underlying23 rfl (by kernel_rfl) ?_)
    | (go_at_call 24; refine (HC.out _).mono ?_; rintro E w1 ⟨rfl, o1⟩; have O1 := Lib.hid (O0.out.trans o1)
       have B1 := BX.out.keep o1; have q18 := B1.x.cell_ (i := 18) rfl; have q0 := B1.x.cell_ (i := 0) rfl; clear o1 B1))
  go_ret
  exact ⟨by rw [HR.out]; rfl, O1.out⟩

theorem su_bound (c : Nat → Int) (w : World) :
    Calls Try.prog 17 #[.agg #[.int .i64 (c 0), .int .i64 (c 1), .int .i64 (c 2), .int .i64 (c 3), .int .i64 (c 4), .int .i64 (c 5), .int .i64 (c 6), .int .i64 (c 7), .int .i64 (c 8), .int .i64 (c 9), .int .i64 (c 10), .int .i64 (c 11), .int .i64 (c 12), .int .i64 (c 13), .int .i64 (c 14), .int .i64 (c 15), .int .i64 (c 16), .int .i64 (c 17), .int .i64 (c 18), .int .i64 (c 19)]] w fun E w' => E = .returned (.tuple #[.int .i64 (suBound c).1, .bool (suBound c).2]) ∧ Only none_ w w' := by
  have BX := Lib.hid (Cb.new w 26 c)
  have O0 := Lib.hid ((Only.refl none_ w).alloc (.cells #[.int .i64 (c 0), .int .i64 (c 1), .int .i64 (c 2), .int .i64 (c 3), .int .i64 (c 4), .int .i64 (c 5), .int .i64 (c 6), .int .i64 (c 7), .int .i64 (c 8), .int .i64 (c 9), .int .i64 (c 10), .int .i64 (c 11), .int .i64 (c 12), .int .i64 (c 13), .int .i64 (c 14), .int .i64 (c 15), .int .i64 (c 16), .int .i64 (c 17), .int .i64 (c 18), .int .i64 (c 19)] 26))
  have HC := Lib.hid (fun w => su_roomy c w)
  cases hr : suRoomy c with
  | false =>
    have HR : Hid (suBound c = (0, false)) := by rw [Hid, suBound, hr]; rfl
    rw [hr] at HC
    clear hr
    go_enter Try.func17, Try.ntmps17
    go_wp2_with (first
      | (refine wpl_load rfl 26 _ rfl w.heap.size rfl _ #[.int .i64 (c 0), .int .i64 (c 1), .int .i64 (c 2), .int .i64 (c 3), .int .i64 (c 4), .int .i64 (c 5), .int .i64 (c 6), .int .i64 (c 7), .int .i64 (c 8), .int .i64 (c 9), .int .i64 (c 10), .int .i64 (c 11), .int .i64 (c 12), .int .i64 (c 13), .int .i64 (c 14), .int .i64 (c 15), .int .i64 (c 16), .int .i64 (c 17), .int .i64 (c 18), .int .i64 (c 19)] _ BX.out.x Try.underlying26 rfl (by kernel_rfl) ?_)
      | (go_at_call 21; refine (HC.out _).mono ?_; rintro E w1 ⟨rfl, o1⟩; have O1 := Lib.hid (O0.out.trans o1); clear o1))
    go_ret2
    exact ⟨by rw [HR.out]; rfl, O1.out⟩
  | true =>
    have HN := Lib.hid (fun w => su_rounds c (suRoomy_right hr) w)
    by_cases h3 : c 3 = 0
    · have HR : Hid (suBound c = (suRounds c, true)) := by rw [Hid, suBound, hr, h3]; rfl
      have hd : (c 3 == 0) = true := by simpa using h3
      have hd2 : (c 3 != 0) = false := by simpa using h3
      rw [hr] at HC
      clear hr h3
      go_enter Try.func17, Try.ntmps17
      go_wp2_with (first
        | (refine wpl_load rfl 26 _ rfl w.heap.size rfl _ #[.int .i64 (c 0), .int .i64 (c 1), .int .i64 (c 2), .int .i64 (c 3), .int .i64 (c 4), .int .i64 (c 5), .int .i64 (c 6), .int .i64 (c 7), .int .i64 (c 8), .int .i64 (c 9), .int .i64 (c 10), .int .i64 (c 11), .int .i64 (c 12), .int .i64 (c 13), .int .i64 (c 14), .int .i64 (c 15), .int .i64 (c 16), .int .i64 (c 17), .int .i64 (c 18), .int .i64 (c 19)] _ (by first | exact B1.out.x | exact BX.out.x) Try.underlying26 rfl (by kernel_rfl) ?_)
        | (go_at_call 21; refine (HC.out _).mono ?_; rintro E w1 ⟨rfl, o1⟩; have O1 := Lib.hid (O0.out.trans o1)
           have B1 := Lib.hid (BX.out.keep o1); have q3 := B1.out.x.cell_ (i := 3) rfl; clear o1)
        | (go_at_call 34; refine (HN.out _).mono ?_; rintro E w2 ⟨rfl, o2⟩; have O2 := Lib.hid (O1.out.trans o2); clear o2))
      go_ret2
      exact ⟨by rw [HR.out]; rfl, O2.out⟩
    · have HR : Hid (suBound c = (0, false)) := by rw [Hid, suBound, hr, decide_eq_false h3]; rfl
      have hd : (c 3 == 0) = false := by simpa using h3
      have hd2 : (c 3 != 0) = true := by simpa using h3
      rw [hr] at HC
      clear hr h3
      go_enter Try.func17, Try.ntmps17
      go_wp2_with (first
        | (refine wpl_load rfl 26 _ rfl w.heap.size rfl _ #[.int .i64 (c 0), .int .i64 (c 1), .int .i64 (c 2), .int .i64 (c 3), .int .i64 (c 4), .int .i64 (c 5), .int .i64 (c 6), .int .i64 (c 7), .int .i64 (c 8), .int .i64 (c 9), .int .i64 (c 10), .int .i64 (c 11), .int .i64 (c 12), .int .i64 (c 13), .int .i64 (c 14), .int .i64 (c 15), .int .i64 (c 16), .int .i64 (c 17), .int .i64 (c 18), .int .i64 (c 19)] _ (by first | exact B1.out.x | exact BX.out.x) Try.underlying26 rfl (by kernel_rfl) ?_)
        | (go_at_call 21; refine (HC.out _).mono ?_; rintro E w1 ⟨rfl, o1⟩; have O1 := Lib.hid (O0.out.trans o1)
           have B1 := Lib.hid (BX.out.keep o1); have q3 := B1.out.x.cell_ (i := 3) rfl; clear o1))
      go_ret2
      exact ⟨by rw [HR.out]; rfl, O1.out⟩

theorem rf_bound (c : Nat → Int) (w : World) :
    Calls Try.prog 18 #[.agg #[.int .i64 (c 0), .int .i64 (c 1), .int .i64 (c 2), .int .i64 (c 3), .int .i64 (c 4), .int .i64 (c 5), .int .i64 (c 6), .int .i64 (c 7), .int .i64 (c 8), .int .i64 (c 9), .int .i64 (c 10), .int .i64 (c 11), .int .i64 (c 12), .int .i64 (c 13), .int .i64 (c 14), .int .i64 (c 15), .int .i64 (c 16), .int .i64 (c 17), .int .i64 (c 18), .int .i64 (c 19)]] w fun E w' => E = .returned (.tuple #[.int .i64 (suBound c).1, .bool (suBound c).2]) ∧ Only none_ w w' := by
  have BX := Lib.hid (Cb.new w 23 c)
  have O0 := Lib.hid ((Only.refl none_ w).alloc (.cells #[.int .i64 (c 0), .int .i64 (c 1), .int .i64 (c 2), .int .i64 (c 3), .int .i64 (c 4), .int .i64 (c 5), .int .i64 (c 6), .int .i64 (c 7), .int .i64 (c 8), .int .i64 (c 9), .int .i64 (c 10), .int .i64 (c 11), .int .i64 (c 12), .int .i64 (c 13), .int .i64 (c 14), .int .i64 (c 15), .int .i64 (c 16), .int .i64 (c 17), .int .i64 (c 18), .int .i64 (c 19)] 23))
  have HC := Lib.hid (fun w => rf_roomy c w)
  cases hr : suRoomy c with
  | false =>
    have HR : Hid (suBound c = (0, false)) := by rw [Hid, suBound, hr]; rfl
    rw [hr] at HC
    clear hr
    go_enter Try.func18, Try.ntmps18
    go_wp2_with (first
      | (refine wpl_load rfl 23 _ rfl w.heap.size rfl _ #[.int .i64 (c 0), .int .i64 (c 1), .int .i64 (c 2), .int .i64 (c 3), .int .i64 (c 4), .int .i64 (c 5), .int .i64 (c 6), .int .i64 (c 7), .int .i64 (c 8), .int .i64 (c 9), .int .i64 (c 10), .int .i64 (c 11), .int .i64 (c 12), .int .i64 (c 13), .int .i64 (c 14), .int .i64 (c 15), .int .i64 (c 16), .int .i64 (c 17), .int .i64 (c 18), .int .i64 (c 19)] _ BX.out.x Try.underlying23 rfl (by kernel_rfl) ?_)
      | (go_at_call 22; refine (HC.out _).mono ?_; rintro E w1 ⟨rfl, o1⟩; have O1 := Lib.hid (O0.out.trans o1); clear o1))
    go_ret2
    exact ⟨by rw [HR.out]; rfl, O1.out⟩
  | true =>
    have HN := Lib.hid (fun w => rf_rounds c (suRoomy_right hr) w)
    by_cases h3 : c 3 = 0
    · have HR : Hid (suBound c = (suRounds c, true)) := by rw [Hid, suBound, hr, h3]; rfl
      have hd : (c 3 == 0) = true := by simpa using h3
      have hd2 : (c 3 != 0) = false := by simpa using h3
      rw [hr] at HC
      clear hr h3
      go_enter Try.func18, Try.ntmps18
      go_wp2_with (first
        | (refine wpl_load rfl 23 _ rfl w.heap.size rfl _ #[.int .i64 (c 0), .int .i64 (c 1), .int .i64 (c 2), .int .i64 (c 3), .int .i64 (c 4), .int .i64 (c 5), .int .i64 (c 6), .int .i64 (c 7), .int .i64 (c 8), .int .i64 (c 9), .int .i64 (c 10), .int .i64 (c 11), .int .i64 (c 12), .int .i64 (c 13), .int .i64 (c 14), .int .i64 (c 15), .int .i64 (c 16), .int .i64 (c 17), .int .i64 (c 18), .int .i64 (c 19)] _ (by first | exact B1.out.x | exact BX.out.x) Try.underlying23 rfl (by kernel_rfl) ?_)
        | (go_at_call 22; refine (HC.out _).mono ?_; rintro E w1 ⟨rfl, o1⟩; have O1 := Lib.hid (O0.out.trans o1)
           have B1 := Lib.hid (BX.out.keep o1); have q3 := B1.out.x.cell_ (i := 3) rfl; clear o1)
        | (go_at_call 35; refine (HN.out _).mono ?_; rintro E w2 ⟨rfl, o2⟩; have O2 := Lib.hid (O1.out.trans o2); clear o2))
      go_ret2
      exact ⟨by rw [HR.out]; rfl, O2.out⟩
    · have HR : Hid (suBound c = (0, false)) := by rw [Hid, suBound, hr, decide_eq_false h3]; rfl
      have hd : (c 3 == 0) = false := by simpa using h3
      have hd2 : (c 3 != 0) = true := by simpa using h3
      rw [hr] at HC
      clear hr h3
      go_enter Try.func18, Try.ntmps18
      go_wp2_with (first
        | (refine wpl_load rfl 23 _ rfl w.heap.size rfl _ #[.int .i64 (c 0), .int .i64 (c 1), .int .i64 (c 2), .int .i64 (c 3), .int .i64 (c 4), .int .i64 (c 5), .int .i64 (c 6), .int .i64 (c 7), .int .i64 (c 8), .int .i64 (c 9), .int .i64 (c 10), .int .i64 (c 11), .int .i64 (c 12), .int .i64 (c 13), .int .i64 (c 14), .int .i64 (c 15), .int .i64 (c 16), .int .i64 (c 17), .int .i64 (c 18), .int .i64 (c 19)] _ (by first | exact B1.out.x | exact BX.out.x) Try.underlying23 rfl (by kernel_rfl) ?_)
        | (go_at_call 22; refine (HC.out _).mono ?_; rintro E w1 ⟨rfl, o1⟩; have O1 := Lib.hid (O0.out.trans o1)
           have B1 := Lib.hid (BX.out.keep o1); have q3 := B1.out.x.cell_ (i := 3) rfl; clear o1))
      go_ret2
      exact ⟨by rw [HR.out]; rfl, O1.out⟩
end Go.Proofs.Ythhfpjecgdedgaa
