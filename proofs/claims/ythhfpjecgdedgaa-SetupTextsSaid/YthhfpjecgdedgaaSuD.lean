/- May a configuration be, is it roomy: package setup's word and the document's. No statement of the seat is proved here. -/
import Derived.Test.YthhfpjecgdedgaaSuC
namespace Go.Proofs.Ythhfpjecgdedgaa
open Go.RowKit
set_option maxRecDepth 100000
set_option linter.all false

theorem su_maybe (c : Nat → Int) (w : World) :
    Calls Try.prog 36 #[.agg #[.int .i64 (c 0), .int .i64 (c 1), .int .i64 (c 2), .int .i64 (c 3), .int .i64 (c 4), .int .i64 (c 5), .int .i64 (c 6), .int .i64 (c 7), .int .i64 (c 8), .int .i64 (c 9), .int .i64 (c 10), .int .i64 (c 11), .int .i64 (c 12), .int .i64 (c 13), .int .i64 (c 14), .int .i64 (c 15), .int .i64 (c 16), .int .i64 (c 17), .int .i64 (c 18), .int .i64 (c 19)]] w fun E w' => E = .returned (.bool (suRight c)) ∧ Only none_ w w' := by
  have BX := Lib.hid (Cb.new w 26 c)
  have O0 := Lib.hid ((Only.refl none_ w).alloc (.cells #[.int .i64 (c 0), .int .i64 (c 1), .int .i64 (c 2), .int .i64 (c 3), .int .i64 (c 4), .int .i64 (c 5), .int .i64 (c 6), .int .i64 (c 7), .int .i64 (c 8), .int .i64 (c 9), .int .i64 (c 10), .int .i64 (c 11), .int .i64 (c 12), .int .i64 (c 13), .int .i64 (c 14), .int .i64 (c 15), .int .i64 (c 16), .int .i64 (c 17), .int .i64 (c 18), .int .i64 (c 19)] 26))
  have HC := Lib.hid (fun w => su_check c w)
  have hr : (suCode c == 0) = suRight c := by
    have := suCode_iff c
    cases hb : suRight c with
    | true => simp [this.1.2 hb]
    | false => simp [this.2.2 hb]
  generalize suCode c = q at *
  generalize suPlace c = p at *
  generalize suRight c = r at *
  go_enter Try.func36, Try.ntmps36
  go_wp2_with (first
    | (refine wpl_load rfl 26 _ rfl w.heap.size rfl _ #[.int .i64 (c 0), .int .i64 (c 1), .int .i64 (c 2), .int .i64 (c 3), .int .i64 (c 4), .int .i64 (c 5), .int .i64 (c 6), .int .i64 (c 7), .int .i64 (c 8), .int .i64 (c 9), .int .i64 (c 10), .int .i64 (c 11), .int .i64 (c 12), .int .i64 (c 13), .int .i64 (c 14), .int .i64 (c 15), .int .i64 (c 16), .int .i64 (c 17), .int .i64 (c 18), .int .i64 (c 19)] _ BX.out.x Try.underlying26 rfl (by kernel_rfl) ?_)
    | (go_at_call 10; refine (HC.out _).mono ?_; rintro E w1 ⟨rfl, o1⟩; have O1 := Lib.hid (O0.out.trans o1); clear o1))
  go_ret
  exact ⟨rfl, O1.out⟩
theorem rf_right (c : Nat → Int) (w : World) :
    Calls Try.prog 26 #[.agg #[.int .i64 (c 0), .int .i64 (c 1), .int .i64 (c 2), .int .i64 (c 3), .int .i64 (c 4), .int .i64 (c 5), .int .i64 (c 6), .int .i64 (c 7), .int .i64 (c 8), .int .i64 (c 9), .int .i64 (c 10), .int .i64 (c 11), .int .i64 (c 12), .int .i64 (c 13), .int .i64 (c 14), .int .i64 (c 15), .int .i64 (c 16), .int .i64 (c 17), .int .i64 (c 18), .int .i64 (c 19)]] w fun E w' => E = .returned (.bool (suRight c)) ∧ Only none_ w w' := by
  have BX := Lib.hid (Cb.new w 23 c)
  have O0 := Lib.hid ((Only.refl none_ w).alloc (.cells #[.int .i64 (c 0), .int .i64 (c 1), .int .i64 (c 2), .int .i64 (c 3), .int .i64 (c 4), .int .i64 (c 5), .int .i64 (c 6), .int .i64 (c 7), .int .i64 (c 8), .int .i64 (c 9), .int .i64 (c 10), .int .i64 (c 11), .int .i64 (c 12), .int .i64 (c 13), .int .i64 (c 14), .int .i64 (c 15), .int .i64 (c 16), .int .i64 (c 17), .int .i64 (c 18), .int .i64 (c 19)] 23))
  have HC := Lib.hid (fun w => rf_checkc c w)
  have hr : (suCode c == 0) = suRight c := by
    have := suCode_iff c
    cases hb : suRight c with
    | true => simp [this.1.2 hb]
    | false => simp [this.2.2 hb]
  generalize suCode c = q at *
  generalize suPlace c = p at *
  generalize suRight c = r at *
  go_enter Try.func26, Try.ntmps26
  go_wp2_with (first
    | (refine wpl_load rfl 23 _ rfl w.heap.size rfl _ #[.int .i64 (c 0), .int .i64 (c 1), .int .i64 (c 2), .int .i64 (c 3), .int .i64 (c 4), .int .i64 (c 5), .int .i64 (c 6), .int .i64 (c 7), .int .i64 (c 8), .int .i64 (c 9), .int .i64 (c 10), .int .i64 (c 11), .int .i64 (c 12), .int .i64 (c 13), .int .i64 (c 14), .int .i64 (c 15), .int .i64 (c 16), .int .i64 (c 17), .int .i64 (c 18), .int .i64 (c 19)] _ BX.out.x Try.underlying23 rfl (by kernel_rfl) ?_)
    | (go_at_call 11; refine (HC.out _).mono ?_; rintro E w1 ⟨rfl, o1⟩; have O1 := Lib.hid (O0.out.trans o1); clear o1))
  go_ret
  exact ⟨rfl, O1.out⟩

/-- How many parts there are at most. -/
theorem su_parts {c : Nat → Int} (hr : suRight c = true) : 0 ≤ suParts c ∧ suParts c ≤ 2400 := by
  obtain ⟨⟨b0, b1⟩, ⟨b2, b3⟩, _, _, _, _, _, _, _, _, _, _, _, _, _, _, _, ⟨b4, b5⟩, _, b6, b7⟩ := su_bounds hr
  have m1 : 0 ≤ c 0 * c 0 ∧ c 0 * c 0 ≤ 12 * 12 := ⟨Int.mul_nonneg (by omega) (by omega), Int.mul_le_mul b1 b1 (by omega) (by omega)⟩
  have m2 : 0 ≤ c 0 * c 0 * c 1 ∧ c 0 * c 0 * c 1 ≤ 12 * 12 * 16 := ⟨Int.mul_nonneg m1.1 (by omega), Int.mul_le_mul m1.2 b3 (by omega) (by omega)⟩
  unfold suParts
  generalize c 0 * c 0 * c 1 = n at *
  refine ⟨Int.ediv_nonneg (by omega) (by omega), ?_⟩
  have := Int.ediv_le_self (a := n + c 17 - 1) (c 17) (by omega)
  omega
/-- Products that are within bounds. -/
theorem mulb {a b A B : Int} (h1 : 0 ≤ a) (h2 : a ≤ A) (h3 : 0 ≤ b) (h4 : b ≤ B) : 0 ≤ a * b ∧ a * b ≤ A * B :=
  ⟨Int.mul_nonneg h1 h3, Int.mul_le_mul h2 h4 h3 (Int.le_trans h1 h2)⟩

theorem su_roomy (c : Nat → Int) (w : World) :
    Calls Try.prog 21 #[.agg #[.int .i64 (c 0), .int .i64 (c 1), .int .i64 (c 2), .int .i64 (c 3), .int .i64 (c 4), .int .i64 (c 5), .int .i64 (c 6), .int .i64 (c 7), .int .i64 (c 8), .int .i64 (c 9), .int .i64 (c 10), .int .i64 (c 11), .int .i64 (c 12), .int .i64 (c 13), .int .i64 (c 14), .int .i64 (c 15), .int .i64 (c 16), .int .i64 (c 17), .int .i64 (c 18), .int .i64 (c 19)]] w fun E w' => E = .returned (.bool (suRoomy c)) ∧ Only none_ w w' := by
  have BX := Lib.hid (Cb.new w 26 c)
  have O0 := Lib.hid ((Only.refl none_ w).alloc (.cells #[.int .i64 (c 0), .int .i64 (c 1), .int .i64 (c 2), .int .i64 (c 3), .int .i64 (c 4), .int .i64 (c 5), .int .i64 (c 6), .int .i64 (c 7), .int .i64 (c 8), .int .i64 (c 9), .int .i64 (c 10), .int .i64 (c 11), .int .i64 (c 12), .int .i64 (c 13), .int .i64 (c 14), .int .i64 (c 15), .int .i64 (c 16), .int .i64 (c 17), .int .i64 (c 18), .int .i64 (c 19)] 26))
  have HC := Lib.hid (fun w => su_maybe c w)
  cases hr : suRight c with
  | false =>
    have HR : Hid (suRoomy c = false) := by rw [Hid, suRoomy, hr]; rfl
    rw [hr] at HC
    clear hr
    go_enter Try.func21, Try.ntmps21
    go_wp2_with (first
      | (refine wpl_load rfl 26 _ rfl w.heap.size rfl _ #[.int .i64 (c 0), .int .i64 (c 1), .int .i64 (c 2), .int .i64 (c 3), .int .i64 (c 4), .int .i64 (c 5), .int .i64 (c 6), .int .i64 (c 7), .int .i64 (c 8), .int .i64 (c 9), .int .i64 (c 10), .int .i64 (c 11), .int .i64 (c 12), .int .i64 (c 13), .int .i64 (c 14), .int .i64 (c 15), .int .i64 (c 16), .int .i64 (c 17), .int .i64 (c 18), .int .i64 (c 19)] _ BX.out.x Try.underlying26 rfl (by kernel_rfl) ?_)
      | (go_at_call 36; refine (HC.out _).mono ?_; rintro E w1 ⟨rfl, o1⟩; have O1 := Lib.hid (O0.out.trans o1); clear o1))
    go_ret
    exact ⟨by rw [HR.out]; rfl, O1.out⟩
  | true =>
    obtain ⟨⟨b0, b1⟩, _, _, _, _, _, ⟨b2, b3⟩, _⟩ := su_bounds hr
    have HR : Hid (suRoomy c = decide (c 0 - 1 ≤ c 6)) := by rw [Hid, suRoomy, hr]; rfl
    rw [hr] at HC
    clear hr
    go_enter Try.func21, Try.ntmps21
    go_wp2_with (first
      | (refine wpl_load rfl 26 _ rfl w.heap.size rfl _ #[.int .i64 (c 0), .int .i64 (c 1), .int .i64 (c 2), .int .i64 (c 3), .int .i64 (c 4), .int .i64 (c 5), .int .i64 (c 6), .int .i64 (c 7), .int .i64 (c 8), .int .i64 (c 9), .int .i64 (c 10), .int .i64 (c 11), .int .i64 (c 12), .int .i64 (c 13), .int .i64 (c 14), .int .i64 (c 15), .int .i64 (c 16), .int .i64 (c 17), .int .i64 (c 18), .int .i64 (c 19)] _ BX.out.x Try.underlying26 rfl (by kernel_rfl) ?_)
      | (go_at_call 36; refine (HC.out _).mono ?_; rintro E w1 ⟨rfl, o1⟩; have O1 := Lib.hid (O0.out.trans o1)
         have B1 := BX.out.keep o1; have q6 := B1.x.cell_ (i := 6) rfl; have q0 := B1.x.cell_ (i := 0) rfl; clear o1 B1))
    go_ret
    exact ⟨by rw [HR.out]; rfl, O1.out⟩
theorem rf_roomy (c : Nat → Int) (w : World) :
    Calls Try.prog 22 #[.agg #[.int .i64 (c 0), .int .i64 (c 1), .int .i64 (c 2), .int .i64 (c 3), .int .i64 (c 4), .int .i64 (c 5), .int .i64 (c 6), .int .i64 (c 7), .int .i64 (c 8), .int .i64 (c 9), .int .i64 (c 10), .int .i64 (c 11), .int .i64 (c 12), .int .i64 (c 13), .int .i64 (c 14), .int .i64 (c 15), .int .i64 (c 16), .int .i64 (c 17), .int .i64 (c 18), .int .i64 (c 19)]] w fun E w' => E = .returned (.bool (suRoomy c)) ∧ Only none_ w w' := by
  have BX := Lib.hid (Cb.new w 23 c)
  have O0 := Lib.hid ((Only.refl none_ w).alloc (.cells #[.int .i64 (c 0), .int .i64 (c 1), .int .i64 (c 2), .int .i64 (c 3), .int .i64 (c 4), .int .i64 (c 5), .int .i64 (c 6), .int .i64 (c 7), .int .i64 (c 8), .int .i64 (c 9), .int .i64 (c 10), .int .i64 (c 11), .int .i64 (c 12), .int .i64 (c 13), .int .i64 (c 14), .int .i64 (c 15), .int .i64 (c 16), .int .i64 (c 17), .int .i64 (c 18), .int .i64 (c 19)] 23))
  have HC := Lib.hid (fun w => rf_right c w)
  cases hr : suRight c with
  | false =>
    have HR : Hid (suRoomy c = false) := by rw [Hid, suRoomy, hr]; rfl
    rw [hr] at HC
    clear hr
    go_enter Try.func22, Try.ntmps22
    go_wp2_with (first
      | (refine wpl_load rfl 23 _ rfl w.heap.size rfl _ #[.int .i64 (c 0), .int .i64 (c 1), .int .i64 (c 2), .int .i64 (c 3), .int .i64 (c 4), .int .i64 (c 5), .int .i64 (c 6), .int .i64 (c 7), .int .i64 (c 8), .int .i64 (c 9), .int .i64 (c 10), .int .i64 (c 11), .int .i64 (c 12), .int .i64 (c 13), .int .i64 (c 14), .int .i64 (c 15), .int .i64 (c 16), .int .i64 (c 17), .int .i64 (c 18), .int .i64 (c 19)] _ BX.out.x Try.underlying23 rfl (by kernel_rfl) ?_)
      | (go_at_call 26; refine (HC.out _).mono ?_; rintro E w1 ⟨rfl, o1⟩; have O1 := Lib.hid (O0.out.trans o1); clear o1))
    go_ret
    exact ⟨by rw [HR.out]; rfl, O1.out⟩
  | true =>
    obtain ⟨⟨b0, b1⟩, _, _, _, _, _, ⟨b2, b3⟩, _⟩ := su_bounds hr
    have HR : Hid (suRoomy c = decide (c 0 - 1 ≤ c 6)) := by rw [Hid, suRoomy, hr]; rfl
    rw [hr] at HC
    clear hr
    go_enter Try.func22, Try.ntmps22
    go_wp2_with (first
      | (refine wpl_load rfl 23 _ rfl w.heap.size rfl _ #[.int .i64 (c 0), .int .i64 (c 1), .int .i64 (c 2), .int .i64 (c 3), .int .i64 (c 4), .int .i64 (c 5), .int .i64 (c 6), .int .i64 (c 7), .int .i64 (c 8), .int .i64 (c 9), .int .i64 (c 10), .int .i64 (c 11), .int .i64 (c 12), .int .i64 (c 13), .int .i64 (c 14), .int .i64 (c 15), .int .i64 (c 16), .int .i64 (c 17), .int .i64 (c 18), .int .i64 (c 19)] _ BX.out.x Try.underlying23 rfl (by kernel_rfl) ?_)
      | (go_at_call 26; refine (HC.out _).mono ?_; rintro E w1 ⟨rfl, o1⟩; have O1 := Lib.hid (O0.out.trans o1)
         have B1 := BX.out.keep o1; have q6 := B1.x.cell_ (i := 6) rfl; have q0 := B1.x.cell_ (i := 0) rfl; clear o1 B1))
    go_ret
    exact ⟨by rw [HR.out]; rfl, O1.out⟩

set_option maxHeartbeats 1600000 in
theorem su_steps (c : Nat → Int) (w : World) :
    Calls Try.prog 23 #[.agg #[.int .i64 (c 0), .int .i64 (c 1), .int .i64 (c 2), .int .i64 (c 3), .int .i64 (c 4), .int .i64 (c 5), .int .i64 (c 6), .int .i64 (c 7), .int .i64 (c 8), .int .i64 (c 9), .int .i64 (c 10), .int .i64 (c 11), .int .i64 (c 12), .int .i64 (c 13), .int .i64 (c 14), .int .i64 (c 15), .int .i64 (c 16), .int .i64 (c 17), .int .i64 (c 18), .int .i64 (c 19)]] w fun E w' => E = .returned (.int .i64 (suSteps c)) ∧ Only none_ w w' := by
  have BX := Lib.hid (Cb.new w 26 c)
  have O0 := Lib.hid ((Only.refl none_ w).alloc (.cells #[.int .i64 (c 0), .int .i64 (c 1), .int .i64 (c 2), .int .i64 (c 3), .int .i64 (c 4), .int .i64 (c 5), .int .i64 (c 6), .int .i64 (c 7), .int .i64 (c 8), .int .i64 (c 9), .int .i64 (c 10), .int .i64 (c 11), .int .i64 (c 12), .int .i64 (c 13), .int .i64 (c 14), .int .i64 (c 15), .int .i64 (c 16), .int .i64 (c 17), .int .i64 (c 18), .int .i64 (c 19)] 26))
  have HC := Lib.hid (fun w => su_maybe c w)
  cases hr : suRight c with
  | false =>
    have HR : Hid (suSteps c = 0) := by rw [Hid, suSteps, hr]; rfl
    rw [hr] at HC
    clear hr
    go_enter Try.func23, Try.ntmps23
    go_wp2_with (first
      | (refine wpl_load rfl 26 _ rfl w.heap.size rfl _ #[.int .i64 (c 0), .int .i64 (c 1), .int .i64 (c 2), .int .i64 (c 3), .int .i64 (c 4), .int .i64 (c 5), .int .i64 (c 6), .int .i64 (c 7), .int .i64 (c 8), .int .i64 (c 9), .int .i64 (c 10), .int .i64 (c 11), .int .i64 (c 12), .int .i64 (c 13), .int .i64 (c 14), .int .i64 (c 15), .int .i64 (c 16), .int .i64 (c 17), .int .i64 (c 18), .int .i64 (c 19)] _ BX.out.x Try.underlying26 rfl (by kernel_rfl) ?_)
      | (go_at_call 36; refine (HC.out _).mono ?_; rintro E w1 ⟨rfl, o1⟩; have O1 := Lib.hid (O0.out.trans o1); clear o1))
    go_ret
    exact ⟨by rw [HR.out]; rfl, O1.out⟩
  | true =>
    obtain ⟨⟨b0, b1⟩, ⟨b2, b3⟩, _, _, _, _, _, _, _, _, _, _, _, _, _, _, _, ⟨b4, b5⟩, _, b6, b7⟩ := su_bounds hr
    have HR : Hid (suSteps c = (c 0 * c 0 * c 1 + c 17 - 1) / c 17 + c 19 + 2) := by rw [Hid, suSteps, hr]; rfl
    have HP := Lib.hid (su_parts hr)
    rw [hr] at HC
    clear hr
    have m1 := mulb (by omega) b1 (by omega) b1
    have m2 := mulb m1.1 m1.2 (by omega) b3
    have m3 : 0 ≤ (c 0 * c 0 * c 1 + c 17 - 1) / c 17 ∧ (c 0 * c 0 * c 1 + c 17 - 1) / c 17 ≤ 2400 := HP.out
    go_enter Try.func23, Try.ntmps23
    go_wp2_with (first
      | (refine wpl_load rfl 26 _ rfl w.heap.size rfl _ #[.int .i64 (c 0), .int .i64 (c 1), .int .i64 (c 2), .int .i64 (c 3), .int .i64 (c 4), .int .i64 (c 5), .int .i64 (c 6), .int .i64 (c 7), .int .i64 (c 8), .int .i64 (c 9), .int .i64 (c 10), .int .i64 (c 11), .int .i64 (c 12), .int .i64 (c 13), .int .i64 (c 14), .int .i64 (c 15), .int .i64 (c 16), .int .i64 (c 17), .int .i64 (c 18), .int .i64 (c 19)] _ BX.out.x Try.underlying26 rfl (by kernel_rfl) ?_)
      | (go_at_call 36; refine (HC.out _).mono ?_; rintro E w1 ⟨rfl, o1⟩; have O1 := Lib.hid (O0.out.trans o1)
         have B1 := BX.out.keep o1; have q1 := B1.x.cell_ (i := 1) rfl; have q0 := B1.x.cell_ (i := 0) rfl; have q17 := B1.x.cell_ (i := 17) rfl; have q19 := B1.x.cell_ (i := 19) rfl; clear o1 B1))
    go_ret
    exact ⟨by rw [HR.out]; rfl, O1.out⟩
end Go.Proofs.Ythhfpjecgdedgaa
