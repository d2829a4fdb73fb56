/- Long of a configuration on both sides, the example, and configurations held against each other. No statement of the seat is proved here. -/
import Derived.Test.YthhfpjecgdedgaaSuE
import Derived.Test.YthhfpjecgdedgaaEqS
namespace Go.Proofs.Ythhfpjecgdedgaa
open Go.RowKit
set_option maxRecDepth 100000
set_option linter.all false

theorem eqFields_self {P : Program} {w : World} {d : Nat} {cs : Array Value} {ti : TypeId} (hu : P.underlying ti = some (.int .i64)) (hall : ∀ i, i < cs.size → ∃ x, cs[i]? = some (.int .i64 x)) :
    ∀ fs : List Field, fs.all (fun f => f.type == ti && decide (f.offset < cs.size)) = true → (Op.eqFields (d + 1) cs cs fs).run P w = .ok true w
  | [], _ => rfl
  | f :: fs, h => by
    simp only [List.all_cons, Bool.and_eq_true, beq_iff_eq, decide_eq_true_eq] at h
    obtain ⟨x, hx⟩ := hall _ h.1.2
    have e : (Op.equalIn (d + 1) ti (.int .i64 x) (.int .i64 x)).run P w = .ok (x == x) w := run_equalIn_int w d ti .i64 .i64 x x hu
    have p : (part ti cs f.offset).run P w = .ok (.int .i64 x) w := by simp [part, isAgg, run_underlying hu, hx]
    have ih := eqFields_self (w := w) (d := d) hu hall fs h.2
    unfold Op.eqFields
    rw [h.1.1]
    split
    · simp [Sem.run_bind, p, e, ih]
    · exact ih
theorem eqItems_self {P : Program} {w : World} {d : Nat} {cs : Array Value} {ti : TypeId} (hu : P.underlying ti = some (.int .i64)) (hall : ∀ i, i < cs.size → ∃ x, cs[i]? = some (.int .i64 x)) :
    ∀ is : List Nat, (∀ i ∈ is, i < cs.size) → (Op.eqItems (d + 1) ti 1 cs cs is).run P w = .ok true w
  | [], _ => rfl
  | i :: is, h => by
    obtain ⟨x, hx⟩ := hall i (h i (by simp))
    have e : (Op.equalIn (d + 1) ti (.int .i64 x) (.int .i64 x)).run P w = .ok (x == x) w := run_equalIn_int w d ti .i64 .i64 x x hu
    have p : (part ti cs i).run P w = .ok (.int .i64 x) w := by simp [part, isAgg, run_underlying hu, hx]
    have ih := eqItems_self (w := w) (d := d) hu hall is (fun j hj => h j (by simp [hj]))
    unfold Op.eqItems
    simp [Sem.run_bind, p, e, ih]
theorem eq_cfg (c : Nat → Int) (w : World) : (Op.equalIn 10000 26 (.agg #[.int .i64 (c 0), .int .i64 (c 1), .int .i64 (c 2), .int .i64 (c 3), .int .i64 (c 4), .int .i64 (c 5), .int .i64 (c 6), .int .i64 (c 7), .int .i64 (c 8), .int .i64 (c 9), .int .i64 (c 10), .int .i64 (c 11), .int .i64 (c 12), .int .i64 (c 13), .int .i64 (c 14), .int .i64 (c 15), .int .i64 (c 16), .int .i64 (c 17), .int .i64 (c 18), .int .i64 (c 19)]) (.agg #[.int .i64 (c 0), .int .i64 (c 1), .int .i64 (c 2), .int .i64 (c 3), .int .i64 (c 4), .int .i64 (c 5), .int .i64 (c 6), .int .i64 (c 7), .int .i64 (c 8), .int .i64 (c 9), .int .i64 (c 10), .int .i64 (c 11), .int .i64 (c 12), .int .i64 (c 13), .int .i64 (c 14), .int .i64 (c 15), .int .i64 (c 16), .int .i64 (c 17), .int .i64 (c 18), .int .i64 (c 19)])).run Try.prog w = .ok true w := by
  rw [eq_struct Try.underlying26 (by kernel_rfl) 9999]
  exact eqFields_self Try.underlying3 (fun i hi => ⟨c i, cf_at c i hi⟩) _ (by kernel_rfl)
theorem eq_opts (a b c d f : Int) (w : World) : (Op.equalIn 10000 36 (.agg #[.int .i64 a, .int .i64 b, .int .i64 c, .int .i64 d, .int .i64 f]) (.agg #[.int .i64 a, .int .i64 b, .int .i64 c, .int .i64 d, .int .i64 f])).run Try.prog w = .ok true w := by
  rw [eq_struct Try.underlying36 (by kernel_rfl) 9999]
  refine eqFields_self Try.underlying3 (fun i hi => ?_) _ (by kernel_rfl)
  rcases (by simpa using hi : i < 5) with h
  rcases (by omega : i = 0 ∨ i = 1 ∨ i = 2 ∨ i = 3 ∨ i = 4) with rfl | rfl | rfl | rfl | rfl
  · exact ⟨_, rfl⟩
  · exact ⟨_, rfl⟩
  · exact ⟨_, rfl⟩
  · exact ⟨_, rfl⟩
  · exact ⟨_, rfl⟩
theorem eq_list (c : Nat → Int) (w : World) : (Op.equalIn 10000 22 (.agg #[.int .i64 (c 0), .int .i64 (c 1), .int .i64 (c 2), .int .i64 (c 3), .int .i64 (c 4), .int .i64 (c 5), .int .i64 (c 6), .int .i64 (c 7), .int .i64 (c 8), .int .i64 (c 9), .int .i64 (c 10), .int .i64 (c 11), .int .i64 (c 12), .int .i64 (c 13), .int .i64 (c 14), .int .i64 (c 15), .int .i64 (c 16), .int .i64 (c 17), .int .i64 (c 18), .int .i64 (c 19)]) (.agg #[.int .i64 (c 0), .int .i64 (c 1), .int .i64 (c 2), .int .i64 (c 3), .int .i64 (c 4), .int .i64 (c 5), .int .i64 (c 6), .int .i64 (c 7), .int .i64 (c 8), .int .i64 (c 9), .int .i64 (c 10), .int .i64 (c 11), .int .i64 (c 12), .int .i64 (c 13), .int .i64 (c 14), .int .i64 (c 15), .int .i64 (c 16), .int .i64 (c 17), .int .i64 (c 18), .int .i64 (c 19)])).run Try.prog w = .ok true w := by
  obtain ⟨i, hi, _⟩ : ∃ i, Try.prog.info? 3 = some i ∧ True := by
    have : (Try.prog.info? 3).map (·.size) = some 1 := by kernel_rfl
    cases h : Try.prog.info? 3 with
    | none => rw [h] at this; cases this
    | some i => exact ⟨i, rfl, trivial⟩
  have c1 : Try.prog.cellsOf 3 = 1 := by kernel_rfl
  rw [run_equalIn_array w 9999 _ _ Try.underlying22 hi, c1]
  exact eqItems_self Try.underlying3 (fun i hi => ⟨c i, cf_at c i hi⟩) _ (fun i hi => List.mem_range.1 hi)

theorem ne_list (c : Nat → Int) (w : World) : (binOp .neq 22 (.agg #[.int .i64 (c 0), .int .i64 (c 1), .int .i64 (c 2), .int .i64 (c 3), .int .i64 (c 4), .int .i64 (c 5), .int .i64 (c 6), .int .i64 (c 7), .int .i64 (c 8), .int .i64 (c 9), .int .i64 (c 10), .int .i64 (c 11), .int .i64 (c 12), .int .i64 (c 13), .int .i64 (c 14), .int .i64 (c 15), .int .i64 (c 16), .int .i64 (c 17), .int .i64 (c 18), .int .i64 (c 19)]) (.agg #[.int .i64 (c 0), .int .i64 (c 1), .int .i64 (c 2), .int .i64 (c 3), .int .i64 (c 4), .int .i64 (c 5), .int .i64 (c 6), .int .i64 (c 7), .int .i64 (c 8), .int .i64 (c 9), .int .i64 (c 10), .int .i64 (c 11), .int .i64 (c 12), .int .i64 (c 13), .int .i64 (c 14), .int .i64 (c 15), .int .i64 (c 16), .int .i64 (c 17), .int .i64 (c 18), .int .i64 (c 19)])).run Try.prog w = .ok (.bool false) w := neq_of (eq_list c w)
theorem ne_cfg (c : Nat → Int) (w : World) : (binOp .neq 26 (.agg #[.int .i64 (c 0), .int .i64 (c 1), .int .i64 (c 2), .int .i64 (c 3), .int .i64 (c 4), .int .i64 (c 5), .int .i64 (c 6), .int .i64 (c 7), .int .i64 (c 8), .int .i64 (c 9), .int .i64 (c 10), .int .i64 (c 11), .int .i64 (c 12), .int .i64 (c 13), .int .i64 (c 14), .int .i64 (c 15), .int .i64 (c 16), .int .i64 (c 17), .int .i64 (c 18), .int .i64 (c 19)]) (.agg #[.int .i64 (c 0), .int .i64 (c 1), .int .i64 (c 2), .int .i64 (c 3), .int .i64 (c 4), .int .i64 (c 5), .int .i64 (c 6), .int .i64 (c 7), .int .i64 (c 8), .int .i64 (c 9), .int .i64 (c 10), .int .i64 (c 11), .int .i64 (c 12), .int .i64 (c 13), .int .i64 (c 14), .int .i64 (c 15), .int .i64 (c 16), .int .i64 (c 17), .int .i64 (c 18), .int .i64 (c 19)])).run Try.prog w = .ok (.bool false) w := neq_of (eq_cfg c w)
theorem el_cfg (c : Nat → Int) (w : World) : (binOp .eql 26 (.agg #[.int .i64 (c 0), .int .i64 (c 1), .int .i64 (c 2), .int .i64 (c 3), .int .i64 (c 4), .int .i64 (c 5), .int .i64 (c 6), .int .i64 (c 7), .int .i64 (c 8), .int .i64 (c 9), .int .i64 (c 10), .int .i64 (c 11), .int .i64 (c 12), .int .i64 (c 13), .int .i64 (c 14), .int .i64 (c 15), .int .i64 (c 16), .int .i64 (c 17), .int .i64 (c 18), .int .i64 (c 19)]) (.agg #[.int .i64 (c 0), .int .i64 (c 1), .int .i64 (c 2), .int .i64 (c 3), .int .i64 (c 4), .int .i64 (c 5), .int .i64 (c 6), .int .i64 (c 7), .int .i64 (c 8), .int .i64 (c 9), .int .i64 (c 10), .int .i64 (c 11), .int .i64 (c 12), .int .i64 (c 13), .int .i64 (c 14), .int .i64 (c 15), .int .i64 (c 16), .int .i64 (c 17), .int .i64 (c 18), .int .i64 (c 19)])).run Try.prog w = .ok (.bool true) w := eql_of (eq_cfg c w)
theorem ne_opts (a b c d f : Int) (w : World) : (binOp .neq 36 (.agg #[.int .i64 a, .int .i64 b, .int .i64 c, .int .i64 d, .int .i64 f]) (.agg #[.int .i64 a, .int .i64 b, .int .i64 c, .int .i64 d, .int .i64 f])).run Try.prog w = .ok (.bool false) w := neq_of (eq_opts a b c d f w)
theorem suLong_no {c : Nat → Int} (h : suRoomy c = false) : suLong c = (0, false) := by rw [suLong, h]; rfl
theorem suLong_zero {c : Nat → Int} (h : c 3 = 0) : suLong c = (0, false) := by simp [suLong, h]
theorem suLong_short {c : Nat → Int} (h : c 3 < 2 * suRounds c + 4) : suLong c = (0, false) := by simp [suLong]; omega
theorem suLong_yes {c : Nat → Int} (h : suRoomy c = true) (h3 : ¬ c 3 = 0) (hl : ¬ c 3 < 2 * suRounds c + 4) : suLong c = (4 * suRounds c + 4, true) := by
  have : 2 * suRounds c + 4 ≤ c 3 := by omega
  simp [suLong, h, h3, this]

set_option maxHeartbeats 1600000 in
theorem su_long (c : Nat → Int) (w : World) :
    Calls Try.prog 19 #[.agg #[.int .i64 (c 0), .int .i64 (c 1), .int .i64 (c 2), .int .i64 (c 3), .int .i64 (c 4), .int .i64 (c 5), .int .i64 (c 6), .int .i64 (c 7), .int .i64 (c 8), .int .i64 (c 9), .int .i64 (c 10), .int .i64 (c 11), .int .i64 (c 12), .int .i64 (c 13), .int .i64 (c 14), .int .i64 (c 15), .int .i64 (c 16), .int .i64 (c 17), .int .i64 (c 18), .int .i64 (c 19)]] w fun E w' => E = .returned (.tuple #[.int .i64 (suLong c).1, .bool (suLong c).2]) ∧ Only none_ w w' := by
  have BX := Lib.hid (Cb.new w 26 c)
  have O0 := Lib.hid ((Only.refl none_ w).alloc (.cells #[.int .i64 (c 0), .int .i64 (c 1), .int .i64 (c 2), .int .i64 (c 3), .int .i64 (c 4), .int .i64 (c 5), .int .i64 (c 6), .int .i64 (c 7), .int .i64 (c 8), .int .i64 (c 9), .int .i64 (c 10), .int .i64 (c 11), .int .i64 (c 12), .int .i64 (c 13), .int .i64 (c 14), .int .i64 (c 15), .int .i64 (c 16), .int .i64 (c 17), .int .i64 (c 18), .int .i64 (c 19)] 26))
  have HC := Lib.hid (fun w => su_roomy c w)
  cases hr : suRoomy c with
  | false =>
    have HR : Hid (suLong c = (0, false)) := suLong_no hr
    rw [hr] at HC
    clear hr
    go_enter Try.func19, Try.ntmps19
    go_wp2_with (first
      | (refine wpl_load rfl 26 _ rfl w.heap.size rfl _ #[.int .i64 (c 0), .int .i64 (c 1), .int .i64 (c 2), .int .i64 (c 3), .int .i64 (c 4), .int .i64 (c 5), .int .i64 (c 6), .int .i64 (c 7), .int .i64 (c 8), .int .i64 (c 9), .int .i64 (c 10), .int .i64 (c 11), .int .i64 (c 12), .int .i64 (c 13), .int .i64 (c 14), .int .i64 (c 15), .int .i64 (c 16), .int .i64 (c 17), .int .i64 (c 18), .int .i64 (c 19)] _ (by first | exact B1.out.x | exact BX.out.x) Try.underlying26 rfl (by kernel_rfl) ?_)
      | (go_at_call 21; refine (HC.out _).mono ?_; rintro E w1 ⟨rfl, o1⟩; have O1 := Lib.hid (O0.out.trans o1)
         have B1 := Lib.hid (BX.out.keep o1); have q3 := B1.out.x.cell_ (i := 3) rfl; clear o1))
    go_ret2
    exact ⟨by rw [HR.out]; rfl, O1.out⟩
  | true =>
    have HN := Lib.hid (fun w => su_rounds c (suRoomy_right hr) w)
    have hb := suRounds_le (suRoomy_right hr)
    obtain ⟨_, _, _, ⟨b0, b1⟩, _⟩ := su_bounds (suRoomy_right hr)
    by_cases h3 : c 3 = 0
    · have HR : Hid (suLong c = (0, false)) := suLong_zero h3
      have hd : (c 3 == 0) = true := by simpa using h3
      rw [hr] at HC
      clear hr h3 b0 b1
      go_enter Try.func19, Try.ntmps19
      go_wp2_with (first
        | (refine wpl_load rfl 26 _ rfl w.heap.size rfl _ #[.int .i64 (c 0), .int .i64 (c 1), .int .i64 (c 2), .int .i64 (c 3), .int .i64 (c 4), .int .i64 (c 5), .int .i64 (c 6), .int .i64 (c 7), .int .i64 (c 8), .int .i64 (c 9), .int .i64 (c 10), .int .i64 (c 11), .int .i64 (c 12), .int .i64 (c 13), .int .i64 (c 14), .int .i64 (c 15), .int .i64 (c 16), .int .i64 (c 17), .int .i64 (c 18), .int .i64 (c 19)] _ (by first | exact B1.out.x | exact BX.out.x) Try.underlying26 rfl (by kernel_rfl) ?_)
        | (go_at_call 21; refine (HC.out _).mono ?_; rintro E w1 ⟨rfl, o1⟩; have O1 := Lib.hid (O0.out.trans o1)
           have B1 := Lib.hid (BX.out.keep o1); have q3 := B1.out.x.cell_ (i := 3) rfl; clear o1))
      go_ret2
      exact ⟨by rw [HR.out]; rfl, O1.out⟩
    · have hd : (c 3 == 0) = false := by simpa using h3
      by_cases hl : c 3 < 2 * suRounds c + 4
      · have HR : Hid (suLong c = (0, false)) := suLong_short hl
        generalize suRounds c = rn at *
        rw [hr] at HC
        clear hr h3
        go_enter Try.func19, Try.ntmps19
        go_wp2_with (first
          | (refine wpl_load rfl 26 _ rfl w.heap.size rfl _ #[.int .i64 (c 0), .int .i64 (c 1), .int .i64 (c 2), .int .i64 (c 3), .int .i64 (c 4), .int .i64 (c 5), .int .i64 (c 6), .int .i64 (c 7), .int .i64 (c 8), .int .i64 (c 9), .int .i64 (c 10), .int .i64 (c 11), .int .i64 (c 12), .int .i64 (c 13), .int .i64 (c 14), .int .i64 (c 15), .int .i64 (c 16), .int .i64 (c 17), .int .i64 (c 18), .int .i64 (c 19)] _ (by first | exact B1.out.x | exact BX.out.x) Try.underlying26 rfl (by kernel_rfl) ?_)
          | (go_at_call 21; refine (HC.out _).mono ?_; rintro E w1 ⟨rfl, o1⟩; have O1 := Lib.hid (O0.out.trans o1)
             have B1 := Lib.hid (BX.out.keep o1); have q3 := B1.out.x.cell_ (i := 3) rfl; clear o1)
          | (go_at_call 34; refine (HN.out _).mono ?_; rintro E w2 ⟨rfl, o2⟩; have O2 := Lib.hid (O1.out.trans o2)
             have B2 := Lib.hid (B1.out.keep o2); have z3 := B2.out.x.cell_ (i := 3) rfl; clear o2))
        go_ret2
        exact ⟨by rw [HR.out]; rfl, O2.out⟩
      · have HR : Hid (suLong c = (4 * suRounds c + 4, true)) := suLong_yes hr h3 hl
        generalize suRounds c = rn at *
        rw [hr] at HC
        clear hr h3
        go_enter Try.func19, Try.ntmps19
        go_wp2_with (first
          | (refine wpl_load rfl 26 _ rfl w.heap.size rfl _ #[.int .i64 (c 0), .int .i64 (c 1), .int .i64 (c 2), .int .i64 (c 3), .int .i64 (c 4), .int .i64 (c 5), .int .i64 (c 6), .int .i64 (c 7), .int .i64 (c 8), .int .i64 (c 9), .int .i64 (c 10), .int .i64 (c 11), .int .i64 (c 12), .int .i64 (c 13), .int .i64 (c 14), .int .i64 (c 15), .int .i64 (c 16), .int .i64 (c 17), .int .i64 (c 18), .int .i64 (c 19)] _ (by first | exact B1.out.x | exact BX.out.x) Try.underlying26 rfl (by kernel_rfl) ?_)
          | (go_at_call 21; refine (HC.out _).mono ?_; rintro E w1 ⟨rfl, o1⟩; have O1 := Lib.hid (O0.out.trans o1)
             have B1 := Lib.hid (BX.out.keep o1); have q3 := B1.out.x.cell_ (i := 3) rfl; clear o1)
          | (go_at_call 34; refine (HN.out _).mono ?_; rintro E w2 ⟨rfl, o2⟩; have O2 := Lib.hid (O1.out.trans o2)
             have B2 := Lib.hid (B1.out.keep o2); have z3 := B2.out.x.cell_ (i := 3) rfl; clear o2))
        go_ret2
        exact ⟨by rw [HR.out]; rfl, O2.out⟩

set_option maxHeartbeats 3200000 in
theorem rf_long (c : Nat → Int) (w : World) :
    Calls Try.prog 20 #[.agg #[.int .i64 (c 0), .int .i64 (c 1), .int .i64 (c 2), .int .i64 (c 3), .int .i64 (c 4), .int .i64 (c 5), .int .i64 (c 6), .int .i64 (c 7), .int .i64 (c 8), .int .i64 (c 9), .int .i64 (c 10), .int .i64 (c 11), .int .i64 (c 12), .int .i64 (c 13), .int .i64 (c 14), .int .i64 (c 15), .int .i64 (c 16), .int .i64 (c 17), .int .i64 (c 18), .int .i64 (c 19)]] w fun E w' => E = .returned (.tuple #[.int .i64 (suLong c).1, .bool (suLong c).2]) ∧ Only none_ w w' := by
  have BX := Lib.hid (Cb.new w 23 c)
  have O0 := Lib.hid ((Only.refl none_ w).alloc (.cells #[.int .i64 (c 0), .int .i64 (c 1), .int .i64 (c 2), .int .i64 (c 3), .int .i64 (c 4), .int .i64 (c 5), .int .i64 (c 6), .int .i64 (c 7), .int .i64 (c 8), .int .i64 (c 9), .int .i64 (c 10), .int .i64 (c 11), .int .i64 (c 12), .int .i64 (c 13), .int .i64 (c 14), .int .i64 (c 15), .int .i64 (c 16), .int .i64 (c 17), .int .i64 (c 18), .int .i64 (c 19)] 23))
  have HC := Lib.hid (fun w => rf_roomy c w)
  cases hr : suRoomy c with
  | false =>
    have HR : Hid (suLong c = (0, false)) := suLong_no hr
    rw [hr] at HC
    clear hr
    go_enter Try.func20, Try.ntmps20
    go_wp2_with fail
    (refine wp_region_steady (fun w' => Cb w w.heap.size 23 c w') 17 (by kernel_rfl) (by kernel_rfl) (BX.out.keep (Only.refl none_ _).drew) ?_; simp only [List.take_succ_cons, List.take_zero, List.drop_succ_cons, List.drop_zero])
    repeat (first
      | (refine sd_value (v := ?_) (by rfl) (fun w0 hS => ?_) ?_; rotate_left; (· (have hc := Blk.cell_ (i := 3) (Cb.x hS) rfl; go_simp; try (with_reducible rfl))); try simp only [Act.put, List.setIfInBounds_toArray, List.set_cons_zero, List.set_cons_succ]) | (refine sd_load (by rfl) 23 _ rfl w.heap.size rfl _ #[.int .i64 (c 0), .int .i64 (c 1), .int .i64 (c 2), .int .i64 (c 3), .int .i64 (c 4), .int .i64 (c 5), .int .i64 (c 6), .int .i64 (c 7), .int .i64 (c 8), .int .i64 (c 9), .int .i64 (c 10), .int .i64 (c 11), .int .i64 (c 12), .int .i64 (c 13), .int .i64 (c 14), .int .i64 (c 15), .int .i64 (c 16), .int .i64 (c 17), .int .i64 (c 18), .int .i64 (c 19)] _ (fun w hS => Cb.x hS) Try.underlying23 rfl (by kernel_rfl) ?_; try simp only [Act.put, List.setIfInBounds_toArray, List.set_cons_zero, List.set_cons_succ])
      | (refine sd_skip (by rfl) ?_; try simp only [Act.put, List.setIfInBounds_toArray, List.set_cons_zero, List.set_cons_succ])
      | (refine sd_call (v := ?_) (f := 22) (args := ?_) (by rfl) (fun w0 hS => ?_) (fun w0 hS => ?_) ?_; rotate_left 2; (· (skip; go_simp; try (with_reducible rfl))); (· (refine (HC.out _).mono ?_; rintro E w9 ⟨rfl, o9⟩; refine ⟨?_, hS.keep o9⟩; rfl)); try simp only [Act.put, List.setIfInBounds_toArray, List.set_cons_zero, List.set_cons_succ])
      | (refine sd_call (v := ?_) (f := 35) (args := ?_) (by rfl) (fun w0 hS => ?_) (fun w0 hS => ?_) ?_; rotate_left 2; (· (skip; go_simp; try (with_reducible rfl))); (· (refine (HN.out _).mono ?_; rintro E w9 ⟨rfl, o9⟩; refine ⟨?_, hS.keep o9⟩; rfl)); try simp only [Act.put, List.setIfInBounds_toArray, List.set_cons_zero, List.set_cons_succ]))
    refine sd_nil ?_
    intro w1 t1
    go_wp2_with fail
    go_ret2
    exact ⟨by rw [HR.out]; rfl, t1.ho⟩

  | true =>
    have HN := Lib.hid (fun w => rf_rounds c (suRoomy_right hr) w)
    have hb := suRounds_le (suRoomy_right hr)
    obtain ⟨_, _, _, ⟨b0, b1⟩, _⟩ := su_bounds (suRoomy_right hr)
    by_cases h3 : c 3 = 0
    · have HR : Hid (suLong c = (0, false)) := suLong_zero h3
      have hd : (c 3 == 0) = true := by simpa using h3
      rw [hr] at HC
      clear hr h3 b0 b1
      go_enter Try.func20, Try.ntmps20
      go_wp2_with fail
      (refine wp_region_steady (fun w' => Cb w w.heap.size 23 c w') 17 (by kernel_rfl) (by kernel_rfl) (BX.out.keep (Only.refl none_ _).drew) ?_; simp only [List.take_succ_cons, List.take_zero, List.drop_succ_cons, List.drop_zero])
      repeat (first
        | (refine sd_value (v := ?_) (by rfl) (fun w0 hS => ?_) ?_; rotate_left; (· (have hc := Blk.cell_ (i := 3) (Cb.x hS) rfl; go_simp; try (with_reducible rfl))); try simp only [Act.put, List.setIfInBounds_toArray, List.set_cons_zero, List.set_cons_succ]) | (refine sd_load (by rfl) 23 _ rfl w.heap.size rfl _ #[.int .i64 (c 0), .int .i64 (c 1), .int .i64 (c 2), .int .i64 (c 3), .int .i64 (c 4), .int .i64 (c 5), .int .i64 (c 6), .int .i64 (c 7), .int .i64 (c 8), .int .i64 (c 9), .int .i64 (c 10), .int .i64 (c 11), .int .i64 (c 12), .int .i64 (c 13), .int .i64 (c 14), .int .i64 (c 15), .int .i64 (c 16), .int .i64 (c 17), .int .i64 (c 18), .int .i64 (c 19)] _ (fun w hS => Cb.x hS) Try.underlying23 rfl (by kernel_rfl) ?_; try simp only [Act.put, List.setIfInBounds_toArray, List.set_cons_zero, List.set_cons_succ])
        | (refine sd_skip (by rfl) ?_; try simp only [Act.put, List.setIfInBounds_toArray, List.set_cons_zero, List.set_cons_succ])
        | (refine sd_call (v := ?_) (f := 22) (args := ?_) (by rfl) (fun w0 hS => ?_) (fun w0 hS => ?_) ?_; rotate_left 2; (· (skip; go_simp; try (with_reducible rfl))); (· (refine (HC.out _).mono ?_; rintro E w9 ⟨rfl, o9⟩; refine ⟨?_, hS.keep o9⟩; rfl)); try simp only [Act.put, List.setIfInBounds_toArray, List.set_cons_zero, List.set_cons_succ])
        | (refine sd_call (v := ?_) (f := 35) (args := ?_) (by rfl) (fun w0 hS => ?_) (fun w0 hS => ?_) ?_; rotate_left 2; (· (skip; go_simp; try (with_reducible rfl))); (· (refine (HN.out _).mono ?_; rintro E w9 ⟨rfl, o9⟩; refine ⟨?_, hS.keep o9⟩; rfl)); try simp only [Act.put, List.setIfInBounds_toArray, List.set_cons_zero, List.set_cons_succ]))
      refine sd_nil ?_
      intro w1 t1
      go_wp2_with fail
      go_ret2
      exact ⟨by rw [HR.out]; rfl, t1.ho⟩

    · have hd : (c 3 == 0) = false := by simpa using h3
      by_cases hl : c 3 < 2 * suRounds c + 4
      · have HR : Hid (suLong c = (0, false)) := suLong_short hl
        generalize suRounds c = rn at *
        rw [hr] at HC
        clear hr h3
        have e1 : IntKind.i64.wrap (2 * rn) = 2 * rn := IntWalk.i64_in _ (by omega)
        have e2 : IntKind.i64.wrap (2 * rn + 4) = 2 * rn + 4 := IntWalk.i64_in _ (by omega)
        have hd2 : decide (c 3 < 2 * rn + 4) = true := by simp [hl]
        go_enter Try.func20, Try.ntmps20
        go_wp2_with fail
        (refine wp_region_steady (fun w' => Cb w w.heap.size 23 c w') 17 (by kernel_rfl) (by kernel_rfl) (BX.out.keep (Only.refl none_ _).drew) ?_; simp only [List.take_succ_cons, List.take_zero, List.drop_succ_cons, List.drop_zero])
        repeat (first
          | (refine sd_value (v := ?_) (by rfl) (fun w0 hS => ?_) ?_; rotate_left; (· (have hc := Blk.cell_ (i := 3) (Cb.x hS) rfl; go_simp; try (with_reducible rfl))); try simp only [Act.put, List.setIfInBounds_toArray, List.set_cons_zero, List.set_cons_succ]) | (refine sd_load (by rfl) 23 _ rfl w.heap.size rfl _ #[.int .i64 (c 0), .int .i64 (c 1), .int .i64 (c 2), .int .i64 (c 3), .int .i64 (c 4), .int .i64 (c 5), .int .i64 (c 6), .int .i64 (c 7), .int .i64 (c 8), .int .i64 (c 9), .int .i64 (c 10), .int .i64 (c 11), .int .i64 (c 12), .int .i64 (c 13), .int .i64 (c 14), .int .i64 (c 15), .int .i64 (c 16), .int .i64 (c 17), .int .i64 (c 18), .int .i64 (c 19)] _ (fun w hS => Cb.x hS) Try.underlying23 rfl (by kernel_rfl) ?_; try simp only [Act.put, List.setIfInBounds_toArray, List.set_cons_zero, List.set_cons_succ])
          | (refine sd_skip (by rfl) ?_; try simp only [Act.put, List.setIfInBounds_toArray, List.set_cons_zero, List.set_cons_succ])
          | (refine sd_call (v := ?_) (f := 22) (args := ?_) (by rfl) (fun w0 hS => ?_) (fun w0 hS => ?_) ?_; rotate_left 2; (· (skip; go_simp; try (with_reducible rfl))); (· (refine (HC.out _).mono ?_; rintro E w9 ⟨rfl, o9⟩; refine ⟨?_, hS.keep o9⟩; rfl)); try simp only [Act.put, List.setIfInBounds_toArray, List.set_cons_zero, List.set_cons_succ])
          | (refine sd_call (v := ?_) (f := 35) (args := ?_) (by rfl) (fun w0 hS => ?_) (fun w0 hS => ?_) ?_; rotate_left 2; (· (skip; go_simp; try (with_reducible rfl))); (· (refine (HN.out _).mono ?_; rintro E w9 ⟨rfl, o9⟩; refine ⟨?_, hS.keep o9⟩; rfl)); try simp only [Act.put, List.setIfInBounds_toArray, List.set_cons_zero, List.set_cons_succ]))
        refine sd_nil ?_
        intro w1 t1
        go_wp2_with fail
        go_ret2
        exact ⟨by rw [HR.out]; rfl, t1.ho⟩

      · have HR : Hid (suLong c = (4 * suRounds c + 4, true)) := suLong_yes hr h3 hl
        generalize suRounds c = rn at *
        rw [hr] at HC
        clear hr h3
        have e1 : IntKind.i64.wrap (2 * rn) = 2 * rn := IntWalk.i64_in _ (by omega)
        have e2 : IntKind.i64.wrap (2 * rn + 4) = 2 * rn + 4 := IntWalk.i64_in _ (by omega)
        have hd2 : decide (c 3 < 2 * rn + 4) = false := by simp [hl]
        go_enter Try.func20, Try.ntmps20
        go_wp2_with fail
        (refine wp_region_steady (fun w' => Cb w w.heap.size 23 c w') 17 (by kernel_rfl) (by kernel_rfl) (BX.out.keep (Only.refl none_ _).drew) ?_; simp only [List.take_succ_cons, List.take_zero, List.drop_succ_cons, List.drop_zero])
        repeat (first
          | (refine sd_value (v := ?_) (by rfl) (fun w0 hS => ?_) ?_; rotate_left; (· (have hc := Blk.cell_ (i := 3) (Cb.x hS) rfl; go_simp; try (with_reducible rfl))); try simp only [Act.put, List.setIfInBounds_toArray, List.set_cons_zero, List.set_cons_succ]) | (refine sd_load (by rfl) 23 _ rfl w.heap.size rfl _ #[.int .i64 (c 0), .int .i64 (c 1), .int .i64 (c 2), .int .i64 (c 3), .int .i64 (c 4), .int .i64 (c 5), .int .i64 (c 6), .int .i64 (c 7), .int .i64 (c 8), .int .i64 (c 9), .int .i64 (c 10), .int .i64 (c 11), .int .i64 (c 12), .int .i64 (c 13), .int .i64 (c 14), .int .i64 (c 15), .int .i64 (c 16), .int .i64 (c 17), .int .i64 (c 18), .int .i64 (c 19)] _ (fun w hS => Cb.x hS) Try.underlying23 rfl (by kernel_rfl) ?_; try simp only [Act.put, List.setIfInBounds_toArray, List.set_cons_zero, List.set_cons_succ])
          | (refine sd_skip (by rfl) ?_; try simp only [Act.put, List.setIfInBounds_toArray, List.set_cons_zero, List.set_cons_succ])
          | (refine sd_call (v := ?_) (f := 22) (args := ?_) (by rfl) (fun w0 hS => ?_) (fun w0 hS => ?_) ?_; rotate_left 2; (· (skip; go_simp; try (with_reducible rfl))); (· (refine (HC.out _).mono ?_; rintro E w9 ⟨rfl, o9⟩; refine ⟨?_, hS.keep o9⟩; rfl)); try simp only [Act.put, List.setIfInBounds_toArray, List.set_cons_zero, List.set_cons_succ])
          | (refine sd_call (v := ?_) (f := 35) (args := ?_) (by rfl) (fun w0 hS => ?_) (fun w0 hS => ?_) ?_; rotate_left 2; (· (skip; go_simp; try (with_reducible rfl))); (· (refine (HN.out _).mono ?_; rintro E w9 ⟨rfl, o9⟩; refine ⟨?_, hS.keep o9⟩; rfl)); try simp only [Act.put, List.setIfInBounds_toArray, List.set_cons_zero, List.set_cons_succ]))
        refine sd_nil ?_
        intro w1 t1
        have T1 := Lib.hid t1
        go_wp2_with (first
          | (refine wpl_load rfl 23 _ rfl w.heap.size rfl _ #[.int .i64 (c 0), .int .i64 (c 1), .int .i64 (c 2), .int .i64 (c 3), .int .i64 (c 4), .int .i64 (c 5), .int .i64 (c 6), .int .i64 (c 7), .int .i64 (c 8), .int .i64 (c 9), .int .i64 (c 10), .int .i64 (c 11), .int .i64 (c 12), .int .i64 (c 13), .int .i64 (c 14), .int .i64 (c 15), .int .i64 (c 16), .int .i64 (c 17), .int .i64 (c 18), .int .i64 (c 19)] _ T1.out.x Try.underlying23 rfl (by kernel_rfl) ?_)
          | (go_at_call 35; refine (HN.out _).mono ?_; rintro E w2 ⟨rfl, o2⟩; have O2 := Lib.hid (T1.out.ho.trans o2); clear o2))
        go_ret2
        exact ⟨by rw [HR.out]; rfl, O2.out⟩


/-- The document's example. -/
def exC : Nat → Int := fun i => [2, 2, 1, 0, 0, 1, 1, 1, 0, 1, 1, 1, 1, 1, 1, 1, 0, 4, 1, 16].getD i 0
theorem ex_steps : suSteps exC = 20 := by decide
theorem ex_bound : suBound exC = (140, true) := by decide
abbrev exA : Array Value := #[.int .i64 2, .int .i64 2, .int .i64 1, .int .i64 0, .int .i64 0, .int .i64 1, .int .i64 1, .int .i64 1, .int .i64 0, .int .i64 1, .int .i64 1, .int .i64 1, .int .i64 1, .int .i64 1, .int .i64 1, .int .i64 1, .int .i64 0, .int .i64 4, .int .i64 1, .int .i64 16]
theorem su_example (w : World) : Calls Try.prog 30 #[] w fun E w' => E = .returned (.agg exA) ∧ Only none_ w w' := by
  have HB := Lib.hid (Blk.new w 26 #[.int .i64 0, .int .i64 0, .int .i64 0, .int .i64 0, .int .i64 0, .int .i64 0, .int .i64 0, .int .i64 0, .int .i64 0, .int .i64 0, .int .i64 0, .int .i64 0, .int .i64 0, .int .i64 0, .int .i64 0, .int .i64 0, .int .i64 0, .int .i64 0, .int .i64 0, .int .i64 0])
  have O := Lib.hid ((Only.refl none_ w).alloc (.cells #[.int .i64 0, .int .i64 0, .int .i64 0, .int .i64 0, .int .i64 0, .int .i64 0, .int .i64 0, .int .i64 0, .int .i64 0, .int .i64 0, .int .i64 0, .int .i64 0, .int .i64 0, .int .i64 0, .int .i64 0, .int .i64 0, .int .i64 0, .int .i64 0, .int .i64 0, .int .i64 0] 26))
  have hge : Hid (w.heap.size ≤ w.heap.size) := Nat.le_refl _
  go_enter Try.func30, Try.ntmps30
  go_wp2_with (first
    | (refine wpList_store_row rfl 26 _ _ rfl w.heap.size exA rfl rfl 26 _ HB.out (by kernel_rfl) rfl (by simp [Value.oneCell']) ?_))
  exact bodyPost_ret (results_cell_row rfl _ _ w.heap.size 26 _ (0, 0) _ rfl (HB.out.setRow _) Try.underlying26 rfl (by kernel_rfl)) rfl ⟨rfl, O.out.setRow (.inr hge.out) _⟩
theorem ex_b (w : World) : Calls Try.prog 17 #[.agg exA] w fun E w' => E = .returned (.tuple #[.int .i64 140, .bool true]) ∧ Only none_ w w' := by
  have := su_bound exC w
  rw [ex_bound] at this
  exact this
theorem ex_s (w : World) : Calls Try.prog 23 #[.agg exA] w fun E w' => E = .returned (.int .i64 20) ∧ Only none_ w w' := by
  have := su_steps exC w
  rw [ex_steps] at this
  exact this
theorem su_speaks (w : World) : Calls Try.prog 8 #[] w fun E w' => E = .returned (.bool true) ∧ Only none_ w w' := by
  have O0 := Lib.hid (Only.refl none_ w)
  go_enter Try.func8, Try.ntmps8
  go_wp2_with (first
    | (go_at_call 30; refine (su_example _).mono ?_; rintro E w1 ⟨rfl, o1⟩; have O1 := Lib.hid (O0.out.trans o1); clear o1 O0; have O0 := O1; clear O1)
    | (go_at_call 17; refine (ex_b _).mono ?_; rintro E w1 ⟨rfl, o1⟩; have O1 := Lib.hid (O0.out.trans o1); clear o1 O0; have O0 := O1; clear O1)
    | (go_at_call 23; refine (ex_s _).mono ?_; rintro E w1 ⟨rfl, o1⟩; have O1 := Lib.hid (O0.out.trans o1); clear o1 O0; have O0 := O1; clear O1))
  go_ret
  exact ⟨rfl, O0.out⟩
end Go.Proofs.Ythhfpjecgdedgaa
