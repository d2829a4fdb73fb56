/- What package entry's small calls do: stamps, areStampsGood, isLive, isCertificate. No statement of the seat is proved here. -/
import Derived.Test.YtkailngpmodfhaaEnA
import Derived.Test.YtkailngpmodfhaaStA
import Derived.Test.YtkailngpmodfhaaStB
namespace Go.Proofs.Ytkailngpmodfhaa
open Go.RowKit
set_option maxRecDepth 100000

theorem en_stamps (e : En) (w : World) :
    Calls Try.prog 92 #[.agg #[.string e.k, .string e.v, .bool e.d, .int .i64 e.s.c, .int .i64 e.s.s, .int .i64 e.a.c, .int .i64 e.a.s, .int .i64 e.p, .int .i64 e.g]] w fun E w' => E = .returned (.agg #[.int .i64 e.s.c, .int .i64 e.s.s, .int .i64 e.a.c, .int .i64 e.a.s]) ∧ Only none_ w w' := by
  have O := Lib.hid (((Only.refl none_ w).alloc (.cells #[.string e.k, .string e.v, .bool e.d, .int .i64 e.s.c, .int .i64 e.s.s, .int .i64 e.a.c, .int .i64 e.a.s, .int .i64 e.p, .int .i64 e.g] 78)).alloc (.cells #[.int .i64 e.s.c, .int .i64 e.s.s, .int .i64 e.a.c, .int .i64 e.a.s] 157))
  go_enter Try.func92, Try.ntmps92
  go_wp2_with fail
  exact bodyPost_ret (v := .agg #[.int .i64 e.s.c, .int .i64 e.s.s, .int .i64 e.a.c, .int .i64 e.a.s]) (by simp [results, Try.results92, go_sem]) rfl ⟨rfl, O.out⟩

theorem en_isCert (e : En) (w : World) :
    Calls Try.prog 88 #[.agg #[.string e.k, .string e.v, .bool e.d, .int .i64 e.s.c, .int .i64 e.s.s, .int .i64 e.a.c, .int .i64 e.a.s, .int .i64 e.p, .int .i64 e.g]] w fun E w' => E = .returned (.bool (enCert e)) ∧ Only none_ w w' := by
  have O := Lib.hid ((Only.refl none_ w).alloc (.cells #[.string e.k, .string e.v, .bool e.d, .int .i64 e.s.c, .int .i64 e.s.s, .int .i64 e.a.c, .int .i64 e.a.s, .int .i64 e.p, .int .i64 e.g] 78))
  have H : Hid (enCert e = (decide (1 ≤ e.p) && decide (e.p ≤ 4095) && decide (0 ≤ e.g) && decide (e.g ≤ 2147483647))) := rfl
  by_cases h1 : 1 ≤ e.p
  · by_cases h2 : e.p ≤ 4095
    · by_cases h3 : 0 ≤ e.g
      · have H2 : Hid (enCert e = decide (e.g ≤ 2147483647)) := by rw [Hid, H.out]; simp [h1, h2, h3]
        go_enter Try.func88, Try.ntmps88
        go_wp2
        go_ret
        rw [H2.out]
        exact ⟨rfl, O.out⟩
      · have H2 : Hid (enCert e = false) := by rw [Hid, H.out]; simp [h1, h2, h3]
        go_enter Try.func88, Try.ntmps88
        go_wp2
        go_ret
        rw [H2.out]
        exact ⟨rfl, O.out⟩
    · have H2 : Hid (enCert e = false) := by rw [Hid, H.out]; simp [h1, h2]
      go_enter Try.func88, Try.ntmps88
      go_wp2
      go_ret
      rw [H2.out]
      exact ⟨rfl, O.out⟩
  · have H2 : Hid (enCert e = false) := by rw [Hid, H.out]; simp [h1]
    go_enter Try.func88, Try.ntmps88
    go_wp2
    go_ret
    rw [H2.out]
    exact ⟨rfl, O.out⟩

theorem en_isLive (e : En) (w : World) :
    Calls Try.prog 89 #[.agg #[.string e.k, .string e.v, .bool e.d, .int .i64 e.s.c, .int .i64 e.s.s, .int .i64 e.a.c, .int .i64 e.a.s, .int .i64 e.p, .int .i64 e.g]] w fun E w' => E = .returned (.bool (enLive e)) ∧ Only none_ w w' := by
  have O := Lib.hid ((Only.refl none_ w).alloc (.cells #[.string e.k, .string e.v, .bool e.d, .int .i64 e.s.c, .int .i64 e.s.s, .int .i64 e.a.c, .int .i64 e.a.s, .int .i64 e.p, .int .i64 e.g] 78))
  have heq := fun w => eql_of (eq_api_stamp w e.a e.s 9998)
  have H : Hid (enLive e = (stEq e.a e.s && e.p == 0 && e.g == 0)) := rfl
  generalize stEq e.a e.s = b1 at *
  cases b1
  · have H2 : Hid (enLive e = false) := by rw [Hid, H.out]; simp
    go_enter Try.func89, Try.ntmps89
    go_wp2
    go_ret
    rw [H2.out]
    exact ⟨rfl, O.out⟩
  · cases h : e.p == 0
    · have H2 : Hid (enLive e = false) := by rw [Hid, H.out]; simp [h]
      go_enter Try.func89, Try.ntmps89
      go_wp2
      go_ret
      rw [H2.out]
      exact ⟨rfl, O.out⟩
    · have H2 : Hid (enLive e = (e.g == 0)) := by rw [Hid, H.out]; simp [h]
      go_enter Try.func89, Try.ntmps89
      go_wp2
      go_ret
      rw [H2.out]
      exact ⟨rfl, O.out⟩

theorem run_index_two (cs : Array Value) (a b c d : Value) (hcs : cs = #[a, b, c, d]) (w : World) :
    (Instr.index 157 (.agg cs) (.int .i64 0)).run Try.prog w = .ok (.agg #[a, b]) w ∧ (Instr.index 157 (.agg cs) (.int .i64 1)).run Try.prog w = .ok (.agg #[c, d]) w := by
  obtain ⟨i0, hi0, hz0⟩ : ∃ i0, Try.prog.info? 76 = some i0 ∧ i0.size = 2 := by
    have : (Try.prog.info? 76).map (·.size) = some 2 := by kernel_rfl
    cases h : Try.prog.info? 76 with
    | none => rw [h] at this; cases this
    | some i0 => rw [h] at this; simp at this; exact ⟨i0, rfl, this⟩
  subst hcs
  constructor <;> simp [Instr.index, asIntOf, run_underlying Try.underlying157, sizeOf, typeInfo, hi0, hz0, part, isAgg, run_underlying Try.underlying76]

set_option maxHeartbeats 800000 in
theorem en_stampsGood (e : En) (w : World) :
    Calls Try.prog 86 #[.agg #[.string e.k, .string e.v, .bool e.d, .int .i64 e.s.c, .int .i64 e.s.s, .int .i64 e.a.c, .int .i64 e.a.s, .int .i64 e.p, .int .i64 e.g]] w fun E w' => E = .returned (.bool (stGood e.s && stGood e.a)) ∧ Only none_ w w' := by
  have O := Lib.hid ((Only.refl none_ w).alloc (.cells #[.string e.k, .string e.v, .bool e.d, .int .i64 e.s.c, .int .i64 e.s.s, .int .i64 e.a.c, .int .i64 e.a.s, .int .i64 e.p, .int .i64 e.g] 78))
  have ix0 := fun w => (run_index_two _ _ _ _ _ (show #[.int .i64 e.s.c, .int .i64 e.s.s, .int .i64 e.a.c, .int .i64 e.a.s] = _ from rfl) w).1
  have ix1 := fun w => (run_index_two _ _ _ _ _ (show #[.int .i64 e.s.c, .int .i64 e.s.s, .int .i64 e.a.c, .int .i64 e.a.s] = _ from rfl) w).2
  obtain ⟨b1, hb1⟩ : ∃ b, stGood ⟨e.s.c, e.s.s⟩ = b := ⟨_, rfl⟩
  obtain ⟨b2, hb2⟩ : ∃ b, stGood ⟨e.a.c, e.a.s⟩ = b := ⟨_, rfl⟩
  have H : Hid ((stGood e.s && stGood e.a) = (b1 && b2)) := by rw [← hb1, ← hb2]; rfl
  have H1 := Lib.hid hb1
  have H2 := Lib.hid hb2
  clear hb1 hb2
  have tok : True := trivial
  cases b1
  · go_enter Try.func86, Try.ntmps86
    go_wp2_with (first
      | (go_at_call 92; refine (en_stamps _ _).mono ?_; rintro e w1 ⟨rfl, o1⟩; have O1 := Lib.hid (O.out.trans o1); clear o1))
    refine wp_loop_rounds 1 ?_
    rw [rounds_succ]
    go_wp2_with (first
      | (go_at_call 100; refine (st_good _ _ _).mono ?_; rintro e w2 ⟨rfl, o2⟩; rw [H1.out]; have O2 := Lib.hid ((O1.out.alloc (.cells #[.int .i64 e.s.c, .int .i64 e.s.s] 76)).trans o2)))
    go_ret
    rw [H.out]
    exact ⟨rfl, O2.out⟩
  · cases b2
    all_goals
      go_enter Try.func86, Try.ntmps86
      go_wp2_with (first
        | (go_at_call 92; refine (en_stamps _ _).mono ?_; rintro e w1 ⟨rfl, o1⟩; have O1 := Lib.hid (O.out.trans o1); clear o1))
      refine wp_loop_rounds 3 ?_
      rw [rounds_succ]
      go_wp2_with (first
        | (go_at_call 100; refine (st_good _ _ _).mono ?_; rintro e w2 ⟨rfl, o2⟩; rw [H1.out]; have O2 := Lib.hid ((O1.out.alloc (.cells #[.int .i64 e.s.c, .int .i64 e.s.s] 76)).trans o2); clear o2))
      rw [rounds_succ]
      go_wp2_with (first
        | (go_at_call 100; refine (st_good _ _ _).mono ?_; rintro e w3 ⟨rfl, o3⟩; rw [H2.out]; have O3 := Lib.hid ((O2.out.alloc (.cells #[.int .i64 e.a.c, .int .i64 e.a.s] 76)).trans o3); clear o3))
      try rw [rounds_succ]
      try go_wp2_with fail
      go_ret
      rw [H.out]
      exact ⟨rfl, O3.out⟩
end Go.Proofs.Ytkailngpmodfhaa
