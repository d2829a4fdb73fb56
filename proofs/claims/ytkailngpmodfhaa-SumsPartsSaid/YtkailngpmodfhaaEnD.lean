/- What the document's Check gives for entries. No statement of the seat is proved here. -/
import Derived.Test.YtkailngpmodfhaaEnA
import Derived.Test.YtkailngpmodfhaaStE
namespace Go.Proofs.Ytkailngpmodfhaa
open Go.RowKit
set_option maxRecDepth 100000
set_option linter.unusedSimpArgs false

set_option maxHeartbeats 6400000 in
theorem rf_check (e : En) (w : World) :
    Calls Try.prog 34 #[.agg #[.string e.k, .string e.v, .bool e.d, .int .i64 e.s.c, .int .i64 e.s.s, .int .i64 e.a.c, .int .i64 e.a.s, .int .i64 e.p, .int .i64 e.g]] w fun E w' => E = .returned (.int .i64 (enCheck e)) ∧ Only none_ w w' := by
  have O := Lib.hid ((Only.refl none_ w).alloc (.cells #[.string e.k, .string e.v, .bool e.d, .int .i64 e.s.c, .int .i64 e.s.s, .int .i64 e.a.c, .int .i64 e.a.s, .int .i64 e.p, .int .i64 e.g] 73))
  have B := Lib.hid (Blk.new w 73 #[.string e.k, .string e.v, .bool e.d, .int .i64 e.s.c, .int .i64 e.s.s, .int .i64 e.a.c, .int .i64 e.a.s, .int .i64 e.p, .int .i64 e.g])
  have heq := fun w => neq_of (eq_ref_stamp w e.a e.s 9998)
  obtain ⟨g1, hg1⟩ : ∃ b, stGood ⟨e.s.c, e.s.s⟩ = b := ⟨_, rfl⟩
  obtain ⟨g2, hg2⟩ : ∃ b, stGood ⟨e.a.c, e.a.s⟩ = b := ⟨_, rfl⟩
  obtain ⟨lt, hlt⟩ : ∃ b, stLater ⟨e.s.c, e.s.s⟩ ⟨e.a.c, e.a.s⟩ = b := ⟨_, rfl⟩
  obtain ⟨q, hq⟩ : ∃ b, stEq e.a e.s = b := ⟨_, rfl⟩
  rw [hq] at heq
  have HC : Hid (enCheck e = if (decide (e.k.size < 1) || decide (16 < e.k.size)) = true then 9 else if (decide (32 < e.v.size) || (e.d && decide (0 < e.v.size))) = true then 10 else if (!(g1 && g2) || lt) = true then 1 else
      if (!(if e.d = true then decide (1 ≤ e.p) && decide (e.p ≤ 4095) && decide (0 ≤ e.g) && decide (e.g ≤ 2147483647) else q && e.p == 0 && e.g == 0)) = true then 1 else 0) := by
    rw [Hid, ← hg1, ← hg2, ← hlt, ← hq]; rfl
  have G1 := Lib.hid hg1
  have G2 := Lib.hid hg2
  have L := Lib.hid hlt
  clear hg1 hg2 hlt hq
  have tok : True := trivial
  obtain ⟨k, v, d, s, a, p, g⟩ := e
  simp only at *
  cases d
  all_goals
   go_enter Try.func34, Try.ntmps34
   go_wp2_with (first
     | (go_at_call 59; have _t := tok; refine (rf_good _ _ _).mono ?_; rintro E w1 ⟨rfl, o1⟩; rw [G1.out]
        have O1 := Lib.hid (O.out.trans o1)
        have B1 := Lib.hid (B.out.only o1 (fun h => h))
        have c2 := B1.out.cell_ (i := 2) rfl
        have c3 := B1.out.cell_ (i := 3) rfl
        have c4 := B1.out.cell_ (i := 4) rfl
        have c5 := B1.out.cell_ (i := 5) rfl
        have c6 := B1.out.cell_ (i := 6) rfl
        have c7 := B1.out.cell_ (i := 7) rfl
        have c8 := B1.out.cell_ (i := 8) rfl
        clear o1 tok)
     | (go_at_call 59; refine (rf_good _ _ _).mono ?_; rintro E w2 ⟨rfl, o2⟩; rw [G2.out]
        have O2 := Lib.hid (O1.out.trans o2)
        have B2 := Lib.hid (B1.out.only o2 (fun h => h))
        have d2 := B2.out.cell_ (i := 2) rfl
        have d3 := B2.out.cell_ (i := 3) rfl
        have d4 := B2.out.cell_ (i := 4) rfl
        have d5 := B2.out.cell_ (i := 5) rfl
        have d6 := B2.out.cell_ (i := 6) rfl
        have d7 := B2.out.cell_ (i := 7) rfl
        have d8 := B2.out.cell_ (i := 8) rfl
        clear o2)
     | (go_at_call 60; refine (rf_later _ _ _ _ _).mono ?_; rintro E w3 ⟨rfl, o3⟩; rw [L.out]
        have O3 := Lib.hid (O2.out.trans o3)
        have B3 := Lib.hid (B2.out.only o3 (fun h => h))
        have e2 := B3.out.cell_ (i := 2) rfl
        have e3 := B3.out.cell_ (i := 3) rfl
        have e4 := B3.out.cell_ (i := 4) rfl
        have e5 := B3.out.cell_ (i := 5) rfl
        have e6 := B3.out.cell_ (i := 6) rfl
        have e7 := B3.out.cell_ (i := 7) rfl
        have e8 := B3.out.cell_ (i := 8) rfl
        clear o3))
   all_goals
     go_ret
     refine ⟨congrArg (fun z => Ending.returned (.int .i64 z)) (Eq.symm ?_), ?_⟩
     · rw [HC.out]
       clear HC heq O B G1 G2 L
       try clear c2 c3 c4 c5 c6 c7 c8 O1 B1
       try clear d2 d3 d4 d5 d6 d7 d8 O2 B2
       try clear e2 e3 e4 e5 e6 e7 e8 O3 B3
       simp only [Bool.or_eq_true, Bool.and_eq_true, Bool.not_eq_true', Bool.or_eq_false_iff, Bool.and_eq_false_iff, decide_eq_true_eq, decide_eq_false_iff_not, Bool.false_eq_true, if_true, if_false, beq_iff_eq, beq_eq_false_iff_ne, bne_iff_ne, ne_eq, Bool.not_eq_true, bne_eq_false_iff_eq, false_and, true_and, and_true, and_false, or_false, false_or, or_true, true_or, not_true_eq_false, not_false_eq_true] at *
       (repeat' split) <;> first | rfl | omega | (exfalso; simp_all; done) | (exfalso; simp_all; omega)
     · first
         | exact O3.out
         | exact O2.out
         | exact O1.out
         | exact O.out
end Go.Proofs.Ytkailngpmodfhaa
