/- What package entry's Check does. No statement of the seat is proved here. -/
import Derived.Test.YtkailngpmodfhaaEnB
namespace Go.Proofs.Ytkailngpmodfhaa
open Go.RowKit
set_option maxRecDepth 100000
set_option linter.unusedSimpArgs false

set_option maxHeartbeats 6400000 in
theorem en_check (e : En) (w : World) :
    Calls Try.prog 73 #[.agg #[.string e.k, .string e.v, .bool e.d, .int .i64 e.s.c, .int .i64 e.s.s, .int .i64 e.a.c, .int .i64 e.a.s, .int .i64 e.p, .int .i64 e.g]] w fun E w' => E = .returned (.int .i64 (enCheck e)) ∧ Only none_ w w' := by
  have O := Lib.hid ((Only.refl none_ w).alloc (.cells #[.string e.k, .string e.v, .bool e.d, .int .i64 e.s.c, .int .i64 e.s.s, .int .i64 e.a.c, .int .i64 e.a.s, .int .i64 e.p, .int .i64 e.g] 78))
  have B := Lib.hid (Blk.new w 78 #[.string e.k, .string e.v, .bool e.d, .int .i64 e.s.c, .int .i64 e.s.s, .int .i64 e.a.c, .int .i64 e.a.s, .int .i64 e.p, .int .i64 e.g])
  obtain ⟨gb, hg⟩ : ∃ b, (stGood e.s && stGood e.a) = b := ⟨_, rfl⟩
  obtain ⟨cb, hc⟩ : ∃ b, enCert e = b := ⟨_, rfl⟩
  obtain ⟨lb, hl⟩ : ∃ b, enLive e = b := ⟨_, rfl⟩
  obtain ⟨r, hr⟩ : ∃ b, stCmp e.a e.s = b := ⟨_, rfl⟩
  have hlt : stLater e.s e.a = decide (r < 0) := by
    have h1 := stCmp_pos e.s e.a
    rw [stCmp_neg, hr] at h1
    rw [Bool.eq_iff_iff, ← h1, decide_eq_true_eq]
    omega
  have HC : Hid (enCheck e = if e.k.toList = [] ∨ 16 < e.k.size then 9 else if 32 < e.v.size ∨ e.d = true ∧ ¬ e.v.toList = [] then 10 else if gb = false ∨ r < 0 then 1 else
      if (if e.d = true then cb else lb) = true then 0 else 1) := by
    rw [Hid, enCheck, enKeyBad, enValBad, enStBad, enRestBad, hg, hc, hl, hlt]
    have e0 : ∀ s : ByteArray, s.toList = [] ↔ s.size = 0 := fun s => by
      have := str_empty s
      rw [Bool.eq_iff_iff, decide_eq_true_eq, beq_iff_eq, show ByteArray.toList ⟨#[]⟩ = [] from by rw [ByteArray.toList_eq]] at this
      exact this
    have e1 : (e.k.size < 1) ↔ e.k.size = 0 := by omega
    have e2 : (0 < e.v.size) ↔ ¬ e.v.size = 0 := by omega
    simp only [Bool.or_eq_true, Bool.and_eq_true, decide_eq_true_eq, e0, e1, e2, Bool.not_eq_true', Bool.not_eq_true]
    cases (if e.d = true then cb else lb) <;> simp
  have HG := Lib.hid hg
  have HT := Lib.hid hc
  have HL := Lib.hid hl
  have HR : Hid (stCmp ⟨e.a.c, e.a.s⟩ ⟨e.s.c, e.s.s⟩ = r) := hr
  have hlb : Hid (gb = gb) := rfl
  clear hg hc hl hr hlt
  obtain ⟨k, v, d, s, a, p, g⟩ := e
  have e5 := fun w => en_stampsGood ⟨k, v, d, s, a, p, g⟩ w
  have e6 := fun w => en_isCert ⟨k, v, d, s, a, p, g⟩ w
  have e7 := fun w => en_isLive ⟨k, v, d, s, a, p, g⟩ w
  have E5 := Lib.hid e5
  have E6 := Lib.hid e6
  have E7 := Lib.hid e7
  clear e5 e6 e7
  simp only at *
  cases d
  all_goals
    go_enter Try.func73, Try.ntmps73
    go_wp2_with (first
      | (go_at_call 86; refine (E5.out _).mono ?_; rintro E w1 ⟨rfl, o1⟩; rw [HG.out]
         have O1 := Lib.hid (O.out.trans o1)
         have B1 := Lib.hid (B.out.only o1 (fun h => h))
         have c0 := B1.out.cell_ (i := 0) rfl
         have c1 := B1.out.cell_ (i := 1) rfl
         have c2 := B1.out.cell_ (i := 2) rfl
         have c3 := B1.out.cell_ (i := 3) rfl
         have c4 := B1.out.cell_ (i := 4) rfl
         have c5 := B1.out.cell_ (i := 5) rfl
         have c6 := B1.out.cell_ (i := 6) rfl
         have c7 := B1.out.cell_ (i := 7) rfl
         have c8 := B1.out.cell_ (i := 8) rfl
         clear o1)
      | (go_at_call 87; refine (st_compare _ _ _ _ _).mono ?_; rintro E w2 ⟨rfl, o2⟩; rw [HR.out]
         have O2 := Lib.hid (O1.out.trans o2)
         have B2 := Lib.hid (B1.out.only o2 (fun h => h))
         have d0 := B2.out.cell_ (i := 0) rfl
         have d1 := B2.out.cell_ (i := 1) rfl
         have d2 := B2.out.cell_ (i := 2) rfl
         have d3 := B2.out.cell_ (i := 3) rfl
         have d4 := B2.out.cell_ (i := 4) rfl
         have d5 := B2.out.cell_ (i := 5) rfl
         have d6 := B2.out.cell_ (i := 6) rfl
         have d7 := B2.out.cell_ (i := 7) rfl
         have d8 := B2.out.cell_ (i := 8) rfl
         clear o2)
      | (go_at_call 88; refine (E6.out _).mono ?_; rintro E w3 ⟨rfl, o3⟩; rw [HT.out]; have O3 := Lib.hid (O2.out.trans o3); have f2 := (B2.out.only o3 (fun h => h)).cell_ (i := 2) rfl; clear o3)
      | (go_at_call 89; refine (E7.out _).mono ?_; rintro E w3 ⟨rfl, o3⟩; rw [HL.out]; have O3 := Lib.hid (O2.out.trans o3); clear o3))
    all_goals
      go_ret
      refine ⟨congrArg (fun z => Ending.returned (.int .i64 z)) (Eq.symm ?_), ?_⟩
      · rw [HC.out]
        clear HC O B HG HT HL HR E5 E6 E7
        try clear c0 c1 c2 c3 c4 c5 c6 c7 c8 O1 B1
        try clear d0 d1 d2 d3 d4 d5 d6 d7 d8 O2 B2
        try clear O3
        try clear f2
        simp only [Bool.or_eq_true, Bool.and_eq_true, Bool.not_eq_true', Bool.not_eq_false', Bool.or_eq_false_iff, Bool.and_eq_false_iff, decide_eq_true_eq, decide_eq_false_iff_not, Bool.false_eq_true, if_true, if_false, beq_iff_eq, beq_eq_false_iff_ne, bne_iff_ne, ne_eq, Bool.not_eq_true, bne_eq_false_iff_eq, false_and, true_and, and_true, and_false, or_false, false_or, or_true, true_or, not_true_eq_false, not_false_eq_true, List.isEmpty_iff, List.isEmpty_eq_false_iff] at *
        (repeat' split) <;> first | rfl | omega | (exfalso; simp_all; done) | (exfalso; simp_all; omega)
      · first
          | exact O3.out
          | exact O2.out
          | exact O1.out
          | exact O.out
end Go.Proofs.Ytkailngpmodfhaa
