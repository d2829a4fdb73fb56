/- Texts of mine, one behind the other: StB, EnB, EnC, Res, EnX, OctG, EnZ, WiM. No statement of the seat is proved here. -/
import Derived.Test.YtlieolehpmobfaaGreatDoorWt1
import Derived.Test.YtlieolehpmobfaaGreatDoorChecked
import Derived.Deep.QuietTactic
import Derived.BigQuiet
import Derived.Test.YtlieolehpmobfaaGreatDoorWt3
import Derived.Test.YtlieolehpmobfaaGreatDoorWt2
import Derived.Deep.RegionHeld3
section
namespace Go.Proofs.YtlieolehpmobfaaGreatDoor
open Go.RowKit
set_option maxRecDepth 100000
theorem isNaN_int (n : Int) (w : World) :
    Calls Tryz.prog 291 #[.int .i64 n] w fun e w' => e = .returned (.bool false) ∧ w = w' := by
  have h : (n != n) = false := by simp
  go_enter Tryz.func291, Tryz.ntmps291
  go_wp2
  go_ret
  exact ⟨rfl, rfl⟩
theorem cmp_int (a b : Int) (w : World) :
    Calls Tryz.prog 297 #[.int .i64 a, .int .i64 b] w fun e w' => e = .returned (.int .i64 (cmpI a b)) ∧ w = w' := by
  by_cases h1 : a < b
  · have H : Hid (cmpI a b = -1) := by simp [Hid, cmpI, h1]
    go_enter Tryz.func297, Tryz.ntmps297
    go_wp2_with (go_at_call 291; refine (isNaN_int _ _).mono ?_; rintro e w' ⟨rfl, rfl⟩)
    go_ret
    rw [H.out]
    exact ⟨rfl, rfl⟩
  · by_cases h2 : b < a
    · have H : Hid (cmpI a b = 1) := by simp [Hid, cmpI, h1, h2]
      go_enter Tryz.func297, Tryz.ntmps297
      go_wp2_with (go_at_call 291; refine (isNaN_int _ _).mono ?_; rintro e w' ⟨rfl, rfl⟩)
      go_ret
      rw [H.out]
      exact ⟨rfl, rfl⟩
    · have H : Hid (cmpI a b = 0) := by simp [Hid, cmpI, h1, h2]
      go_enter Tryz.func297, Tryz.ntmps297
      go_wp2_with (go_at_call 291; refine (isNaN_int _ _).mono ?_; rintro e w' ⟨rfl, rfl⟩)
      go_ret
      rw [H.out]
      exact ⟨rfl, rfl⟩
theorem st_compare (c s c' s' : Int) (w : World) :
    Calls Tryz.prog 281 #[.agg #[.int .i64 c, .int .i64 s], .agg #[.int .i64 c', .int .i64 s']] w fun e w' => e = .returned (.int .i64 (stCmp ⟨c, s⟩ ⟨c', s'⟩)) ∧ Only none_ w w' := by
  have O := Lib.hid (((Only.refl none_ w).alloc (.cells #[.int .i64 c, .int .i64 s] 39)).alloc (.cells #[.int .i64 c', .int .i64 s'] 39))
  obtain ⟨r, hr⟩ : ∃ r, cmpI c c' = r := ⟨_, rfl⟩
  have HR := Lib.hid hr
  by_cases h : c = c'
  · have hz : (r != 0) = false := by subst h hr; simp [cmpI]
    have H : Hid (stCmp ⟨c, s⟩ ⟨c', s'⟩ = cmpI s s') := by simp [Hid, stCmp, h]
    clear h hr
    go_enter Tryz.func281, Tryz.ntmps281
    go_wp2_with (first
      | (go_at_call 297; refine (cmp_int _ _ _).mono ?_; rintro e w' ⟨rfl, rfl⟩; first | rw [HR.out] | skip))
    go_ret
    rw [H.out]
    exact ⟨rfl, O.out⟩
  · have hz : (r != 0) = true := by
      have := mt (cmpI_zero c c').1 h
      rw [hr] at this
      simpa using this
    have H : Hid (stCmp ⟨c, s⟩ ⟨c', s'⟩ = r) := by simp [Hid, stCmp, h, hr]
    clear h hr
    go_enter Tryz.func281, Tryz.ntmps281
    go_wp2_with (first
      | (go_at_call 297; refine (cmp_int c c' _).mono ?_; rintro e w' ⟨rfl, rfl⟩; rw [HR.out]))
    go_ret
    rw [H.out]
    exact ⟨rfl, O.out⟩
end Go.Proofs.YtlieolehpmobfaaGreatDoor
end
section
namespace Go.Proofs.YtlieolehpmobfaaGreatDoor
open Go.RowKit
set_option linter.all false
set_option maxRecDepth 100000
theorem en_stamps (e : En) (w : World) :
    Calls Tryz.prog 236 #[.agg #[.string e.k, .string e.v, .bool e.d, .int .i64 e.s.c, .int .i64 e.s.s, .int .i64 e.a.c, .int .i64 e.a.s, .int .i64 e.p, .int .i64 e.g]] w fun E w' => E = .returned (.agg #[.int .i64 e.s.c, .int .i64 e.s.s, .int .i64 e.a.c, .int .i64 e.a.s]) ∧ Only none_ w w' := by
  have O := Lib.hid (((Only.refl none_ w).alloc (.cells #[.string e.k, .string e.v, .bool e.d, .int .i64 e.s.c, .int .i64 e.s.s, .int .i64 e.a.c, .int .i64 e.a.s, .int .i64 e.p, .int .i64 e.g] 147)).alloc (.cells #[.int .i64 e.s.c, .int .i64 e.s.s, .int .i64 e.a.c, .int .i64 e.a.s] 276))
  go_enter Tryz.func236, Tryz.ntmps236
  go_wp2_with fail
  exact bodyPost_ret (v := .agg #[.int .i64 e.s.c, .int .i64 e.s.s, .int .i64 e.a.c, .int .i64 e.a.s]) (by simp [results, Tryz.results236, go_sem]) rfl ⟨rfl, O.out⟩
theorem en_isCert (e : En) (w : World) :
    Calls Tryz.prog 282 #[.agg #[.string e.k, .string e.v, .bool e.d, .int .i64 e.s.c, .int .i64 e.s.s, .int .i64 e.a.c, .int .i64 e.a.s, .int .i64 e.p, .int .i64 e.g]] w fun E w' => E = .returned (.bool (enCert e)) ∧ Only none_ w w' := by
  have O := Lib.hid ((Only.refl none_ w).alloc (.cells #[.string e.k, .string e.v, .bool e.d, .int .i64 e.s.c, .int .i64 e.s.s, .int .i64 e.a.c, .int .i64 e.a.s, .int .i64 e.p, .int .i64 e.g] 147))
  have H : Hid (enCert e = (decide (1 ≤ e.p) && decide (e.p ≤ 4095) && decide (0 ≤ e.g) && decide (e.g ≤ 2147483647))) := rfl
  by_cases h1 : 1 ≤ e.p
  · by_cases h2 : e.p ≤ 4095
    · by_cases h3 : 0 ≤ e.g
      · have H2 : Hid (enCert e = decide (e.g ≤ 2147483647)) := by rw [Hid, H.out]; simp [h1, h2, h3]
        go_enter Tryz.func282, Tryz.ntmps282
        go_wp2
        go_ret
        rw [H2.out]
        exact ⟨rfl, O.out⟩
      · have H2 : Hid (enCert e = false) := by rw [Hid, H.out]; simp [h1, h2, h3]
        go_enter Tryz.func282, Tryz.ntmps282
        go_wp2
        go_ret
        rw [H2.out]
        exact ⟨rfl, O.out⟩
    · have H2 : Hid (enCert e = false) := by rw [Hid, H.out]; simp [h1, h2]
      go_enter Tryz.func282, Tryz.ntmps282
      go_wp2
      go_ret
      rw [H2.out]
      exact ⟨rfl, O.out⟩
  · have H2 : Hid (enCert e = false) := by rw [Hid, H.out]; simp [h1]
    go_enter Tryz.func282, Tryz.ntmps282
    go_wp2
    go_ret
    rw [H2.out]
    exact ⟨rfl, O.out⟩
theorem en_isLive (e : En) (w : World) :
    Calls Tryz.prog 283 #[.agg #[.string e.k, .string e.v, .bool e.d, .int .i64 e.s.c, .int .i64 e.s.s, .int .i64 e.a.c, .int .i64 e.a.s, .int .i64 e.p, .int .i64 e.g]] w fun E w' => E = .returned (.bool (enLive e)) ∧ Only none_ w w' := by
  have O := Lib.hid ((Only.refl none_ w).alloc (.cells #[.string e.k, .string e.v, .bool e.d, .int .i64 e.s.c, .int .i64 e.s.s, .int .i64 e.a.c, .int .i64 e.a.s, .int .i64 e.p, .int .i64 e.g] 147))
  have heq := fun w => eql_of (eq_api_stamp w e.a e.s 9998)
  have H : Hid (enLive e = (stEq e.a e.s && e.p == 0 && e.g == 0)) := rfl
  generalize stEq e.a e.s = b1 at *
  cases b1
  · have H2 : Hid (enLive e = false) := by rw [Hid, H.out]; simp
    go_enter Tryz.func283, Tryz.ntmps283
    go_wp2
    go_ret
    rw [H2.out]
    exact ⟨rfl, O.out⟩
  · cases h : e.p == 0
    · have H2 : Hid (enLive e = false) := by rw [Hid, H.out]; simp [h]
      go_enter Tryz.func283, Tryz.ntmps283
      go_wp2
      go_ret
      rw [H2.out]
      exact ⟨rfl, O.out⟩
    · have H2 : Hid (enLive e = (e.g == 0)) := by rw [Hid, H.out]; simp [h]
      go_enter Tryz.func283, Tryz.ntmps283
      go_wp2
      go_ret
      rw [H2.out]
      exact ⟨rfl, O.out⟩
theorem run_index_two (cs : Array Value) (a b c d : Value) (hcs : cs = #[a, b, c, d]) (w : World) :
    (Instr.index 276 (.agg cs) (.int .i64 0)).run Tryz.prog w = .ok (.agg #[a, b]) w ∧ (Instr.index 276 (.agg cs) (.int .i64 1)).run Tryz.prog w = .ok (.agg #[c, d]) w := by
  obtain ⟨i0, hi0, hz0⟩ : ∃ i0, Tryz.prog.info? 39 = some i0 ∧ i0.size = 2 := by
    have : (Tryz.prog.info? 39).map (·.size) = some 2 := by kernel_rfl
    cases h : Tryz.prog.info? 39 with
    | none => rw [h] at this; cases this
    | some i0 => rw [h] at this; simp at this; exact ⟨i0, rfl, this⟩
  subst hcs
  constructor <;> simp [Instr.index, asIntOf, run_underlying Tryz.underlying276, sizeOf, typeInfo, hi0, hz0, part, isAgg, run_underlying Tryz.underlying39]
set_option maxHeartbeats 800000 in
theorem en_stampsGood (e : En) (w : World) :
    Calls Tryz.prog 280 #[.agg #[.string e.k, .string e.v, .bool e.d, .int .i64 e.s.c, .int .i64 e.s.s, .int .i64 e.a.c, .int .i64 e.a.s, .int .i64 e.p, .int .i64 e.g]] w fun E w' => E = .returned (.bool (stGood e.s && stGood e.a)) ∧ Only none_ w w' := by
  have O := Lib.hid ((Only.refl none_ w).alloc (.cells #[.string e.k, .string e.v, .bool e.d, .int .i64 e.s.c, .int .i64 e.s.s, .int .i64 e.a.c, .int .i64 e.a.s, .int .i64 e.p, .int .i64 e.g] 147))
  have ix0 := fun w => (run_index_two _ _ _ _ _ (show #[.int .i64 e.s.c, .int .i64 e.s.s, .int .i64 e.a.c, .int .i64 e.a.s] = _ from rfl) w).1
  have ix1 := fun w => (run_index_two _ _ _ _ _ (show #[.int .i64 e.s.c, .int .i64 e.s.s, .int .i64 e.a.c, .int .i64 e.a.s] = _ from rfl) w).2
  obtain ⟨b1, hb1⟩ : ∃ b, stGood ⟨e.s.c, e.s.s⟩ = b := ⟨_, rfl⟩
  obtain ⟨b2, hb2⟩ : ∃ b, stGood ⟨e.a.c, e.a.s⟩ = b := ⟨_, rfl⟩
  have H : Hid ((stGood e.s && stGood e.a) = (b1 && b2)) := by rw [← hb1, ← hb2]; rfl
  have H1 := Lib.hid hb1
  have H2 := Lib.hid hb2
  clear hb1 hb2
  have tok : True := trivial
  cases b1
  · go_enter Tryz.func280, Tryz.ntmps280
    go_wp2_with (first
      | (go_at_call 236; refine (en_stamps _ _).mono ?_; rintro e w1 ⟨rfl, o1⟩; have O1 := Lib.hid (O.out.trans o1); clear o1))
    refine wp_loop_rounds 1 ?_
    rw [rounds_succ]
    go_wp2_with (first
      | (go_at_call 239; refine (st_good _ _ _).mono ?_; rintro e w2 ⟨rfl, o2⟩; rw [H1.out]; have O2 := Lib.hid ((O1.out.alloc (.cells #[.int .i64 e.s.c, .int .i64 e.s.s] 39)).trans o2)))
    go_ret
    rw [H.out]
    exact ⟨rfl, O2.out⟩
  · cases b2
    all_goals
      go_enter Tryz.func280, Tryz.ntmps280
      go_wp2_with (first
        | (go_at_call 236; refine (en_stamps _ _).mono ?_; rintro e w1 ⟨rfl, o1⟩; have O1 := Lib.hid (O.out.trans o1); clear o1))
      refine wp_loop_rounds 3 ?_
      rw [rounds_succ]
      go_wp2_with (first
        | (go_at_call 239; refine (st_good _ _ _).mono ?_; rintro e w2 ⟨rfl, o2⟩; rw [H1.out]; have O2 := Lib.hid ((O1.out.alloc (.cells #[.int .i64 e.s.c, .int .i64 e.s.s] 39)).trans o2); clear o2))
      rw [rounds_succ]
      go_wp2_with (first
        | (go_at_call 239; refine (st_good _ _ _).mono ?_; rintro e w3 ⟨rfl, o3⟩; rw [H2.out]; have O3 := Lib.hid ((O2.out.alloc (.cells #[.int .i64 e.a.c, .int .i64 e.a.s] 39)).trans o3); clear o3))
      try rw [rounds_succ]
      try go_wp2_with fail
      go_ret
      rw [H.out]
      exact ⟨rfl, O3.out⟩
end Go.Proofs.YtlieolehpmobfaaGreatDoor
end
section
namespace Go.Proofs.YtlieolehpmobfaaGreatDoor
open Go.RowKit
set_option linter.all false
set_option maxRecDepth 100000
set_option linter.unusedSimpArgs false
set_option maxHeartbeats 6400000 in
theorem en_check (e : En) (w : World) :
    Calls Tryz.prog 238 #[.agg #[.string e.k, .string e.v, .bool e.d, .int .i64 e.s.c, .int .i64 e.s.s, .int .i64 e.a.c, .int .i64 e.a.s, .int .i64 e.p, .int .i64 e.g]] w fun E w' => E = .returned (.int .i64 (enCheck e)) ∧ Only none_ w w' := by
  have O := Lib.hid ((Only.refl none_ w).alloc (.cells #[.string e.k, .string e.v, .bool e.d, .int .i64 e.s.c, .int .i64 e.s.s, .int .i64 e.a.c, .int .i64 e.a.s, .int .i64 e.p, .int .i64 e.g] 147))
  have B := Lib.hid (Blk.new w 147 #[.string e.k, .string e.v, .bool e.d, .int .i64 e.s.c, .int .i64 e.s.s, .int .i64 e.a.c, .int .i64 e.a.s, .int .i64 e.p, .int .i64 e.g])
  obtain ⟨gb, hg⟩ : ∃ b, (stGood e.s && stGood e.a) = b := ⟨_, rfl⟩
  obtain ⟨cb, hc⟩ : ∃ b, enCert e = b := ⟨_, rfl⟩
  obtain ⟨lb, hl⟩ : ∃ b, enLive e = b := ⟨_, rfl⟩
  obtain ⟨r, hr⟩ : ∃ b, stCmp e.a e.s = b := ⟨_, rfl⟩
  have hlt : stLater e.s e.a = decide (r < 0) := by
    have h1 := stCmp_pos e.s e.a
    rw [stCmp_neg, hr] at h1
    rw [Bool.eq_iff_iff, ← h1, decide_eq_true_eq]
    omega
  have HC : Hid (enCheck e = if e.k.toList = [] ∨ 16 < e.k.size then 9 else if 32 < e.v.size ∨ e.d = true ∧ ¬ e.v.toList = [] then 10 else if gb = false ∨ r < 0 then 1 else
      if (if e.d = true then cb else lb) = true then 0 else 1) := by
    rw [Hid, enCheck, enKeyBad, enValBad, enStBad, enRestBad, hg, hc, hl, hlt]
    have e0 : ∀ s : ByteArray, s.toList = [] ↔ s.size = 0 := fun s => by
      have := str_empty s
      rw [Bool.eq_iff_iff, decide_eq_true_eq, beq_iff_eq, show ByteArray.toList ⟨#[]⟩ = [] from by rw [ByteArray.toList_eq]] at this
      exact this
    have e1 : (e.k.size < 1) ↔ e.k.size = 0 := by omega
    have e2 : (0 < e.v.size) ↔ ¬ e.v.size = 0 := by omega
    simp only [Bool.or_eq_true, Bool.and_eq_true, decide_eq_true_eq, e0, e1, e2, Bool.not_eq_true', Bool.not_eq_true]
    cases (if e.d = true then cb else lb) <;> simp
  have HG := Lib.hid hg
  have HT := Lib.hid hc
  have HL := Lib.hid hl
  have HR : Hid (stCmp ⟨e.a.c, e.a.s⟩ ⟨e.s.c, e.s.s⟩ = r) := hr
  have hlb : Hid (gb = gb) := rfl
  clear hg hc hl hr hlt
  obtain ⟨k, v, d, s, a, p, g⟩ := e
  have e5 := fun w => en_stampsGood ⟨k, v, d, s, a, p, g⟩ w
  have e6 := fun w => en_isCert ⟨k, v, d, s, a, p, g⟩ w
  have e7 := fun w => en_isLive ⟨k, v, d, s, a, p, g⟩ w
  have E5 := Lib.hid e5
  have E6 := Lib.hid e6
  have E7 := Lib.hid e7
  clear e5 e6 e7
  simp only at *
  cases d
  all_goals
    go_enter Tryz.func238, Tryz.ntmps238
    go_wp2_with (first
      | (go_at_call 280; refine (E5.out _).mono ?_; rintro E w1 ⟨rfl, o1⟩; rw [HG.out]
         have O1 := Lib.hid (O.out.trans o1)
         have B1 := Lib.hid (B.out.only o1 (fun h => h))
         have c0 := B1.out.cell_ (i := 0) rfl
         have c1 := B1.out.cell_ (i := 1) rfl
         have c2 := B1.out.cell_ (i := 2) rfl
         have c3 := B1.out.cell_ (i := 3) rfl
         have c4 := B1.out.cell_ (i := 4) rfl
         have c5 := B1.out.cell_ (i := 5) rfl
         have c6 := B1.out.cell_ (i := 6) rfl
         have c7 := B1.out.cell_ (i := 7) rfl
         have c8 := B1.out.cell_ (i := 8) rfl
         clear o1)
      | (go_at_call 281; refine (st_compare _ _ _ _ _).mono ?_; rintro E w2 ⟨rfl, o2⟩; rw [HR.out]
         have O2 := Lib.hid (O1.out.trans o2)
         have B2 := Lib.hid (B1.out.only o2 (fun h => h))
         have d0 := B2.out.cell_ (i := 0) rfl
         have d1 := B2.out.cell_ (i := 1) rfl
         have d2 := B2.out.cell_ (i := 2) rfl
         have d3 := B2.out.cell_ (i := 3) rfl
         have d4 := B2.out.cell_ (i := 4) rfl
         have d5 := B2.out.cell_ (i := 5) rfl
         have d6 := B2.out.cell_ (i := 6) rfl
         have d7 := B2.out.cell_ (i := 7) rfl
         have d8 := B2.out.cell_ (i := 8) rfl
         clear o2)
      | (go_at_call 282; refine (E6.out _).mono ?_; rintro E w3 ⟨rfl, o3⟩; rw [HT.out]; have O3 := Lib.hid (O2.out.trans o3); have f2 := (B2.out.only o3 (fun h => h)).cell_ (i := 2) rfl; clear o3)
      | (go_at_call 283; refine (E7.out _).mono ?_; rintro E w3 ⟨rfl, o3⟩; rw [HL.out]; have O3 := Lib.hid (O2.out.trans o3); clear o3))
    all_goals
      go_ret
      refine ⟨congrArg (fun z => Ending.returned (.int .i64 z)) (Eq.symm ?_), ?_⟩
      · rw [HC.out]
        clear HC O B HG HT HL HR E5 E6 E7
        try clear c0 c1 c2 c3 c4 c5 c6 c7 c8 O1 B1
        try clear d0 d1 d2 d3 d4 d5 d6 d7 d8 O2 B2
        try clear O3
        try clear f2
        simp only [Bool.or_eq_true, Bool.and_eq_true, Bool.not_eq_true', Bool.not_eq_false', Bool.or_eq_false_iff, Bool.and_eq_false_iff, decide_eq_true_eq, decide_eq_false_iff_not, Bool.false_eq_true, if_true, if_false, beq_iff_eq, beq_eq_false_iff_ne, bne_iff_ne, ne_eq, Bool.not_eq_true, bne_eq_false_iff_eq, false_and, true_and, and_true, and_false, or_false, false_or, or_true, true_or, not_true_eq_false, not_false_eq_true, List.isEmpty_iff, List.isEmpty_eq_false_iff] at *
        (repeat' split) <;> first | rfl | omega | (exfalso; simp_all; done) | (exfalso; simp_all; omega)
      · first
          | exact O3.out
          | exact O2.out
          | exact O1.out
          | exact O.out
end Go.Proofs.YtlieolehpmobfaaGreatDoor
end
section
namespace Go.Proofs.YtlieolehpmobfaaGreatDoor
open Go.RowKit
set_option maxRecDepth 100000
theorem results_cell_tmp {P : Program} {fn : Func} {p q : Tmp} {ty : TypeId} (h : fn.results = #[.cell p ty, .tmp q]) (tmps : Array Value) (w : World) (g : Nat) (t : TypeId) (cs : Array Value) (d : TypeDesc)
    (hp : tmps.getD p undef = .pointer (some ⟨g, 0, none⟩)) (hg : Blk w g t cs)
    (hu : P.underlying ty = some d) (hd : (match d with | .struct _ | .array _ _ => true | _ => false) = true) (hi : (P.info? ty).map (·.size) = some cs.size) (v : Value) (hq : tmps.getD q undef = v) :
    (results fn tmps).run P w = .ok (.tuple #[.agg cs, v]) w := by
  have hp' : tmps[p]?.getD undef = .pointer (some ⟨g, 0, none⟩) := by simpa using hp
  have hq' : tmps[q]?.getD undef = v := by simpa using hq
  simp [results, h, hp', hq', asAddr, run_loadVar_row w g t ty cs (0, 0) d hg hu hd hi]
end Go.Proofs.YtlieolehpmobfaaGreatDoor
end
section
namespace Go.Proofs.YtlieolehpmobfaaGreatDoor
open Go.RowKit
set_option linter.all false
set_option maxRecDepth 100000
def takeC (code : Int) (bs : List UInt8) : Int := if enCheck (fieldsF code bs).en = 0 then (fieldsF code bs).a7.1 else first_ (fieldsF code bs).a7.1 4
def takeB (code : Int) (bs : List UInt8) : List UInt8 := (fieldsF code bs).a7.2.1
def takeE (code : Int) (bs : List UInt8) : En := if takeC code bs = 0 then (fieldsF code bs).en else enZero
theorem first_four (c : Int) : first_ c 4 ≠ 0 := by unfold first_; split <;> simp_all
set_option maxHeartbeats 1600000 in
theorem take_any (g : Nat) (S : Nat → Prop) (code : Int) (bs : List UInt8) (w : World) (hr : Rd w g S code bs) (fr : ∀ b, S b → b < w.heap.size) (hm : bs.length ≤ 140737488355328) :
    Calls Tryz.prog 146 #[.pointer (some ⟨g, 0, none⟩)] w fun e w' =>
      e = .returned (.agg #[.string (takeE code bs).k, .string (takeE code bs).v, .bool (takeE code bs).d, .int .i64 (takeE code bs).s.c, .int .i64 (takeE code bs).s.s, .int .i64 (takeE code bs).a.c, .int .i64 (takeE code bs).a.s, .int .i64 (takeE code bs).p, .int .i64 (takeE code bs).g]) ∧ Rd w' g S (takeC code bs) (takeB code bs) ∧ Only (one g) w w' := by
  have hg := hr.lt
  have R0 := Lib.hid (Blk.new w 147 #[.string ⟨#[]⟩, .string ⟨#[]⟩, .bool false, .int .i64 0, .int .i64 0, .int .i64 0, .int .i64 0, .int .i64 0, .int .i64 0])
  have o0 := (Only.refl none_ w).alloc (.cells #[.string ⟨#[]⟩, .string ⟨#[]⟩, .bool false, .int .i64 0, .int .i64 0, .int .i64 0, .int .i64 0, .int .i64 0, .int .i64 0] 147)
  have C := take_fields g S code bs (w.alloc (.cells #[.string ⟨#[]⟩, .string ⟨#[]⟩, .bool false, .int .i64 0, .int .i64 0, .int .i64 0, .int .i64 0, .int .i64 0, .int .i64 0] 147)) (hr.only o0 (fun h => h) (fun _ _ h => h)) (fun b hb => Nat.lt_of_lt_of_le (fr b hb) o0.size) hm
  have HD : Hid (takeC code bs = (if enCheck (fieldsF code bs).en = 0 then (fieldsF code bs).a7.1 else first_ (fieldsF code bs).a7.1 4) ∧ takeB code bs = (fieldsF code bs).a7.2.1 ∧ takeE code bs = (if takeC code bs = 0 then (fieldsF code bs).en else enZero)) := ⟨rfl, rfl, rfl⟩
  obtain ⟨f, hf⟩ : ∃ f, fieldsF code bs = f := ⟨_, rfl⟩
  rw [hf] at C HD
  obtain ⟨E, hE⟩ : ∃ E, f.en = E := ⟨_, rfl⟩
  obtain ⟨c7, h7⟩ : ∃ c, f.a7.1 = c := ⟨_, rfl⟩
  obtain ⟨b7, hb7⟩ : ∃ c, f.a7.2.1 = c := ⟨_, rfl⟩
  rw [hE, h7, hb7] at C HD
  obtain ⟨z, hz⟩ : ∃ z, enCheck E = z := ⟨_, rfl⟩
  rw [hz] at HD
  have HZ := Lib.hid hz
  have HG := Lib.hid hg
  have HC := Lib.hid C
  have FR := Lib.hid fr
  have O0 := Lib.hid (o0.of_none (S := one g))
  have ne0 : Hid (∀ k, k = w.heap.size → ¬ one g k) := fun k e e' => by have e'' : k = g := e'; omega
  clear hr fr hm hf hE h7 hb7 hz C hg o0
  by_cases hz0 : z = 0
  · subst hz0
    obtain ⟨hc1, hc2, hc3⟩ := HD.out
    rw [if_pos rfl] at hc1
    rw [hc1] at hc3
    by_cases h0 : c7 = 0
    · subst h0
      rw [if_pos rfl] at hc3
      have HE : Hid (takeC code bs = 0 ∧ takeB code bs = b7 ∧ takeE code bs = E) := ⟨hc1, hc2, hc3⟩
      clear hc1 hc2 hc3 HD
      go_enter Tryz.func146, Tryz.ntmps146
      go_wp2_with (first
        | (go_at_call 237; refine HC.out.mono ?_; rintro e w1 ⟨rfl, r1, o1⟩
           have R1 := Lib.hid (R0.out.only o1 (ne0.out _ rfl))
           have O1 := Lib.hid (O0.out.trans o1)
           have D1 := Lib.hid (r1.only ((Only.refl none_ w1).alloc (.cells #[.string E.k, .string E.v, .bool E.d, .int .i64 E.s.c, .int .i64 E.s.s, .int .i64 E.a.c, .int .i64 E.a.s, .int .i64 E.p, .int .i64 E.g] 147)) (fun h => h) (fun _ _ h => h))
           have B1 := Lib.hid (Blk.new w1 147 #[.string E.k, .string E.v, .bool E.d, .int .i64 E.s.c, .int .i64 E.s.s, .int .i64 E.a.c, .int .i64 E.a.s, .int .i64 E.p, .int .i64 E.g])
           have G1 : Hid (w1.heap.size ≠ g) := by have := HG.out; have := o1.size; rw [World.size_alloc] at this; simp only [Hid]; omega
           clear r1 o1)
        | (refine wpl_load rfl 147 _ rfl w1.heap.size rfl 147 #[.string E.k, .string E.v, .bool E.d, .int .i64 E.s.c, .int .i64 E.s.s, .int .i64 E.a.c, .int .i64 E.a.s, .int .i64 E.p, .int .i64 E.g] _ B1.out Tryz.underlying147 rfl (by kernel_rfl) ?_)
        | (go_at_call 238; refine (en_check E _).mono ?_; rw [HZ.out]; rintro e w2 ⟨rfl, o2⟩
           have oo := ((Only.refl none_ w1).alloc (.cells #[.string E.k, .string E.v, .bool E.d, .int .i64 E.s.c, .int .i64 E.s.s, .int .i64 E.a.c, .int .i64 E.a.s, .int .i64 E.p, .int .i64 E.g] 147)).trans o2
           have R2 := Lib.hid (R1.out.only oo (fun h => h))
           have O2 := Lib.hid (O1.out.trans oo.of_none)
           have D2 := Lib.hid (D1.out.only o2 (fun h => h) (fun _ _ h => h))
           have B2 := Lib.hid (B1.out.only o2 (fun h => h))
           clear oo o2)
        | (go_at_call 148; refine (reader_err g S _ _ _ D2.out).mono ?_; rintro e w4 ⟨rfl, rfl⟩)
        | (refine wpl_load rfl 147 _ rfl w1.heap.size rfl 147 #[.string E.k, .string E.v, .bool E.d, .int .i64 E.s.c, .int .i64 E.s.s, .int .i64 E.a.c, .int .i64 E.a.s, .int .i64 E.p, .int .i64 E.g] _ B2.out Tryz.underlying147 rfl (by kernel_rfl) ?_)
        | (refine wpList_store_row rfl 147 _ _ rfl w.heap.size #[.string E.k, .string E.v, .bool E.d, .int .i64 E.s.c, .int .i64 E.s.s, .int .i64 E.a.c, .int .i64 E.a.s, .int .i64 E.p, .int .i64 E.g] rfl rfl 147 _ R2.out (by kernel_rfl) rfl (by simp [Value.oneCell']) ?_
           have R5 := Lib.hid (R2.out.setRow #[.string E.k, .string E.v, .bool E.d, .int .i64 E.s.c, .int .i64 E.s.s, .int .i64 E.a.c, .int .i64 E.a.s, .int .i64 E.p, .int .i64 E.g])
           have W5 := Lib.hid ((Only.refl (one w.heap.size) w2).setRow (g := w.heap.size) (.inl (show one w.heap.size w.heap.size from rfl)) #[.string E.k, .string E.v, .bool E.d, .int .i64 E.s.c, .int .i64 E.s.s, .int .i64 E.a.c, .int .i64 E.a.s, .int .i64 E.p, .int .i64 E.g])
           have O5 := Lib.hid (O2.out.setRow (g := w.heap.size) (.inr (Nat.le_refl _)) #[.string E.k, .string E.v, .bool E.d, .int .i64 E.s.c, .int .i64 E.s.s, .int .i64 E.a.c, .int .i64 E.a.s, .int .i64 E.p, .int .i64 E.g])))
      refine bodyPost_ret (results_cell_row rfl _ _ w.heap.size 147 _ (0, 0) _ rfl R5.out Tryz.underlying147 rfl (by kernel_rfl)) rfl ?_
      have rF := D2.out.only W5.out (fun e => by have e' : g = w.heap.size := e; have := HG.out; omega) (fun b hb e => by have e' : b = w.heap.size := e; have := FR.out b hb; omega)
      rw [HE.out.1, HE.out.2.1, HE.out.2.2]
      exact ⟨rfl, rF, O5.out⟩
    · rw [if_neg h0] at hc3
      have HE : Hid (takeC code bs = c7 ∧ takeB code bs = b7 ∧ takeE code bs = enZero) := ⟨hc1, hc2, hc3⟩
      clear hc1 hc2 hc3 HD
      go_enter Tryz.func146, Tryz.ntmps146
      go_wp2_with (first
        | (go_at_call 237; refine HC.out.mono ?_; rintro e w1 ⟨rfl, r1, o1⟩
           have R1 := Lib.hid (R0.out.only o1 (ne0.out _ rfl))
           have O1 := Lib.hid (O0.out.trans o1)
           have D1 := Lib.hid (r1.only ((Only.refl none_ w1).alloc (.cells #[.string E.k, .string E.v, .bool E.d, .int .i64 E.s.c, .int .i64 E.s.s, .int .i64 E.a.c, .int .i64 E.a.s, .int .i64 E.p, .int .i64 E.g] 147)) (fun h => h) (fun _ _ h => h))
           have B1 := Lib.hid (Blk.new w1 147 #[.string E.k, .string E.v, .bool E.d, .int .i64 E.s.c, .int .i64 E.s.s, .int .i64 E.a.c, .int .i64 E.a.s, .int .i64 E.p, .int .i64 E.g])
           have G1 : Hid (w1.heap.size ≠ g) := by have := HG.out; have := o1.size; rw [World.size_alloc] at this; simp only [Hid]; omega
           clear r1 o1)
        | (refine wpl_load rfl 147 _ rfl w1.heap.size rfl 147 #[.string E.k, .string E.v, .bool E.d, .int .i64 E.s.c, .int .i64 E.s.s, .int .i64 E.a.c, .int .i64 E.a.s, .int .i64 E.p, .int .i64 E.g] _ B1.out Tryz.underlying147 rfl (by kernel_rfl) ?_)
        | (go_at_call 238; refine (en_check E _).mono ?_; rw [HZ.out]; rintro e w2 ⟨rfl, o2⟩
           have oo := ((Only.refl none_ w1).alloc (.cells #[.string E.k, .string E.v, .bool E.d, .int .i64 E.s.c, .int .i64 E.s.s, .int .i64 E.a.c, .int .i64 E.a.s, .int .i64 E.p, .int .i64 E.g] 147)).trans o2
           have R2 := Lib.hid (R1.out.only oo (fun h => h))
           have O2 := Lib.hid (O1.out.trans oo.of_none)
           have D2 := Lib.hid (D1.out.only o2 (fun h => h) (fun _ _ h => h))
           have B2 := Lib.hid (B1.out.only o2 (fun h => h))
           clear oo o2)
        | (go_at_call 148; refine (reader_err g S _ _ _ D2.out).mono ?_; rintro e w4 ⟨rfl, rfl⟩)
        | (refine wpList_store_row rfl 147 _ _ rfl w.heap.size #[.string ⟨#[]⟩, .string ⟨#[]⟩, .bool false, .int .i64 0, .int .i64 0, .int .i64 0, .int .i64 0, .int .i64 0, .int .i64 0] rfl rfl 147 _ R2.out (by kernel_rfl) rfl (by simp [Value.oneCell']) ?_
           have R5 := Lib.hid (R2.out.setRow #[.string ⟨#[]⟩, .string ⟨#[]⟩, .bool false, .int .i64 0, .int .i64 0, .int .i64 0, .int .i64 0, .int .i64 0, .int .i64 0])
           have W5 := Lib.hid ((Only.refl (one w.heap.size) w2).setRow (g := w.heap.size) (.inl (show one w.heap.size w.heap.size from rfl)) #[.string ⟨#[]⟩, .string ⟨#[]⟩, .bool false, .int .i64 0, .int .i64 0, .int .i64 0, .int .i64 0, .int .i64 0, .int .i64 0])
           have O5 := Lib.hid (O2.out.setRow (g := w.heap.size) (.inr (Nat.le_refl _)) #[.string ⟨#[]⟩, .string ⟨#[]⟩, .bool false, .int .i64 0, .int .i64 0, .int .i64 0, .int .i64 0, .int .i64 0, .int .i64 0])))
      refine bodyPost_ret (results_cell_row rfl _ _ w.heap.size 147 _ (0, 0) _ rfl R5.out Tryz.underlying147 rfl (by kernel_rfl)) rfl ?_
      have rF := D2.out.only W5.out (fun e => by have e' : g = w.heap.size := e; have := HG.out; omega) (fun b hb e => by have e' : b = w.heap.size := e; have := FR.out b hb; omega)
      rw [HE.out.1, HE.out.2.1, HE.out.2.2]
      exact ⟨rfl, rF, O5.out⟩
  · obtain ⟨hc1, hc2, hc3⟩ := HD.out
    rw [if_neg hz0] at hc1
    rw [hc1] at hc3
    have h4 := first_four c7
    rw [if_neg h4] at hc3
    obtain ⟨c8, h8⟩ : ∃ c, first_ c7 4 = c := ⟨_, rfl⟩
    rw [h8] at h4 hc1
    have HE : Hid (takeC code bs = c8 ∧ takeB code bs = b7 ∧ takeE code bs = enZero) := ⟨hc1, hc2, hc3⟩
    have H8 := Lib.hid h8
    clear hc1 hc2 hc3 HD h8
    go_enter Tryz.func146, Tryz.ntmps146
    go_wp2_with (first
      | (go_at_call 237; refine HC.out.mono ?_; rintro e w1 ⟨rfl, r1, o1⟩
         have R1 := Lib.hid (R0.out.only o1 (ne0.out _ rfl))
         have O1 := Lib.hid (O0.out.trans o1)
         have D1 := Lib.hid (r1.only ((Only.refl none_ w1).alloc (.cells #[.string E.k, .string E.v, .bool E.d, .int .i64 E.s.c, .int .i64 E.s.s, .int .i64 E.a.c, .int .i64 E.a.s, .int .i64 E.p, .int .i64 E.g] 147)) (fun h => h) (fun _ _ h => h))
         have B1 := Lib.hid (Blk.new w1 147 #[.string E.k, .string E.v, .bool E.d, .int .i64 E.s.c, .int .i64 E.s.s, .int .i64 E.a.c, .int .i64 E.a.s, .int .i64 E.p, .int .i64 E.g])
         have G1 : Hid (w1.heap.size ≠ g) := by have := HG.out; have := o1.size; rw [World.size_alloc] at this; simp only [Hid]; omega
         clear r1 o1)
      | (refine wpl_load rfl 147 _ rfl w1.heap.size rfl 147 #[.string E.k, .string E.v, .bool E.d, .int .i64 E.s.c, .int .i64 E.s.s, .int .i64 E.a.c, .int .i64 E.a.s, .int .i64 E.p, .int .i64 E.g] _ B1.out Tryz.underlying147 rfl (by kernel_rfl) ?_)
      | (go_at_call 238; refine (en_check E _).mono ?_; rw [HZ.out]; rintro e w2 ⟨rfl, o2⟩
         have oo := ((Only.refl none_ w1).alloc (.cells #[.string E.k, .string E.v, .bool E.d, .int .i64 E.s.c, .int .i64 E.s.s, .int .i64 E.a.c, .int .i64 E.a.s, .int .i64 E.p, .int .i64 E.g] 147)).trans o2
         have R2 := Lib.hid (R1.out.only oo (fun h => h))
         have O2 := Lib.hid (O1.out.trans oo.of_none)
         have D2 := Lib.hid (D1.out.only o2 (fun h => h) (fun _ _ h => h))
         have B2 := Lib.hid (B1.out.only o2 (fun h => h))
         clear oo o2)
      | (go_at_call 177; refine (reader_fail g S _ 4 _ _ D2.out).mono ?_; rw [H8.out]; rintro e w3 ⟨rfl, r3, o3⟩
         have R3 := Lib.hid (R2.out.only o3 (ne0.out _ rfl))
         have O3 := Lib.hid (O2.out.trans o3)
         have D3 := Lib.hid r3
         have B3 := Lib.hid (B2.out.only o3 (fun e => G1.out e))
         clear r3 o3)
      | (go_at_call 148; refine (reader_err g S _ _ _ D3.out).mono ?_; rintro e w4 ⟨rfl, rfl⟩)
      | (refine wpList_store_row rfl 147 _ _ rfl w.heap.size #[.string ⟨#[]⟩, .string ⟨#[]⟩, .bool false, .int .i64 0, .int .i64 0, .int .i64 0, .int .i64 0, .int .i64 0, .int .i64 0] rfl rfl 147 _ R3.out (by kernel_rfl) rfl (by simp [Value.oneCell']) ?_
         have R5 := Lib.hid (R3.out.setRow #[.string ⟨#[]⟩, .string ⟨#[]⟩, .bool false, .int .i64 0, .int .i64 0, .int .i64 0, .int .i64 0, .int .i64 0, .int .i64 0])
         have W5 := Lib.hid ((Only.refl (one w.heap.size) w3).setRow (g := w.heap.size) (.inl (show one w.heap.size w.heap.size from rfl)) #[.string ⟨#[]⟩, .string ⟨#[]⟩, .bool false, .int .i64 0, .int .i64 0, .int .i64 0, .int .i64 0, .int .i64 0, .int .i64 0])
         have O5 := Lib.hid (O3.out.setRow (g := w.heap.size) (.inr (Nat.le_refl _)) #[.string ⟨#[]⟩, .string ⟨#[]⟩, .bool false, .int .i64 0, .int .i64 0, .int .i64 0, .int .i64 0, .int .i64 0, .int .i64 0])))
    refine bodyPost_ret (results_cell_row rfl _ _ w.heap.size 147 _ (0, 0) _ rfl R5.out Tryz.underlying147 rfl (by kernel_rfl)) rfl ?_
    have rF := D3.out.only W5.out (fun e => by have e' : g = w.heap.size := e; have := HG.out; omega) (fun b hb e => by have e' : b = w.heap.size := e; have := FR.out b hb; omega)
    rw [HE.out.1, HE.out.2.1, HE.out.2.2]
    exact ⟨rfl, rF, O5.out⟩
end Go.Proofs.YtlieolehpmobfaaGreatDoor
end
section
namespace Go.Proofs.YtlieolehpmobfaaGreatDoor
open Go.RowKit
set_option linter.all false
set_option maxRecDepth 100000
structure Lw (B : World) (g : Nat) (bs : List UInt8) (v : Value) (w : World) : Prop where
  wr : Wr w g g 0 v bs
  ho : Only none_ B w
  ge : B.heap.size ≤ g
section
variable {B w w' : World} {g h : Nat} {bs bs' : List UInt8} {v v' : Value} {t : TypeId} {cs : Array Value}
theorem Lw.new (B : World) : Lw B B.heap.size [] (.slice none 0 0) (B.alloc (.cells #[.int .i64 0, .slice none 0 0] 131)) :=
  ⟨⟨Blk.new _ _ _, World.ownsRow_nil _ _ _ _⟩, (Only.refl _ _).alloc _, Nat.le_refl _⟩
theorem Lw.far (s : Lw B g bs v w) {k : Nat} (hf : foot g v k) : B.heap.size ≤ k ∧ k < w.heap.size := ⟨Nat.le_trans s.ge (s.wr.foot_ge (Nat.le_refl _) hf), s.wr.foot_lt hf⟩
theorem Lw.step (s : Lw B g bs v w) (hw : Wr w' g g 0 v' bs') (o : Only (foot g v) w w') : Lw B g bs' v' w' :=
  ⟨hw, s.ho.trans' o (fun k hk hf => by have := s.far hf; omega), s.ge⟩
theorem Lw.keep (s : Lw B g bs v w) (o : Only none_ w w') : Lw B g bs v w' := ⟨s.wr.only o (fun _ _ h => h), s.ho.trans o, s.ge⟩
theorem Lw.box (s : Lw B g bs v w) (b : Blk w h t cs) (o : Only (foot g v) w w') (h1 : 5 ≠ t) (h2 : t ≠ 131) : Blk w' h t cs :=
  b.only o (fun hf => hf.elim (fun e => Blk.ne_ b s.wr.1 h2 e) (fun e => own_blk_ne s.wr.2 b h1 e))
theorem lw_text (s : Lw B g bs v w) (x : ByteArray) (hx : x.size ≤ 255) (hl : bs.length ≤ 1000000) :
    Calls Tryz.prog 234 #[.pointer (some ⟨g, 0, none⟩), .string x] w fun e w' => e = .returned (.pointer (some ⟨g, 0, none⟩)) ∧ ∃ v', Lw B g (bs ++ (UInt8.ofNat x.size :: x.data.toList)) v' w' ∧ Only (foot g v) w w' := by
  have hlen : x.data.toList.length = x.size := Array.length_toList
  have e1 : textCode 0 x.data.toList = 0 := by rw [textCode, if_neg (by omega)]
  have e2 : textBs 0 bs x.data.toList = bs ++ (UInt8.ofNat x.size :: x.data.toList) := by rw [textBs, if_neg (by omega), hlen]; rfl
  refine (writer_text g g 0 x v bs w s.wr (by omega) (Nat.le_of_lt s.wr.1.lt) (by omega)).mono ?_
  rintro e w' ⟨rfl, v', h', o', _⟩
  rw [e1, e2] at h'
  exact ⟨rfl, v', s.step h' o', o'⟩
theorem lw_flag (s : Lw B g bs v w) (b : Bool) (hl : bs.length ≤ 1000000) :
    Calls Tryz.prog 122 #[.pointer (some ⟨g, 0, none⟩), .bool b] w fun e w' => e = .returned (.pointer (some ⟨g, 0, none⟩)) ∧ ∃ v', Lw B g (bs ++ [UInt8.ofNat (bitN b)]) v' w' ∧ Only (foot g v) w w' := by
  refine (writer_flag g g 0 b v bs w s.wr (by omega) (Nat.le_of_lt s.wr.1.lt)).mono ?_
  rintro e w' ⟨rfl, v', h', o', _⟩
  exact ⟨rfl, v', s.step h' o', o'⟩
theorem lw_num (s : Lw B g bs v w) (n m : Nat) (hm : 1 ≤ m ∧ m ≤ 8) (hn : n < 2 ^ (8 * m)) (hl : bs.length ≤ 1000000) :
    Calls Tryz.prog 118 #[.pointer (some ⟨g, 0, none⟩), .int .u64 (n : Int), .int .i64 (m : Int)] w fun e w' => e = .returned (.pointer (some ⟨g, 0, none⟩)) ∧ ∃ v', Lw B g (bs ++ leBytes n m) v' w' ∧ Only (foot g v) w w' := by
  have hw : isW (m : Int) = true := by simp [isW]; omega
  have hz : n / 2 ^ (8 * m) = 0 := Nat.div_eq_of_lt hn
  have e1 : numCode 0 n (m : Int) = 0 := by rw [numCode, if_pos hw, Int.toNat_natCast, if_pos hz]
  have e2 : numBs 0 bs n (m : Int) = bs ++ leBytes n m := by rw [numBs, if_pos hw, Int.toNat_natCast, if_pos hz]; rfl
  have hb : n < 18446744073709551616 := by
    have : 2 ^ (8 * m) ≤ 2 ^ 64 := Nat.pow_le_pow_right (by omega) (by omega)
    omega
  refine (writer_number g g 0 (m : Int) n v bs w s.wr hb (by omega) (Nat.le_of_lt s.wr.1.lt)).mono ?_
  rintro e w' ⟨rfl, v', h', o', _⟩
  rw [e1, e2] at h'
  exact ⟨rfl, v', s.step h' o', o'⟩
theorem lw_bytes (s : Lw B g bs v w) (hl : bs.length ≤ 1000000) :
    Calls Tryz.prog 62 #[.pointer (some ⟨g, 0, none⟩)] w fun e w' => ∃ A n c, e = .returned (.slice A n c) ∧ w'.ownsRow w.heap.size 5 1 (.slice A n c) bs.length (byts bs) ∧ Only none_ w w' :=
  writer_bytes g g 0 v bs w s.wr (by omega)
theorem lw_err (s : Lw B g bs v w) :
    Calls Tryz.prog 63 #[.pointer (some ⟨g, 0, none⟩)] w fun e w' => e = .returned (.int .i64 0) ∧ w = w' := writer_err g g 0 v bs w s.wr
end
end Go.Proofs.YtlieolehpmobfaaGreatDoor
end
section
namespace Go.Proofs.YtlieolehpmobfaaGreatDoor
open Go.RowKit
set_option linter.all false
set_option maxRecDepth 100000
structure Ne where
  k : ByteArray
  v : ByteArray
  d : Bool
  s1 : Nat
  s2 : Nat
  a1 : Nat
  a2 : Nat
  p : Nat
  q : Nat
def Ne.en (e : Ne) : En := ⟨e.k, e.v, e.d, ⟨e.s1, e.s2⟩, ⟨e.a1, e.a2⟩, e.p, e.q⟩
def Ne.ok (e : Ne) : Prop := e.k.size ≤ 255 ∧ e.v.size ≤ 255 ∧ e.s1 < 4294967296 ∧ e.s2 < 256 ∧ e.a1 < 4294967296 ∧ e.a2 < 256 ∧ e.p < 65536 ∧ e.q < 4294967296
def txtB (x : ByteArray) : List UInt8 := UInt8.ofNat x.size :: x.data.toList
theorem txtB_len (x : ByteArray) : (txtB x).length = x.size + 1 := by
  show x.data.toList.length + 1 = _
  rw [Array.length_toList]; rfl
def layB (e : Ne) : List UInt8 := txtB e.k ++ [UInt8.ofNat (bitN e.d)] ++ txtB e.v ++ leBytes e.s1 4 ++ leBytes e.s2 1 ++ leBytes e.a1 4 ++ leBytes e.a2 1 ++ leBytes e.p 2 ++ leBytes e.q 4
theorem first3 {w : World} {g : Nat} {t : TypeId} {a b c d e f h i j : Value} (x : Blk w g t #[a, b, c, d, e, f, h, i, j]) : w.cell? ⟨g, 0, none⟩ = some a ∧ w.cell? ⟨g, 1, none⟩ = some b ∧ w.cell? ⟨g, 2, none⟩ = some c :=
  ⟨x.cell_ rfl, x.cell_ rfl, x.cell_ rfl⟩
theorem last2 {w : World} {g : Nat} {t : TypeId} {a b c d e f h i j : Value} (x : Blk w g t #[a, b, c, d, e, f, h, i, j]) : w.cell? ⟨g, 7, none⟩ = some i ∧ w.cell? ⟨g, 8, none⟩ = some j := ⟨x.cell_ rfl, x.cell_ rfl⟩
theorem both2 {w : World} {g : Nat} {t : TypeId} {a b : Value} (x : Blk w g t #[a, b]) : w.cell? ⟨g, 0, none⟩ = some a ∧ w.cell? ⟨g, 1, none⟩ = some b := ⟨x.cell_ rfl, x.cell_ rfl⟩
theorem leBytes_len (n k : Nat) : (leBytes n k).length = k := by simp [leBytes]
set_option maxHeartbeats 3200000 in
theorem lay_any (B : World) (g : Nat) (e : Ne) (bs : List UInt8) (v : Value) (w : World) (he : e.ok) (s : Lw B g bs v w) (hl : bs.length ≤ 900000) :
    Calls Tryz.prog 143 #[.pointer (some ⟨g, 0, none⟩), .agg #[.string e.en.k, .string e.en.v, .bool e.en.d, .int .i64 e.en.s.c, .int .i64 e.en.s.s, .int .i64 e.en.a.c, .int .i64 e.en.a.s, .int .i64 e.en.p, .int .i64 e.en.g]] w fun E w' => E = .returned (.tuple #[]) ∧ ∃ v', Lw B g (bs ++ layB e) v' w' := by
  obtain ⟨k, x, d, s1, s2, a1, a2, p, q⟩ := e
  obtain ⟨hk, hv, h1, h2, h3, h4, h5, h6⟩ := he
  have HF : Hid (layB ⟨k, x, d, s1, s2, a1, a2, p, q⟩ = txtB k ++ [UInt8.ofNat (bitN d)] ++ txtB x ++ leBytes s1 4 ++ leBytes s2 1 ++ leBytes a1 4 ++ leBytes a2 1 ++ leBytes p 2 ++ leBytes q 4) := rfl
  dsimp only at hk hv h1 h2 h3 h4 h5 h6
  show Calls Tryz.prog 143 #[.pointer (some ⟨g, 0, none⟩), .agg #[.string k, .string x, .bool d, .int .i64 (s1 : Int), .int .i64 (s2 : Int), .int .i64 (a1 : Int), .int .i64 (a2 : Int), .int .i64 (p : Int), .int .i64 (q : Int)]] w _
  have u1 : IntKind.u64.wrap (s1 : Int) = (s1 : Int) := IntWalk.u64_in _ (by omega)
  have u2 : IntKind.u64.wrap (s2 : Int) = (s2 : Int) := IntWalk.u64_in _ (by omega)
  have u3 : IntKind.u64.wrap (a1 : Int) = (a1 : Int) := IntWalk.u64_in _ (by omega)
  have u4 : IntKind.u64.wrap (a2 : Int) = (a2 : Int) := IntWalk.u64_in _ (by omega)
  have u5 : IntKind.u64.wrap (p : Int) = (p : Int) := IntWalk.u64_in _ (by omega)
  have u6 : IntKind.u64.wrap (q : Int) = (q : Int) := IntWalk.u64_in _ (by omega)
  obtain ⟨b1, e1⟩ : ∃ b, bs ++ txtB k = b := ⟨_, rfl⟩
  obtain ⟨b2, e2⟩ : ∃ b, b1 ++ [UInt8.ofNat (bitN d)] = b := ⟨_, rfl⟩
  obtain ⟨b3, e3⟩ : ∃ b, b2 ++ txtB x = b := ⟨_, rfl⟩
  obtain ⟨b4, e4⟩ : ∃ b, b3 ++ leBytes s1 4 = b := ⟨_, rfl⟩
  obtain ⟨b5, e5⟩ : ∃ b, b4 ++ leBytes s2 1 = b := ⟨_, rfl⟩
  obtain ⟨b6, e6⟩ : ∃ b, b5 ++ leBytes a1 4 = b := ⟨_, rfl⟩
  obtain ⟨b7, e7⟩ : ∃ b, b6 ++ leBytes a2 1 = b := ⟨_, rfl⟩
  obtain ⟨b8, e8⟩ : ∃ b, b7 ++ leBytes p 2 = b := ⟨_, rfl⟩
  obtain ⟨b9, e9⟩ : ∃ b, b8 ++ leBytes q 4 = b := ⟨_, rfl⟩
  have EB : Hid (bs ++ layB ⟨k, x, d, s1, s2, a1, a2, p, q⟩ = b9) := by
    rw [Hid, HF.out, ← e9, ← e8, ← e7, ← e6, ← e5, ← e4, ← e3, ← e2, ← e1]
    simp only [List.append_assoc]
  have n1 : b1.length = bs.length + (k.size + 1) := by rw [← e1, List.length_append, txtB_len]
  have n2 : b2.length = b1.length + 1 := by rw [← e2, List.length_append]; rfl
  have n3 : b3.length = b2.length + (x.size + 1) := by rw [← e3, List.length_append, txtB_len]
  have n4 : b4.length = b3.length + 4 := by rw [← e4, List.length_append, leBytes_len]
  have n5 : b5.length = b4.length + 1 := by rw [← e5, List.length_append, leBytes_len]
  have n6 : b6.length = b5.length + 4 := by rw [← e6, List.length_append, leBytes_len]
  have n7 : b7.length = b6.length + 1 := by rw [← e7, List.length_append, leBytes_len]
  have n8 : b8.length = b7.length + 2 := by rw [← e8, List.length_append, leBytes_len]
  have HN : Hid (bs.length ≤ 1000000 ∧ b1.length ≤ 1000000 ∧ b2.length ≤ 1000000 ∧ b3.length ≤ 1000000 ∧ b4.length ≤ 1000000 ∧ b5.length ≤ 1000000 ∧ b6.length ≤ 1000000 ∧ b7.length ≤ 1000000 ∧ b8.length ≤ 1000000) := by
    refine ⟨?_, ?_, ?_, ?_, ?_, ?_, ?_, ?_, ?_⟩ <;> omega
  have E1 := Lib.hid e1
  have E2 := Lib.hid e2
  have E3 := Lib.hid e3
  have E4 := Lib.hid e4
  have E5 := Lib.hid e5
  have E6 := Lib.hid e6
  have E7 := Lib.hid e7
  have E8 := Lib.hid e8
  have E9 := Lib.hid e9
  have HK := Lib.hid hk
  have HX := Lib.hid hv
  have A1 : Hid (s1 < 2 ^ (8 * 4)) := h1
  have A2 : Hid (s2 < 2 ^ (8 * 1)) := h2
  have A3 : Hid (a1 < 2 ^ (8 * 4)) := h3
  have A4 : Hid (a2 < 2 ^ (8 * 1)) := h4
  have A5 : Hid (p < 2 ^ (8 * 2)) := h5
  have A6 : Hid (q < 2 ^ (8 * 4)) := h6
  have L0 := Lib.hid (s.keep (((Only.refl none_ w).alloc (.cells #[.string k, .string x, .bool d, .int .i64 (s1 : Int), .int .i64 (s2 : Int), .int .i64 (a1 : Int), .int .i64 (a2 : Int), .int .i64 (p : Int), .int .i64 (q : Int)] 147)).drew))
  have X0 := Lib.hid (Blk.new w 147 #[.string k, .string x, .bool d, .int .i64 (s1 : Int), .int .i64 (s2 : Int), .int .i64 (a1 : Int), .int .i64 (a2 : Int), .int .i64 (p : Int), .int .i64 (q : Int)]).drew
  have y0 := first3 X0.out
  have ix0 := fun w => (run_index_two _ _ _ _ _ (show #[.int .i64 (s1 : Int), .int .i64 (s2 : Int), .int .i64 (a1 : Int), .int .i64 (a2 : Int)] = _ from rfl) w).1
  have ix1 := fun w => (run_index_two _ _ _ _ _ (show #[.int .i64 (s1 : Int), .int .i64 (s2 : Int), .int .i64 (a1 : Int), .int .i64 (a2 : Int)] = _ from rfl) w).2
  clear s hl hk hv h1 h2 h3 h4 h5 h6 e1 e2 e3 e4 e5 e6 e7 e8 e9 n1 n2 n3 n4 n5 n6 n7 n8
  have tok1 : True := trivial
  go_enter Tryz.func143, Tryz.ntmps143
  go_wp2_with fail
  go_region_held3 (fun w' => w'.cell? ⟨w.heap.size, 0, none⟩ = some (.string k) ∧ w'.cell? ⟨w.heap.size, 1, none⟩ = some (.string x) ∧ w'.cell? ⟨w.heap.size, 2, none⟩ = some (.bool d))
    (first | with_reducible exact y0 | with_reducible exact y1 | with_reducible exact y2 | with_reducible exact y3)
    (first
      | (go_at_call 234; have _t := tok1; refine (lw_text L0.out k HK.out HN.out.1).mono ?_; rintro e w1 ⟨rfl, v1, l1, o1⟩
         have L1 : Hid (Lw B g b1 v1 w1) := E1.out ▸ l1
         have X1 := Lib.hid (L0.out.box X0.out o1 (by decide) (by decide))
         have y1 := first3 X1.out
         clear l1 o1 tok1
         have tok2 : True := trivial)
      | (go_at_call 122; refine (lw_flag L1.out d HN.out.2.1).mono ?_; rintro e w2 ⟨rfl, v2, l2, o2⟩
         have L2 : Hid (Lw B g b2 v2 w2) := E2.out ▸ l2
         have X2 := Lib.hid (L1.out.box X1.out o2 (by decide) (by decide))
         have y2 := first3 X2.out
         clear l2 o2)
      | (go_at_call 234; have _t := tok2; refine (lw_text L2.out x HX.out HN.out.2.2.1).mono ?_; rintro e w3 ⟨rfl, v3, l3, o3⟩
         have L3 : Hid (Lw B g b3 v3 w3) := E3.out ▸ l3
         have X3 := Lib.hid (L2.out.box X2.out o3 (by decide) (by decide))
         have y3 := first3 X3.out
         clear l3 o3 tok2))
  all_goals go_wp2_with (first
    | (refine wpl_load rfl 147 _ rfl w.heap.size rfl 147 #[.string k, .string x, .bool d, .int .i64 (s1 : Int), .int .i64 (s2 : Int), .int .i64 (a1 : Int), .int .i64 (a2 : Int), .int .i64 (p : Int), .int .i64 (q : Int)] _ X3.out Tryz.underlying147 rfl (by kernel_rfl) ?_)
    | (go_at_call 236; refine (en_stamps ⟨k, x, d, ⟨s1, s2⟩, ⟨a1, a2⟩, p, q⟩ _).mono ?_; rintro e w4 ⟨rfl, o4⟩
       have L4 := Lib.hid (L3.out.keep o4)
       have X4 := Lib.hid (X3.out.only o4 (fun h => h))
       clear o4))
  refine wp_loop_rounds 3 ?_
  rw [rounds_succ]
  have La5 := Lib.hid (L4.out.keep (((Only.refl none_ w4).alloc (.cells #[.int .i64 (s1 : Int), .int .i64 (s2 : Int)] 39)).drew))
  have Xa5 := Lib.hid (X4.out.only (((Only.refl none_ w4).alloc (.cells #[.int .i64 (s1 : Int), .int .i64 (s2 : Int)] 39)).drew) (fun h => h))
  have Sa5 := Lib.hid (Blk.new w4 39 #[.int .i64 (s1 : Int), .int .i64 (s2 : Int)]).drew
  have ya5 := both2 Sa5.out
  have tokn5 : True := trivial
  go_wp2_with fail
  go_region_held3 (fun w' => w'.cell? ⟨w4.heap.size, 0, none⟩ = some (.int .i64 (s1 : Int)) ∧ w'.cell? ⟨w4.heap.size, 1, none⟩ = some (.int .i64 (s2 : Int)))
    (first | with_reducible exact ya5 | with_reducible exact yb5 | with_reducible exact yc5)
    (first
      | (go_at_call 118; have _t := tokn5; refine (lw_num La5.out s1 4 (by omega) A1.out HN.out.2.2.2.1).mono ?_; rintro e w5 ⟨rfl, v5, l, o⟩
         have L5 : Hid (Lw B g b4 v5 w5) := E4.out ▸ l
         have X5 := Lib.hid (La5.out.box Xa5.out o (by decide) (by decide))
         have S5 := Lib.hid (La5.out.box Sa5.out o (by decide) (by decide))
         have yb5 := both2 S5.out
         clear l o tokn5
         have tokm5 : True := trivial)
      | (go_at_call 118; have _t := tokm5; refine (lw_num L5.out s2 1 (by omega) A2.out HN.out.2.2.2.2.1).mono ?_; rintro e w6 ⟨rfl, v6, l, o⟩
         have L6 : Hid (Lw B g b5 v6 w6) := E5.out ▸ l
         have X6 := Lib.hid (L5.out.box X5.out o (by decide) (by decide))
         have S6 := Lib.hid (L5.out.box S5.out o (by decide) (by decide))
         have yc5 := both2 S6.out
         clear l o tokm5))
  all_goals go_wp2_with fail
  rw [rounds_succ]
  have La7 := Lib.hid (L6.out.keep (((Only.refl none_ w6).alloc (.cells #[.int .i64 (a1 : Int), .int .i64 (a2 : Int)] 39)).drew))
  have Xa7 := Lib.hid (X6.out.only (((Only.refl none_ w6).alloc (.cells #[.int .i64 (a1 : Int), .int .i64 (a2 : Int)] 39)).drew) (fun h => h))
  have Sa7 := Lib.hid (Blk.new w6 39 #[.int .i64 (a1 : Int), .int .i64 (a2 : Int)]).drew
  have ya7 := both2 Sa7.out
  have tokn7 : True := trivial
  go_wp2_with fail
  go_region_held3 (fun w' => w'.cell? ⟨w6.heap.size, 0, none⟩ = some (.int .i64 (a1 : Int)) ∧ w'.cell? ⟨w6.heap.size, 1, none⟩ = some (.int .i64 (a2 : Int)))
    (first | with_reducible exact ya7 | with_reducible exact yb7 | with_reducible exact yc7)
    (first
      | (go_at_call 118; have _t := tokn7; refine (lw_num La7.out a1 4 (by omega) A3.out HN.out.2.2.2.2.2.1).mono ?_; rintro e w7 ⟨rfl, v7, l, o⟩
         have L7 : Hid (Lw B g b6 v7 w7) := E6.out ▸ l
         have X7 := Lib.hid (La7.out.box Xa7.out o (by decide) (by decide))
         have S7 := Lib.hid (La7.out.box Sa7.out o (by decide) (by decide))
         have yb7 := both2 S7.out
         clear l o tokn7
         have tokm7 : True := trivial)
      | (go_at_call 118; have _t := tokm7; refine (lw_num L7.out a2 1 (by omega) A4.out HN.out.2.2.2.2.2.2.1).mono ?_; rintro e w8 ⟨rfl, v8, l, o⟩
         have L8 : Hid (Lw B g b7 v8 w8) := E7.out ▸ l
         have X8 := Lib.hid (L7.out.box X7.out o (by decide) (by decide))
         have S8 := Lib.hid (L7.out.box S7.out o (by decide) (by decide))
         have yc7 := both2 S8.out
         clear l o tokm7))
  all_goals go_wp2_with fail
  rw [rounds_succ]
  have L9 := Lib.hid (L8.out.keep ((Only.refl none_ w8).drew))
  have X9 := Lib.hid (X8.out.only ((Only.refl none_ w8).drew) (fun h => h))
  have y9 := last2 X9.out
  have tokA : True := trivial
  go_wp2_with fail
  go_region_held3 (fun w' => w'.cell? ⟨w.heap.size, 7, none⟩ = some (.int .i64 (p : Int)) ∧ w'.cell? ⟨w.heap.size, 8, none⟩ = some (.int .i64 (q : Int)))
    (first | with_reducible exact y9 | with_reducible exact y10 | with_reducible exact y11)
    (first
      | (go_at_call 118; have _t := tokA; refine (lw_num L9.out p 2 (by omega) A5.out HN.out.2.2.2.2.2.2.2.1).mono ?_; rintro e w10 ⟨rfl, v10, l, o⟩
         have L10 : Hid (Lw B g b8 v10 w10) := E8.out ▸ l
         have X10 := Lib.hid (L9.out.box X9.out o (by decide) (by decide))
         have y10 := last2 X10.out
         clear l o tokA
         have tokB : True := trivial)
      | (go_at_call 118; have _t := tokB; refine (lw_num L10.out q 4 (by omega) A6.out HN.out.2.2.2.2.2.2.2.2).mono ?_; rintro e w11 ⟨rfl, v11, l, o⟩
         have L11 : Hid (Lw B g b9 v11 w11) := E9.out ▸ l
         have X11 := Lib.hid (L10.out.box X10.out o (by decide) (by decide))
         have y11 := last2 X11.out
         clear l o tokB))
  all_goals go_wp2_with fail
  go_end0
  rw [EB.out]
  exact ⟨rfl, v11, L11.out⟩
end Go.Proofs.YtlieolehpmobfaaGreatDoor
end
section
namespace Go.Proofs.YtlieolehpmobfaaGreatDoor
open Go.RowKit
set_option linter.all false
set_option maxRecDepth 100000
structure Ms where
  kd : Int
  pe : Int
  hp : Int
  hi : Bool
  ps : List Int
  nu : Int
  su : Nat
  mr : Mk
  ms : List Mk
  es : List En
def msZero (k : Int) : Ms := ⟨k, 0, 0, false, [], 0, 0, mkTop, [], []⟩
def wHas (k : Int) (i : Nat) : Bool :=
  match i with
  | 0 => k == 2 || k == 7
  | 1 => k == 2 || k == 7
  | 2 => k == 3
  | 3 => k == 7 || k == 8
  | 4 => k == 16 || k == 17 || k == 18 || k == 19
  | 5 => k == 16 || k == 17 || k == 19
  | 6 => k == 18 || k == 19
  | 7 => k == 11 || k == 12 || k == 15
  | _ => k == 10 || k == 14 || k == 15 || k == 16 || k == 17 || k == 18 || k == 19
def wLo (k : Int) : Int := if (k == 10 || k == 11 || k == 12 || k == 14) = true then 1 else 0
def wUp (k : Int) : Int := if (k == 10 || k == 12) = true then 1 else if (k == 11 || k == 14 || k == 15 || k == 16 || k == 17 || k == 18 || k == 19) = true then 8 else 0
def wBit (k : Int) (i : Nat) : Int := if wHas k i = true then 2 ^ i else 0
def wFld (k : Int) : Int := wBit k 0 + wBit k 1 + wBit k 2 + wBit k 3 + wBit k 4 + wBit k 5 + wBit k 6 + wBit k 7 + wBit k 8
def wKind (k : Int) : Bool := decide (1 ≤ k) && decide (k ≤ 19)
def mkGood (x : Mk) : Bool := stGood x.a && decide (1 ≤ x.k.size) && decide (x.k.size ≤ 16)
def enOk (e : En) : Bool := enCheck e == 0
def manyB (lo up : Int) (n : Nat) : Bool := decide (lo ≤ (n : Int)) && decide ((n : Int) ≤ up)
def wMay (m : Ms) (lo up : Int) (i : Nat) : Bool :=
  match i with
  | 0 => nodeB m.pe
  | 1 => decide (0 ≤ m.hp) && decide (m.hp ≤ 8)
  | 2 => true
  | 3 => decide ((m.ps.length : Int) ≤ 8) && m.ps.all nodeB
  | 4 => decide (0 ≤ m.nu) && decide (m.nu ≤ 4294967295)
  | 5 => true
  | 6 => isTop m.mr || mkGood m.mr
  | 7 => manyB lo up m.ms.length && m.ms.all mkGood
  | _ => manyB lo up m.es.length && m.es.all enOk
def wNone (m : Ms) (i : Nat) : Bool :=
  match i with
  | 0 => m.pe == 0
  | 1 => m.hp == 0
  | 2 => !m.hi
  | 3 => (m.ps.length : Int) == 0
  | 4 => m.nu == 0
  | 5 => (m.su : Int) == 0
  | 6 => isTop m.mr
  | 7 => (m.ms.length : Int) == 0
  | _ => (m.es.length : Int) == 0
def wField (m : Ms) (i : Nat) : Bool := if wHas m.kd i = true then wMay m (wLo m.kd) (wUp m.kd) i else wNone m i
def wOk (m : Ms) : Bool := (List.range 9).all (wField m)
def wGood (m : Ms) : Int := if wKind m.kd = true then (if wOk m = true then 0 else 4) else 1
abbrev Tkn (α : Type) := Int → List UInt8 → Int × List UInt8 × α
def lenR : Tkn Nat := fun c bs => if 8 < (numR c bs 1).2.2 then (first_ (numR c bs 1).1 4, (numR c bs 1).2.1, 0) else numR c bs 1
def listR {α : Type} (f : Tkn α) : Nat → Tkn (List α)
  | 0, c, bs => (c, bs, [])
  | n + 1, c, bs => ((f (listR f n c bs).1 (listR f n c bs).2.1).1, (f (listR f n c bs).1 (listR f n c bs).2.1).2.1, (listR f n c bs).2.2 ++ [(f (listR f n c bs).1 (listR f n c bs).2.1).2.2])
def manyR {α : Type} (f : Tkn α) : Tkn (List α) := fun c bs => listR f (lenR c bs).2.2 (lenR c bs).1 (lenR c bs).2.1
def nodeR : Tkn Int := fun c bs => ((numR c bs 1).1, (numR c bs 1).2.1, ((numR c bs 1).2.2 : Int))
def markR : Tkn Mk := fun c bs => ((textR (stampR c bs).1 (stampR c bs).2.1 16).1, (textR (stampR c bs).1 (stampR c bs).2.1 16).2.1, ⟨(stampR c bs).2.2, ⟨(textR (stampR c bs).1 (stampR c bs).2.1 16).2.2.toArray⟩⟩)
def entR : Tkn En := fun c bs => (takeC c bs, takeB c bs, takeE c bs)
def fieldR (i : Nat) (c : Int) (bs : List UInt8) (m : Ms) : Int × List UInt8 × Ms :=
  match i with
  | 0 => ((nodeR c bs).1, (nodeR c bs).2.1, { m with pe := (nodeR c bs).2.2 })
  | 1 => ((nodeR c bs).1, (nodeR c bs).2.1, { m with hp := (nodeR c bs).2.2 })
  | 2 => ((flagR c bs).1, (flagR c bs).2.1, { m with hi := (flagR c bs).2.2 })
  | 3 => ((manyR nodeR c bs).1, (manyR nodeR c bs).2.1, { m with ps := (manyR nodeR c bs).2.2 })
  | 4 => ((numR c bs 4).1, (numR c bs 4).2.1, { m with nu := ((numR c bs 4).2.2 : Int) })
  | 5 => ((numR c bs 8).1, (numR c bs 8).2.1, { m with su := (numR c bs 8).2.2 })
  | 6 => ((markR c bs).1, (markR c bs).2.1, { m with mr := (markR c bs).2.2 })
  | 7 => ((manyR markR c bs).1, (manyR markR c bs).2.1, { m with ms := (manyR markR c bs).2.2 })
  | _ => ((manyR entR c bs).1, (manyR entR c bs).2.1, { m with es := (manyR entR c bs).2.2 })
def runR (k : Int) (bs : List UInt8) : Nat → Int × List UInt8 × Ms
  | 0 => (0, bs, msZero k)
  | n + 1 => if wHas k n = true then fieldR n (runR k bs n).1 (runR k bs n).2.1 (runR k bs n).2.2 else runR k bs n
def wdC (k : Int) (bs : List UInt8) : Int :=
  if wKind k = true then (if doneCode (runR k bs 9).1 (runR k bs 9).2.1 = 0 then wGood (runR k bs 9).2.2 else doneCode (runR k bs 9).1 (runR k bs 9).2.1) else 1
def wdM (k : Int) (bs : List UInt8) : Ms := if wdC k bs = 0 then (runR k bs 9).2.2 else msZero 0
def markB (x : Mk) : List UInt8 := leBytes x.a.c.toNat 4 ++ leBytes x.a.s.toNat 1 ++ txtB x.k
def enNe (e : En) : Ne := ⟨e.k, e.v, e.d, e.s.c.toNat, e.s.s.toNat, e.a.c.toNat, e.a.s.toNat, e.p.toNat, e.g.toNat⟩
def entB (e : En) : List UInt8 := layB (enNe e)
def nodeL (n : Int) : List UInt8 := leBytes n.toNat 1
def listB {α : Type} (f : α → List UInt8) (l : List α) : List UInt8 := leBytes l.length 1 ++ l.flatMap f
def fieldB (m : Ms) (i : Nat) : List UInt8 :=
  match i with
  | 0 => nodeL m.pe
  | 1 => nodeL m.hp
  | 2 => [UInt8.ofNat (bitN m.hi)]
  | 3 => listB nodeL m.ps
  | 4 => leBytes m.nu.toNat 4
  | 5 => leBytes m.su 8
  | 6 => markB m.mr
  | 7 => listB markB m.ms
  | _ => listB entB m.es
def runB (m : Ms) : Nat → List UInt8
  | 0 => []
  | n + 1 => if wHas m.kd n = true then runB m n ++ fieldB m n else runB m n
def wEnc (m : Ms) : List UInt8 := runB m 9
theorem kind_ways {k : Int} (h : wKind k = true) : k = 1 ∨ k = 2 ∨ k = 3 ∨ k = 4 ∨ k = 5 ∨ k = 6 ∨ k = 7 ∨ k = 8 ∨ k = 9 ∨ k = 10 ∨ k = 11 ∨ k = 12 ∨ k = 13 ∨ k = 14 ∨ k = 15 ∨ k = 16 ∨ k = 17 ∨ k = 18 ∨ k = 19 := by
  simp only [wKind, Bool.and_eq_true, decide_eq_true_eq] at h; omega
theorem fieldR_kd (i : Nat) (c : Int) (bs : List UInt8) (m : Ms) : (fieldR i c bs m).2.2.kd = m.kd := by
  unfold fieldR; split <;> rfl
theorem runR_kd (k : Int) (bs : List UInt8) : ∀ n, (runR k bs n).2.2.kd = k
  | 0 => rfl
  | n + 1 => by
    show (if wHas k n = true then fieldR n (runR k bs n).1 (runR k bs n).2.1 (runR k bs n).2.2 else runR k bs n).2.2.kd = k
    split
    · rw [fieldR_kd]; exact runR_kd k bs n
    · exact runR_kd k bs n
end Go.Proofs.YtlieolehpmobfaaGreatDoor
end
