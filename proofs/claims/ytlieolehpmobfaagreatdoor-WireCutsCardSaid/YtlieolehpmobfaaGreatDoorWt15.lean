/- Texts of mine, one behind the other: WiN, EnD, WiV. No statement of the seat is proved here. -/
import Derived.Test.YtlieolehpmobfaaGreatDoorWt14
import Derived.Test.YtlieolehpmobfaaGreatDoorWt3
section
namespace Go.Proofs.YtlieolehpmobfaaGreatDoor
open Go.RowKit
set_option linter.all false
set_option maxRecDepth 100000
def docB (m : Ms) : Bool := cntB m && (!fldA m && fldZ m) && stSite m.pe && decide (0 ≤ m.hp) && decide (m.hp ≤ 8) && decide (0 ≤ m.nu) && decide (m.nu ≤ 4294967295)
def docOk (m : Ms) : Bool := docB m && (isTop m.mr || mkGood m.mr) && m.ps.all stSite && m.ms.all mkGood && m.es.all enOk
theorem node_site (n : Int) : nodeB n = stSite n := by
  unfold nodeB stSite
  rw [Bool.eq_iff_iff]
  simp only [Bool.and_eq_true, decide_eq_true_eq]
  omega
theorem wOk_iff (m : Ms) : wOk m = true ↔ wField m 0 = true ∧ wField m 1 = true ∧ wField m 2 = true ∧ wField m 3 = true ∧ wField m 4 = true ∧ wField m 5 = true ∧ wField m 6 = true ∧ wField m 7 = true ∧ wField m 8 = true := by
  unfold wOk
  rw [show List.range 9 = [0, 1, 2, 3, 4, 5, 6, 7, 8] from rfl]
  simp only [List.all_cons, List.all_nil, Bool.and_true, Bool.and_eq_true]
theorem fi0 (m : Ms) : wField m 0 = true ↔ (wHas m.kd 0 = true ∨ m.pe = 0) ∧ stSite m.pe = true := by
  unfold wField
  cases h : wHas m.kd 0
  · simp only [Bool.false_eq_true, if_false, wNone, beq_iff_eq, false_or]
    exact ⟨fun e => ⟨e, by rw [e]; decide⟩, fun e => e.1⟩
  · simp only [if_true, wMay, true_or, true_and, node_site]
theorem fi1 (m : Ms) : wField m 1 = true ↔ (wHas m.kd 0 = true ∨ m.hp = 0) ∧ 0 ≤ m.hp ∧ m.hp ≤ 8 := by
  unfold wField
  rw [show wHas m.kd 1 = wHas m.kd 0 from rfl]
  cases h : wHas m.kd 0
  · simp only [Bool.false_eq_true, if_false, wNone, beq_iff_eq, false_or]
    omega
  · simp only [if_true, wMay, true_or, true_and, Bool.and_eq_true, decide_eq_true_eq]
theorem fi2 (m : Ms) : wField m 2 = true ↔ (wHas m.kd 2 = true ∨ m.hi = false) := by
  unfold wField
  cases h : wHas m.kd 2
  · simp [wNone]
  · simp [wMay]
theorem fi3 (m : Ms) : wField m 3 = true ↔ (wHas m.kd 3 = true ∨ ¬ 0 < (m.ps.length : Int)) ∧ (m.ps.length : Int) ≤ 8 ∧ m.ps.all stSite = true := by
  have e : nodeB = stSite := funext node_site
  unfold wField
  cases h : wHas m.kd 3
  · simp only [Bool.false_eq_true, if_false, wNone, beq_iff_eq, false_or]
    constructor
    · intro h0
      have : m.ps = [] := List.eq_nil_of_length_eq_zero (by omega)
      rw [this]; exact ⟨by simp, by simp, rfl⟩
    · intro h0; omega
  · simp only [if_true, wMay, true_or, true_and, Bool.and_eq_true, decide_eq_true_eq, e]
theorem fi4 (m : Ms) : wField m 4 = true ↔ (wHas m.kd 4 = true ∨ m.nu = 0) ∧ 0 ≤ m.nu ∧ m.nu ≤ 4294967295 := by
  unfold wField
  cases h : wHas m.kd 4
  · simp only [Bool.false_eq_true, if_false, wNone, beq_iff_eq, false_or]
    omega
  · simp only [if_true, wMay, true_or, true_and, Bool.and_eq_true, decide_eq_true_eq]
theorem fi5 (m : Ms) : wField m 5 = true ↔ (wHas m.kd 5 = true ∨ (m.su : Int) = 0) := by
  unfold wField
  cases h : wHas m.kd 5
  · simp [wNone]
  · simp [wMay]
theorem fi6 (m : Ms) : wField m 6 = true ↔ (wHas m.kd 6 = true ∨ isTop m.mr = true) ∧ (isTop m.mr || mkGood m.mr) = true := by
  unfold wField
  cases h : wHas m.kd 6
  · simp only [Bool.false_eq_true, if_false, wNone, false_or]
    exact ⟨fun e => ⟨e, by rw [e]; rfl⟩, fun e => e.1⟩
  · simp only [if_true, wMay, true_or, true_and]
theorem fi7 (m : Ms) : wField m 7 = true ↔ (mLo m.kd 7 ≤ (m.ms.length : Int) ∧ (m.ms.length : Int) ≤ mUp m.kd 7) ∧ m.ms.all mkGood = true := by
  unfold wField mLo mUp
  cases h : wHas m.kd 7
  · simp only [Bool.false_eq_true, if_false, wNone, beq_iff_eq]
    constructor
    · intro h0
      have : m.ms = [] := List.eq_nil_of_length_eq_zero (by omega)
      rw [this]; exact ⟨⟨by simp, by simp⟩, rfl⟩
    · intro h0; omega
  · simp only [if_true, wMay, manyB, Bool.and_eq_true, decide_eq_true_eq]
theorem fi8 (m : Ms) : wField m 8 = true ↔ (mLo m.kd 8 ≤ (m.es.length : Int) ∧ (m.es.length : Int) ≤ mUp m.kd 8) ∧ m.es.all enOk = true := by
  unfold wField mLo mUp
  cases h : wHas m.kd 8
  · simp only [Bool.false_eq_true, if_false]
    show ((m.es.length : Int) == 0) = true ↔ _
    simp only [beq_iff_eq]
    constructor
    · intro h0
      have : m.es = [] := List.eq_nil_of_length_eq_zero (by omega)
      rw [this]; exact ⟨⟨by simp, by simp⟩, rfl⟩
    · intro h0; omega
  · simp only [if_true]
    show (manyB (wLo m.kd) (wUp m.kd) m.es.length && m.es.all enOk) = true ↔ _
    simp only [manyB, Bool.and_eq_true, decide_eq_true_eq]
theorem fldA_iff (m : Ms) : (!fldA m) = true ↔ ((wHas m.kd 0 = true ∨ m.pe = 0) ∧ (wHas m.kd 0 = true ∨ m.hp = 0)) ∧ (wHas m.kd 2 = true ∨ m.hi = false) ∧ (wHas m.kd 3 = true ∨ ¬ 0 < (m.ps.length : Int)) := by
  unfold fldA
  have e1 : (m.pe != 0) = !decide (m.pe = 0) := by by_cases h : m.pe = 0 <;> simp [h]
  have e2 : (m.hp != 0) = !decide (m.hp = 0) := by by_cases h : m.hp = 0 <;> simp [h]
  rw [e1, e2]
  obtain ⟨p, hp⟩ : ∃ p, decide (m.pe = 0) = p := ⟨_, rfl⟩
  obtain ⟨q, hq⟩ : ∃ p, decide (m.hp = 0) = p := ⟨_, rfl⟩
  obtain ⟨r, hr⟩ : ∃ p, decide (0 < (m.ps.length : Int)) = p := ⟨_, rfl⟩
  have ip : (m.pe = 0) ↔ p = true := by rw [← hp]; exact decide_eq_true_iff.symm
  have iq : (m.hp = 0) ↔ q = true := by rw [← hq]; exact decide_eq_true_iff.symm
  have ir : (0 < (m.ps.length : Int)) ↔ r = true := by rw [← hr]; exact decide_eq_true_iff.symm
  rw [hp, hq, hr, ip, iq, ir]
  cases wHas m.kd 0 <;> cases wHas m.kd 2 <;> cases wHas m.kd 3 <;> cases m.hi <;> cases p <;> cases q <;> cases r <;> decide
theorem fldZ_iff (m : Ms) : fldZ m = true ↔ (wHas m.kd 4 = true ∨ m.nu = 0) ∧ (wHas m.kd 5 = true ∨ (m.su : Int) = 0) ∧ (wHas m.kd 6 = true ∨ isTop m.mr = true) := by
  unfold fldZ
  simp only [Bool.and_eq_true, Bool.or_eq_true, beq_iff_eq, and_assoc]
theorem docOk_eq (m : Ms) : docOk m = wOk m := by
  rw [Bool.eq_iff_iff, wOk_iff, fi0, fi1, fi2, fi3, fi4, fi5, fi6, fi7, fi8]
  unfold docOk docB cntB
  simp only [Bool.and_eq_true, fldA_iff, fldZ_iff, decide_eq_true_eq]
  constructor
  · rintro ⟨⟨⟨⟨⟨⟨⟨⟨⟨⟨⟨⟨⟨⟨a1, a2⟩, a3⟩, a4⟩, a5⟩, ⟨⟨b1, b1'⟩, b2, b3⟩, b4, b5, b6⟩, c1⟩, c2⟩, c3⟩, c4⟩, c5⟩, d1⟩, d2⟩, d3⟩, d4⟩
    exact ⟨⟨b1, c1⟩, ⟨b1', c2, c3⟩, b2, ⟨b3, a5, d2⟩, ⟨b4, c4, c5⟩, b5, ⟨b6, d1⟩, ⟨⟨a1, a2⟩, d3⟩, ⟨⟨a3, a4⟩, d4⟩⟩
  · rintro ⟨⟨b1, c1⟩, ⟨b1', c2, c3⟩, b2, ⟨b3, a5, d2⟩, ⟨b4, c4, c5⟩, b5, ⟨b6, d1⟩, ⟨⟨a1, a2⟩, d3⟩, ⟨⟨a3, a4⟩, d4⟩⟩
    exact ⟨⟨⟨⟨⟨⟨⟨⟨⟨⟨⟨⟨⟨⟨a1, a2⟩, a3⟩, a4⟩, a5⟩, ⟨⟨b1, b1'⟩, b2, b3⟩, b4, b5, b6⟩, c1⟩, c2⟩, c3⟩, c4⟩, c5⟩, d1⟩, d2⟩, d3⟩, d4⟩
theorem wGood_doc (m : Ms) : wGood m = if wKind m.kd = true then (if docOk m = true then 0 else 4) else 1 := by rw [docOk_eq]; rfl
end Go.Proofs.YtlieolehpmobfaaGreatDoor
end
section
namespace Go.Proofs.YtlieolehpmobfaaGreatDoor
open Go.RowKit
set_option linter.all false
set_option maxRecDepth 100000
set_option linter.unusedSimpArgs false
set_option maxHeartbeats 6400000 in
theorem rf_check (e : En) (w : World) :
    Calls Tryz.prog 59 #[.agg #[.string e.k, .string e.v, .bool e.d, .int .i64 e.s.c, .int .i64 e.s.s, .int .i64 e.a.c, .int .i64 e.a.s, .int .i64 e.p, .int .i64 e.g]] w fun E w' => E = .returned (.int .i64 (enCheck e)) ∧ Only none_ w w' := by
  have O := Lib.hid ((Only.refl none_ w).alloc (.cells #[.string e.k, .string e.v, .bool e.d, .int .i64 e.s.c, .int .i64 e.s.s, .int .i64 e.a.c, .int .i64 e.a.s, .int .i64 e.p, .int .i64 e.g] 123))
  have B := Lib.hid (Blk.new w 123 #[.string e.k, .string e.v, .bool e.d, .int .i64 e.s.c, .int .i64 e.s.s, .int .i64 e.a.c, .int .i64 e.a.s, .int .i64 e.p, .int .i64 e.g])
  have heq := fun w => neq_of (eq_ref_stamp w e.a e.s 9998)
  obtain ⟨g1, hg1⟩ : ∃ b, stGood ⟨e.s.c, e.s.s⟩ = b := ⟨_, rfl⟩
  obtain ⟨g2, hg2⟩ : ∃ b, stGood ⟨e.a.c, e.a.s⟩ = b := ⟨_, rfl⟩
  obtain ⟨lt, hlt⟩ : ∃ b, stLater ⟨e.s.c, e.s.s⟩ ⟨e.a.c, e.a.s⟩ = b := ⟨_, rfl⟩
  obtain ⟨q, hq⟩ : ∃ b, stEq e.a e.s = b := ⟨_, rfl⟩
  rw [hq] at heq
  have HC : Hid (enCheck e = if (decide (e.k.size < 1) || decide (16 < e.k.size)) = true then 9 else if (decide (32 < e.v.size) || (e.d && decide (0 < e.v.size))) = true then 10 else if (!(g1 && g2) || lt) = true then 1 else
      if (!(if e.d = true then decide (1 ≤ e.p) && decide (e.p ≤ 4095) && decide (0 ≤ e.g) && decide (e.g ≤ 2147483647) else q && e.p == 0 && e.g == 0)) = true then 1 else 0) := by
    rw [Hid, ← hg1, ← hg2, ← hlt, ← hq]; rfl
  have G1 := Lib.hid hg1
  have G2 := Lib.hid hg2
  have L := Lib.hid hlt
  clear hg1 hg2 hlt hq
  have tok : True := trivial
  obtain ⟨k, v, d, s, a, p, g⟩ := e
  simp only at *
  cases d
  all_goals
   go_enter Tryz.func59, Tryz.ntmps59
   go_wp2_with (first
     | (go_at_call 111; have _t := tok; refine (rf_good _ _ _).mono ?_; rintro E w1 ⟨rfl, o1⟩; rw [G1.out]
        have O1 := Lib.hid (O.out.trans o1)
        have B1 := Lib.hid (B.out.only o1 (fun h => h))
        have c2 := B1.out.cell_ (i := 2) rfl
        have c3 := B1.out.cell_ (i := 3) rfl
        have c4 := B1.out.cell_ (i := 4) rfl
        have c5 := B1.out.cell_ (i := 5) rfl
        have c6 := B1.out.cell_ (i := 6) rfl
        have c7 := B1.out.cell_ (i := 7) rfl
        have c8 := B1.out.cell_ (i := 8) rfl
        clear o1 tok)
     | (go_at_call 111; refine (rf_good _ _ _).mono ?_; rintro E w2 ⟨rfl, o2⟩; rw [G2.out]
        have O2 := Lib.hid (O1.out.trans o2)
        have B2 := Lib.hid (B1.out.only o2 (fun h => h))
        have d2 := B2.out.cell_ (i := 2) rfl
        have d3 := B2.out.cell_ (i := 3) rfl
        have d4 := B2.out.cell_ (i := 4) rfl
        have d5 := B2.out.cell_ (i := 5) rfl
        have d6 := B2.out.cell_ (i := 6) rfl
        have d7 := B2.out.cell_ (i := 7) rfl
        have d8 := B2.out.cell_ (i := 8) rfl
        clear o2)
     | (go_at_call 112; refine (rf_later _ _ _ _ _).mono ?_; rintro E w3 ⟨rfl, o3⟩; rw [L.out]
        have O3 := Lib.hid (O2.out.trans o3)
        have B3 := Lib.hid (B2.out.only o3 (fun h => h))
        have e2 := B3.out.cell_ (i := 2) rfl
        have e3 := B3.out.cell_ (i := 3) rfl
        have e4 := B3.out.cell_ (i := 4) rfl
        have e5 := B3.out.cell_ (i := 5) rfl
        have e6 := B3.out.cell_ (i := 6) rfl
        have e7 := B3.out.cell_ (i := 7) rfl
        have e8 := B3.out.cell_ (i := 8) rfl
        clear o3))
   all_goals
     go_ret
     refine ⟨congrArg (fun z => Ending.returned (.int .i64 z)) (Eq.symm ?_), ?_⟩
     · rw [HC.out]
       clear HC heq O B G1 G2 L
       try clear c2 c3 c4 c5 c6 c7 c8 O1 B1
       try clear d2 d3 d4 d5 d6 d7 d8 O2 B2
       try clear e2 e3 e4 e5 e6 e7 e8 O3 B3
       simp only [Bool.or_eq_true, Bool.and_eq_true, Bool.not_eq_true', Bool.or_eq_false_iff, Bool.and_eq_false_iff, decide_eq_true_eq, decide_eq_false_iff_not, Bool.false_eq_true, if_true, if_false, beq_iff_eq, beq_eq_false_iff_ne, bne_iff_ne, ne_eq, Bool.not_eq_true, bne_eq_false_iff_eq, false_and, true_and, and_true, and_false, or_false, false_or, or_true, true_or, not_true_eq_false, not_false_eq_true] at *
       (repeat' split) <;> first | rfl | omega | (exfalso; simp_all; done) | (exfalso; simp_all; omega)
     · first
         | exact O3.out
         | exact O2.out
         | exact O1.out
         | exact O.out
end Go.Proofs.YtlieolehpmobfaaGreatDoor
end
section
namespace Go.Proofs.YtlieolehpmobfaaGreatDoor
open Go.RowKit
set_option linter.all false
set_option maxRecDepth 100000
set_option maxHeartbeats 9600000 in
theorem rd_wgood (S : Nat → Prop) (m : Ms) (vp vm ve : Value) (w : World) (hl : Ml S m vp vm ve w) (hn : m.ps.length ≤ 4096 ∧ m.ms.length ≤ 4096 ∧ m.es.length ≤ 4096) :
    Calls Tryz.prog 15 #[.agg #[.int .i64 m.kd, .int .i64 m.pe, .int .i64 m.hp, .bool m.hi, vp, .int .i64 m.nu, .int .u64 (m.su : Int), .int .i64 m.mr.a.c, .int .i64 m.mr.a.s, .string m.mr.k, vm, ve]] w fun e w' => e = .returned (.int .i64 (wGood m)) ∧ Only none_ w w' := by
  obtain ⟨A1, c1, A2, c2, A3, c3, e1, e2, e3⟩ := hl.shape
  subst e1 e2 e3
  obtain ⟨w1, hw1⟩ : ∃ w1, w.alloc (.cells #[.int .i64 m.kd, .int .i64 m.pe, .int .i64 m.hp, .bool m.hi, .slice A1 m.ps.length c1, .int .i64 m.nu, .int .u64 (m.su : Int), .int .i64 m.mr.a.c, .int .i64 m.mr.a.s, .string m.mr.k, .slice A2 m.ms.length c2, .slice A3 m.es.length c3] 31) = w1 := ⟨_, rfl⟩
  have XB : Hid (Blk w1 w.heap.size 31 #[.int .i64 m.kd, .int .i64 m.pe, .int .i64 m.hp, .bool m.hi, .slice A1 m.ps.length c1, .int .i64 m.nu, .int .u64 (m.su : Int), .int .i64 m.mr.a.c, .int .i64 m.mr.a.s, .string m.mr.k, .slice A2 m.ms.length c2, .slice A3 m.es.length c3]) := by rw [Hid, ← hw1]; exact Blk.new w 31 #[.int .i64 m.kd, .int .i64 m.pe, .int .i64 m.hp, .bool m.hi, .slice A1 m.ps.length c1, .int .i64 m.nu, .int .u64 (m.su : Int), .int .i64 m.mr.a.c, .int .i64 m.mr.a.s, .string m.mr.k, .slice A2 m.ms.length c2, .slice A3 m.es.length c3]
  have OB : Hid (Only none_ w w1) := by rw [Hid, ← hw1]; exact (Only.refl none_ w).alloc _
  have HW := Lib.hid hw1
  have HL := Lib.hid (hl.keep OB.out)
  have HNN := Lib.hid hn
  have k0 := XB.out.cell_ (i := 0) rfl
  have HWG := Lib.hid (wGood_doc m)
  clear hw1 hl hn
  by_cases hk1 : m.kd < 1
  · have HX : Hid (wGood m = 1) := by rw [Hid, HWG.out, if_neg (by simp only [wKind, Bool.and_eq_true, decide_eq_true_eq]; omega)]
    go_enter Tryz.func15, Tryz.ntmps15
    go_upto_region 1 with fail
    rw [HW.out]
    go_wp2_with fail
    go_ret
    exact ⟨by rw [HX.out]; rfl, OB.out⟩
  by_cases hk2 : 19 < m.kd
  · have HX : Hid (wGood m = 1) := by rw [Hid, HWG.out, if_neg (by simp only [wKind, Bool.and_eq_true, decide_eq_true_eq]; omega)]
    go_enter Tryz.func15, Tryz.ntmps15
    go_upto_region 1 with fail
    rw [HW.out]
    go_wp2_with fail
    go_ret
    exact ⟨by rw [HX.out]; rfl, OB.out⟩
  have HG : Hid (wGood m = if docOk m = true then 0 else 4) := by rw [Hid, HWG.out, if_pos (by simp only [wKind, Bool.and_eq_true, decide_eq_true_eq]; omega)]
  have HDO : Hid (docOk m = (docB m && (isTop m.mr || mkGood m.mr) && m.ps.all stSite && m.ms.all mkGood && m.es.all enOk)) := rfl
  have HDB : Hid (docB m = (cntB m && (!fldA m && fldZ m) && stSite m.pe && decide (0 ≤ m.hp) && decide (m.hp ≤ 8) && decide (0 ≤ m.nu) && decide (m.nu ≤ 4294967295))) := rfl
  obtain ⟨db, hdb⟩ : ∃ b, docB m = b := ⟨_, rfl⟩
  rw [hdb] at HDO HDB
  clear hdb HWG
  go_enter Tryz.func15, Tryz.ntmps15
  go_upto_region 1 with fail
  rw [HW.out]
  go_upto_region 3 with fail
  clear HW
  go_cut [47] from 14 to 47 (fun s47 w' => s47 = .bool (!db) ∧ Only none_ w1 w')
  case rest =>
    obtain ⟨rfl, o3⟩ := hcut
    have P3 := Lib.hid o3
    clear o3 k0
    cases db
    · have HX : Hid (wGood m = 4) := by rw [Hid, HG.out, HDO.out]; rfl
      go_wp2_with fail
      go_ret
      exact ⟨by rw [HX.out]; rfl, OB.out.trans P3.out⟩
    · rw [Bool.true_and] at HDO
      have x3 := XB.out.only P3.out (fun h => h)
      have X3 := Lib.hid x3
      have j7 := x3.cell_ (i := 7) rfl
      have j8 := x3.cell_ (i := 8) rfl
      have j9 := x3.cell_ (i := 9) rfl
      clear x3
      go_upto_region 5 with fail
      go_cut [57] from 48 to 57 (fun s57 w' => s57 = .bool (!(isTop m.mr || mkGood m.mr)) ∧ Only none_ wc w')
      case rest =>
        obtain ⟨rfl, o5⟩ := hcut
        have P5 := Lib.hid (P3.out.trans o5)
        clear o5 j7 j8 j9 X3
        obtain ⟨mb, hmb⟩ : ∃ b, (isTop m.mr || mkGood m.mr) = b := ⟨_, rfl⟩
        rw [hmb] at HDO ⊢
        clear hmb
        cases mb
        · have HX : Hid (wGood m = 4) := by rw [Hid, HG.out, HDO.out]; rfl
          go_wp2_with fail
          go_ret
          exact ⟨by rw [HX.out]; rfl, OB.out.trans P5.out⟩
        · rw [Bool.true_and] at HDO
          go_wp2_with fail
          have hcl := (HL.out.keep P5.out).p
          obtain ⟨n, hn⟩ : ∃ n, m.ps.length = n := ⟨_, rfl⟩
          have HN := Lib.hid hn
          rw [hn] at hcl
          have HCL := Lib.hid hcl
          have hn9 : n ≤ 4096 := by have := HNN.out.1; omega
          have kz4 := (XB.out.only P5.out (fun h => h)).cell_ (i := 4) rfl
          rw [hn] at kz4
          clear hcl hn
          go_wp2_with fail
          go_loopw [3] (fun sl wr => ∃ i : Nat, i ≤ n ∧ sl = .int .i64 i ∧ Only none_ w1 wr ∧ (m.ps.take i).all stSite = true) (fun sl _ => n - (intOf sl).toNat)
          case atStart => exact ⟨0, by omega, rfl, P5.out, by simp⟩
          case round =>
            obtain ⟨i, hi, rfl, o, hall⟩ := hrel
            have HAL := Lib.hid hall
            have OR := Lib.hid o
            have kc : wr.cell? ⟨w.heap.size, 4, none⟩ = some (.slice A1 n c1) := by rw [← HN.out]; exact (XB.out.only o (fun h => h)).cell_ (i := 4) rfl
            clear hall
            by_cases hlt : i < n
            · have hcl := (HL.out.keep o).p
              rw [HN.out] at hcl
              obtain ⟨x, hx⟩ : ∃ x, m.ps[i]? = some x := ⟨_, List.getElem?_eq_getElem (by have := HN.out; omega)⟩
              obtain ⟨b, off, hA, _, _, hc⟩ := in_elem intI_len (by decide) hcl HN.out hx
              subst hA
              have q0 := hc _ (Only.refl none_ _) 0 (.int .i64 x) rfl
              rw [Nat.mul_one, Nat.add_zero] at q0
              have HXX := Lib.hid hx
              obtain ⟨pz, hp⟩ : ∃ pb, stSite x = pb := ⟨_, rfl⟩
              have HP := Lib.hid hp
              clear o hc hp hx hcl
              cases pz
              · have HEO : Hid (stSite x = false) := HP.out
                go_wp2_with (first | (go_at_call 57; refine (rf_site _ _).mono ?_; rw [HP.out]; rintro E w9 ⟨rfl, rfl⟩; have O9 := OR))
                go_ret
                have hf : m.ps.all stSite = false := by
                  rw [Bool.eq_false_iff]
                  intro ha
                  have := List.all_eq_true.1 ha x (List.mem_of_getElem? HXX.out)
                  rw [HEO.out] at this; cases this
                have HX : wGood m = 4 := by rw [HG.out, HDO.out, hf]; simp
                exact ⟨by rw [HX]; rfl, OB.out.trans O9.out⟩
              · have HEO : Hid (stSite x = true) := HP.out
                go_wp2_with (first | (go_at_call 57; refine (rf_site _ _).mono ?_; rw [HP.out]; rintro E w9 ⟨rfl, rfl⟩; have O9 := OR))
                go_roundw
                case rel => exact ⟨i + 1, by omega, by go_num, O9.out, by
                  rw [List.take_add_one, HXX.out]
                  simp only [Option.toList_some, List.all_append, HAL.out, List.all_cons, List.all_nil, HEO.out]; rfl⟩
                case measure => simp [intOf]; omega
            · have hin : m.ps.take i = m.ps := List.take_of_length_le (by have := HN.out; omega)
              rw [hin] at HAL
              have PA := OR
              clear o hin
              have hge : ¬ ((i : Int) < (n : Int)) := by omega
              rw [HAL.out] at HDO
              rw [Bool.true_and] at HDO
              have hcl := (HL.out.keep PA.out).q
              obtain ⟨n, hn⟩ : ∃ n, m.ms.length = n := ⟨_, rfl⟩
              have HN := Lib.hid hn
              rw [hn] at hcl
              have HCL := Lib.hid hcl
              have hn9 : n ≤ 4096 := by have := HNN.out.2.1; omega
              have kz10 := (XB.out.only PA.out (fun h => h)).cell_ (i := 10) rfl
              rw [hn] at kz10
              clear hcl hn
              go_wp2_with fail
              go_loopw [4] (fun sl wr => ∃ i : Nat, i ≤ n ∧ sl = .int .i64 i ∧ Only none_ w1 wr ∧ (m.ms.take i).all mkGood = true) (fun sl _ => n - (intOf sl).toNat)
              case atStart => exact ⟨0, by omega, rfl, PA.out, by simp⟩
              case round =>
                obtain ⟨i, hi, rfl, o, hall⟩ := hrel
                have HAL := Lib.hid hall
                have OR := Lib.hid o
                have kc : wr.cell? ⟨w.heap.size, 10, none⟩ = some (.slice A2 n c2) := by rw [← HN.out]; exact (XB.out.only o (fun h => h)).cell_ (i := 10) rfl
                clear hall
                by_cases hlt : i < n
                · have hcl := (HL.out.keep o).q
                  rw [HN.out] at hcl
                  obtain ⟨x, hx⟩ : ∃ x, m.ms[i]? = some x := ⟨_, List.getElem?_eq_getElem (by have := HN.out; omega)⟩
                  obtain ⟨b, off, hA, _, _, hc⟩ := in_elem mkI_len (by decide) hcl HN.out hx
                  subst hA
                  have HC : Hid (∀ j u, (#[.int .i64 x.a.c, .int .i64 x.a.s, .string x.k] : Array Value).toList[j]? = some u → wr.cell? ⟨b, off + i * 3 + j, none⟩ = some u) := fun j u hu => hc _ (Only.refl none_ _) j u hu
                  have HXX := Lib.hid hx
                  obtain ⟨pz, hp⟩ : ∃ pb, mkGood x = pb := ⟨_, rfl⟩
                  have HP := Lib.hid hp
                  clear o hc hp hx hcl
                  cases pz
                  · have HEO : Hid (mkGood x = false) := HP.out
                    go_wp2_with (first | (refine wpl_piece rfl 27 _ rfl b (off + i * 3) rfl #[.int .i64 x.a.c, .int .i64 x.a.s, .string x.k] _ HC.out Tryz.underlying27 rfl (by kernel_rfl) ?_) | (go_at_call 58; refine (rd_gmark x _).mono ?_; rw [HP.out]; rintro E w9 ⟨rfl, o9⟩; have O9 := Lib.hid (OR.out.trans o9); clear o9))
                    go_ret
                    have hf : m.ms.all mkGood = false := by
                      rw [Bool.eq_false_iff]
                      intro ha
                      have := List.all_eq_true.1 ha x (List.mem_of_getElem? HXX.out)
                      rw [HEO.out] at this; cases this
                    have HX : wGood m = 4 := by rw [HG.out, HDO.out, hf]; simp
                    exact ⟨by rw [HX]; rfl, OB.out.trans O9.out⟩
                  · have HEO : Hid (mkGood x = true) := HP.out
                    go_wp2_with (first | (refine wpl_piece rfl 27 _ rfl b (off + i * 3) rfl #[.int .i64 x.a.c, .int .i64 x.a.s, .string x.k] _ HC.out Tryz.underlying27 rfl (by kernel_rfl) ?_) | (go_at_call 58; refine (rd_gmark x _).mono ?_; rw [HP.out]; rintro E w9 ⟨rfl, o9⟩; have O9 := Lib.hid (OR.out.trans o9); clear o9))
                    go_roundw
                    case rel => exact ⟨i + 1, by omega, by go_num, O9.out, by
                      rw [List.take_add_one, HXX.out]
                      simp only [Option.toList_some, List.all_append, HAL.out, List.all_cons, List.all_nil, HEO.out]; rfl⟩
                    case measure => simp [intOf]; omega
                · have hin : m.ms.take i = m.ms := List.take_of_length_le (by have := HN.out; omega)
                  rw [hin] at HAL
                  have PB := OR
                  clear o hin
                  have hge : ¬ ((i : Int) < (n : Int)) := by omega
                  rw [HAL.out] at HDO
                  rw [Bool.true_and] at HDO
                  have hcl := (HL.out.keep PB.out).r
                  obtain ⟨n, hn⟩ : ∃ n, m.es.length = n := ⟨_, rfl⟩
                  have HN := Lib.hid hn
                  rw [hn] at hcl
                  have HCL := Lib.hid hcl
                  have hn9 : n ≤ 4096 := by have := HNN.out.2.2; omega
                  have kz11 := (XB.out.only PB.out (fun h => h)).cell_ (i := 11) rfl
                  rw [hn] at kz11
                  clear hcl hn
                  go_wp2_with fail
                  go_loopw [5] (fun sl wr => ∃ i : Nat, i ≤ n ∧ sl = .int .i64 i ∧ Only none_ w1 wr ∧ (m.es.take i).all enOk = true) (fun sl _ => n - (intOf sl).toNat)
                  case atStart => exact ⟨0, by omega, rfl, PB.out, by simp⟩
                  case round =>
                    obtain ⟨i, hi, rfl, o, hall⟩ := hrel
                    have HAL := Lib.hid hall
                    have OR := Lib.hid o
                    have kc : wr.cell? ⟨w.heap.size, 11, none⟩ = some (.slice A3 n c3) := by rw [← HN.out]; exact (XB.out.only o (fun h => h)).cell_ (i := 11) rfl
                    clear hall
                    by_cases hlt : i < n
                    · have hcl := (HL.out.keep o).r
                      rw [HN.out] at hcl
                      obtain ⟨x, hx⟩ : ∃ x, m.es[i]? = some x := ⟨_, List.getElem?_eq_getElem (by have := HN.out; omega)⟩
                      obtain ⟨b, off, hA, _, _, hc⟩ := in_elem enRow_length (by decide) hcl HN.out hx
                      subst hA
                      have HC : Hid (∀ j u, (#[.string x.k, .string x.v, .bool x.d, .int .i64 x.s.c, .int .i64 x.s.s, .int .i64 x.a.c, .int .i64 x.a.s, .int .i64 x.p, .int .i64 x.g] : Array Value).toList[j]? = some u → wr.cell? ⟨b, off + i * 9 + j, none⟩ = some u) := fun j u hu => hc _ (Only.refl none_ _) j u hu
                      have HXX := Lib.hid hx
                      obtain ⟨pz, hp⟩ : ∃ pb, enCheck x = pb := ⟨_, rfl⟩
                      have HP := Lib.hid hp
                      clear o hc hp hx hcl
                      by_cases hpz : pz = 0
                      · have hpb : (pz != 0) = false := by simp [hpz]
                        have HEO : Hid (enOk x = true) := by rw [Hid, enOk, HP.out, hpz]; rfl
                        clear hpz
                        go_wp2_with (first | (refine wpl_piece rfl 123 _ rfl b (off + i * 9) rfl #[.string x.k, .string x.v, .bool x.d, .int .i64 x.s.c, .int .i64 x.s.s, .int .i64 x.a.c, .int .i64 x.a.s, .int .i64 x.p, .int .i64 x.g] _ HC.out Tryz.underlying123 rfl (by kernel_rfl) ?_) | (go_at_call 59; refine (rf_check x _).mono ?_; rw [HP.out]; rintro E w9 ⟨rfl, o9⟩; have O9 := Lib.hid (OR.out.trans o9); clear o9))
                        go_roundw
                        case rel => exact ⟨i + 1, by omega, by go_num, O9.out, by
                          rw [List.take_add_one, HXX.out]
                          simp only [Option.toList_some, List.all_append, HAL.out, List.all_cons, List.all_nil, HEO.out]; rfl⟩
                        case measure => simp [intOf]; omega
                      · have hpb : (pz != 0) = true := by simp [hpz]
                        have HEO : Hid (enOk x = false) := by rw [Hid, enOk, HP.out]; simpa using hpz
                        clear hpz
                        go_wp2_with (first | (refine wpl_piece rfl 123 _ rfl b (off + i * 9) rfl #[.string x.k, .string x.v, .bool x.d, .int .i64 x.s.c, .int .i64 x.s.s, .int .i64 x.a.c, .int .i64 x.a.s, .int .i64 x.p, .int .i64 x.g] _ HC.out Tryz.underlying123 rfl (by kernel_rfl) ?_) | (go_at_call 59; refine (rf_check x _).mono ?_; rw [HP.out]; rintro E w9 ⟨rfl, o9⟩; have O9 := Lib.hid (OR.out.trans o9); clear o9))
                        go_ret
                        have hf : m.es.all enOk = false := by
                          rw [Bool.eq_false_iff]
                          intro ha
                          have := List.all_eq_true.1 ha x (List.mem_of_getElem? HXX.out)
                          rw [HEO.out] at this; cases this
                        have HX : wGood m = 4 := by rw [HG.out, HDO.out, hf]; simp
                        exact ⟨by rw [HX]; rfl, OB.out.trans O9.out⟩
                    · have hin : m.es.take i = m.es := List.take_of_length_le (by have := HN.out; omega)
                      rw [hin] at HAL
                      have PC := OR
                      clear o hin
                      have hge : ¬ ((i : Int) < (n : Int)) := by omega
                      rw [HAL.out] at HDO
                      have HX : Hid (wGood m = 0) := by rw [Hid, HG.out, HDO.out]; rfl
                      go_wp2_with fail
                      go_ret
                      exact ⟨by rw [HX.out]; rfl, OB.out.trans PC.out⟩
      case first =>
        obtain ⟨tb, htb⟩ : ∃ b, isTop m.mr = b := ⟨_, rfl⟩
        have HT := Lib.hid htb
        have eT : ∀ w, (binOp .neq 27 (.agg #[.int .i64 m.mr.a.c, .int .i64 m.mr.a.s, .string m.mr.k]) (.agg #[.int .i64 0, .int .i64 0, .string ⟨#[]⟩])).run Tryz.prog w = .ok (.bool (!mkSame m.mr mkTop)) w := fun w => neqR w m.mr mkTop
        rw [← isTop_same, htb] at eT
        clear htb
        cases tb
        · go_wp2_with (first
            | (go_at_call 58; refine (rd_gmark m.mr _).mono ?_; rintro E w8 ⟨rfl, o8⟩; have O8 := Lib.hid o8; clear o8))
          go_meet
          case rel => exact ⟨by rw [HT.out, Bool.false_or], O8.out⟩
        · go_wp2_with fail
          go_meet
          case rel => exact ⟨by rw [HT.out]; rfl, Only.refl _ _⟩
  case first =>
    obtain ⟨cb, hcb⟩ : ∃ b, cntB m = b := ⟨_, rfl⟩
    have HCB := Lib.hid hcb
    obtain ⟨fb, hfb⟩ : ∃ b, (!fldA m && fldZ m) = b := ⟨_, rfl⟩
    have HFB := Lib.hid hfb
    obtain ⟨sb, hsb⟩ : ∃ b, stSite m.pe = b := ⟨_, rfl⟩
    have HSB := Lib.hid hsb
    clear hcb hfb hsb
    cases cb
    · go_wp2_with (first
        | (refine wpl_load rfl 31 _ rfl w.heap.size rfl 31 #[.int .i64 m.kd, .int .i64 m.pe, .int .i64 m.hp, .bool m.hi, .slice A1 m.ps.length c1, .int .i64 m.nu, .int .u64 (m.su : Int), .int .i64 m.mr.a.c, .int .i64 m.mr.a.s, .string m.mr.k, .slice A2 m.ms.length c2, .slice A3 m.es.length c3] _ XB.out Tryz.underlying31 rfl (by kernel_rfl) ?_)
        | (go_at_call 55; refine (rd_counts _ m _ _ _ _ HL.out).mono ?_; rw [HCB.out]; rintro E w7 ⟨rfl, o7⟩
           have O7 := Lib.hid o7
           have x7 := XB.out.only o7 (fun h => h)
           have y0 := x7.cell_ (i := 0) rfl
           have y1 := x7.cell_ (i := 1) rfl
           have y2 := x7.cell_ (i := 2) rfl
           have y3 := x7.cell_ (i := 3) rfl
           have y4 := x7.cell_ (i := 4) rfl
           have y5 := x7.cell_ (i := 5) rfl
           have y6 := x7.cell_ (i := 6) rfl
           have y7 := x7.cell_ (i := 7) rfl
           have y8 := x7.cell_ (i := 8) rfl
           have y9 := x7.cell_ (i := 9) rfl
           have y10 := x7.cell_ (i := 10) rfl
           have y11 := x7.cell_ (i := 11) rfl
           clear o7 x7)
        | (go_at_call 56; refine (rd_fields _ m _ _ _ _ (HL.out.keep O7.out)).mono ?_; rw [HFB.out]; rintro E w8 ⟨rfl, o8⟩
           have O8 := Lib.hid (O7.out.trans o8)
           have x8 := XB.out.only O8.out (fun h => h)
           have v1 := x8.cell_ (i := 1) rfl
           have v2 := x8.cell_ (i := 2) rfl
           have v5 := x8.cell_ (i := 5) rfl
           clear o8 x8)
        | (go_at_call 57; refine (rf_site _ _).mono ?_; rw [HSB.out]; rintro E w9 ⟨rfl, rfl⟩))
      go_meet
      case rel => exact ⟨by rw [HDB.out, HCB.out]; simp, O7.out⟩
    cases fb
    · go_wp2_with (first
        | (refine wpl_load rfl 31 _ rfl w.heap.size rfl 31 #[.int .i64 m.kd, .int .i64 m.pe, .int .i64 m.hp, .bool m.hi, .slice A1 m.ps.length c1, .int .i64 m.nu, .int .u64 (m.su : Int), .int .i64 m.mr.a.c, .int .i64 m.mr.a.s, .string m.mr.k, .slice A2 m.ms.length c2, .slice A3 m.es.length c3] _ XB.out Tryz.underlying31 rfl (by kernel_rfl) ?_)
        | (go_at_call 55; refine (rd_counts _ m _ _ _ _ HL.out).mono ?_; rw [HCB.out]; rintro E w7 ⟨rfl, o7⟩
           have O7 := Lib.hid o7
           have x7 := XB.out.only o7 (fun h => h)
           have y0 := x7.cell_ (i := 0) rfl
           have y1 := x7.cell_ (i := 1) rfl
           have y2 := x7.cell_ (i := 2) rfl
           have y3 := x7.cell_ (i := 3) rfl
           have y4 := x7.cell_ (i := 4) rfl
           have y5 := x7.cell_ (i := 5) rfl
           have y6 := x7.cell_ (i := 6) rfl
           have y7 := x7.cell_ (i := 7) rfl
           have y8 := x7.cell_ (i := 8) rfl
           have y9 := x7.cell_ (i := 9) rfl
           have y10 := x7.cell_ (i := 10) rfl
           have y11 := x7.cell_ (i := 11) rfl
           clear o7 x7)
        | (go_at_call 56; refine (rd_fields _ m _ _ _ _ (HL.out.keep O7.out)).mono ?_; rw [HFB.out]; rintro E w8 ⟨rfl, o8⟩
           have O8 := Lib.hid (O7.out.trans o8)
           have x8 := XB.out.only O8.out (fun h => h)
           have v1 := x8.cell_ (i := 1) rfl
           have v2 := x8.cell_ (i := 2) rfl
           have v5 := x8.cell_ (i := 5) rfl
           clear o8 x8)
        | (go_at_call 57; refine (rf_site _ _).mono ?_; rw [HSB.out]; rintro E w9 ⟨rfl, rfl⟩))
      go_meet
      case rel => exact ⟨by rw [HDB.out, HCB.out, HFB.out]; simp, O8.out⟩
    cases sb
    · go_wp2_with (first
        | (refine wpl_load rfl 31 _ rfl w.heap.size rfl 31 #[.int .i64 m.kd, .int .i64 m.pe, .int .i64 m.hp, .bool m.hi, .slice A1 m.ps.length c1, .int .i64 m.nu, .int .u64 (m.su : Int), .int .i64 m.mr.a.c, .int .i64 m.mr.a.s, .string m.mr.k, .slice A2 m.ms.length c2, .slice A3 m.es.length c3] _ XB.out Tryz.underlying31 rfl (by kernel_rfl) ?_)
        | (go_at_call 55; refine (rd_counts _ m _ _ _ _ HL.out).mono ?_; rw [HCB.out]; rintro E w7 ⟨rfl, o7⟩
           have O7 := Lib.hid o7
           have x7 := XB.out.only o7 (fun h => h)
           have y0 := x7.cell_ (i := 0) rfl
           have y1 := x7.cell_ (i := 1) rfl
           have y2 := x7.cell_ (i := 2) rfl
           have y3 := x7.cell_ (i := 3) rfl
           have y4 := x7.cell_ (i := 4) rfl
           have y5 := x7.cell_ (i := 5) rfl
           have y6 := x7.cell_ (i := 6) rfl
           have y7 := x7.cell_ (i := 7) rfl
           have y8 := x7.cell_ (i := 8) rfl
           have y9 := x7.cell_ (i := 9) rfl
           have y10 := x7.cell_ (i := 10) rfl
           have y11 := x7.cell_ (i := 11) rfl
           clear o7 x7)
        | (go_at_call 56; refine (rd_fields _ m _ _ _ _ (HL.out.keep O7.out)).mono ?_; rw [HFB.out]; rintro E w8 ⟨rfl, o8⟩
           have O8 := Lib.hid (O7.out.trans o8)
           have x8 := XB.out.only O8.out (fun h => h)
           have v1 := x8.cell_ (i := 1) rfl
           have v2 := x8.cell_ (i := 2) rfl
           have v5 := x8.cell_ (i := 5) rfl
           clear o8 x8)
        | (go_at_call 57; refine (rf_site _ _).mono ?_; rw [HSB.out]; rintro E w9 ⟨rfl, rfl⟩))
      go_meet
      case rel => exact ⟨by rw [HDB.out, HCB.out, HFB.out, HSB.out]; simp, O8.out⟩
    by_cases h1 : ¬ (0 ≤ m.hp)
    · have Gh1 := Lib.hid (decide_eq_false h1)
      have gh1 := h1
      simp only [Int.not_le] at gh1
      go_wp2_with (first
        | (refine wpl_load rfl 31 _ rfl w.heap.size rfl 31 #[.int .i64 m.kd, .int .i64 m.pe, .int .i64 m.hp, .bool m.hi, .slice A1 m.ps.length c1, .int .i64 m.nu, .int .u64 (m.su : Int), .int .i64 m.mr.a.c, .int .i64 m.mr.a.s, .string m.mr.k, .slice A2 m.ms.length c2, .slice A3 m.es.length c3] _ XB.out Tryz.underlying31 rfl (by kernel_rfl) ?_)
        | (go_at_call 55; refine (rd_counts _ m _ _ _ _ HL.out).mono ?_; rw [HCB.out]; rintro E w7 ⟨rfl, o7⟩
           have O7 := Lib.hid o7
           have x7 := XB.out.only o7 (fun h => h)
           have y0 := x7.cell_ (i := 0) rfl
           have y1 := x7.cell_ (i := 1) rfl
           have y2 := x7.cell_ (i := 2) rfl
           have y3 := x7.cell_ (i := 3) rfl
           have y4 := x7.cell_ (i := 4) rfl
           have y5 := x7.cell_ (i := 5) rfl
           have y6 := x7.cell_ (i := 6) rfl
           have y7 := x7.cell_ (i := 7) rfl
           have y8 := x7.cell_ (i := 8) rfl
           have y9 := x7.cell_ (i := 9) rfl
           have y10 := x7.cell_ (i := 10) rfl
           have y11 := x7.cell_ (i := 11) rfl
           clear o7 x7)
        | (go_at_call 56; refine (rd_fields _ m _ _ _ _ (HL.out.keep O7.out)).mono ?_; rw [HFB.out]; rintro E w8 ⟨rfl, o8⟩
           have O8 := Lib.hid (O7.out.trans o8)
           have x8 := XB.out.only O8.out (fun h => h)
           have v1 := x8.cell_ (i := 1) rfl
           have v2 := x8.cell_ (i := 2) rfl
           have v5 := x8.cell_ (i := 5) rfl
           clear o8 x8)
        | (go_at_call 57; refine (rf_site _ _).mono ?_; rw [HSB.out]; rintro E w9 ⟨rfl, rfl⟩))
      go_meet
      case rel => exact ⟨by rw [HDB.out, HCB.out, HFB.out, HSB.out, Gh1.out]; simp, O8.out⟩
    rw [Classical.not_not] at h1
    have Gh1 := Lib.hid (decide_eq_true h1)
    by_cases h2 : ¬ (m.hp ≤ 8)
    · have Gh2 := Lib.hid (decide_eq_false h2)
      have gh2 := h2
      simp only [Int.not_le] at gh2
      go_wp2_with (first
        | (refine wpl_load rfl 31 _ rfl w.heap.size rfl 31 #[.int .i64 m.kd, .int .i64 m.pe, .int .i64 m.hp, .bool m.hi, .slice A1 m.ps.length c1, .int .i64 m.nu, .int .u64 (m.su : Int), .int .i64 m.mr.a.c, .int .i64 m.mr.a.s, .string m.mr.k, .slice A2 m.ms.length c2, .slice A3 m.es.length c3] _ XB.out Tryz.underlying31 rfl (by kernel_rfl) ?_)
        | (go_at_call 55; refine (rd_counts _ m _ _ _ _ HL.out).mono ?_; rw [HCB.out]; rintro E w7 ⟨rfl, o7⟩
           have O7 := Lib.hid o7
           have x7 := XB.out.only o7 (fun h => h)
           have y0 := x7.cell_ (i := 0) rfl
           have y1 := x7.cell_ (i := 1) rfl
           have y2 := x7.cell_ (i := 2) rfl
           have y3 := x7.cell_ (i := 3) rfl
           have y4 := x7.cell_ (i := 4) rfl
           have y5 := x7.cell_ (i := 5) rfl
           have y6 := x7.cell_ (i := 6) rfl
           have y7 := x7.cell_ (i := 7) rfl
           have y8 := x7.cell_ (i := 8) rfl
           have y9 := x7.cell_ (i := 9) rfl
           have y10 := x7.cell_ (i := 10) rfl
           have y11 := x7.cell_ (i := 11) rfl
           clear o7 x7)
        | (go_at_call 56; refine (rd_fields _ m _ _ _ _ (HL.out.keep O7.out)).mono ?_; rw [HFB.out]; rintro E w8 ⟨rfl, o8⟩
           have O8 := Lib.hid (O7.out.trans o8)
           have x8 := XB.out.only O8.out (fun h => h)
           have v1 := x8.cell_ (i := 1) rfl
           have v2 := x8.cell_ (i := 2) rfl
           have v5 := x8.cell_ (i := 5) rfl
           clear o8 x8)
        | (go_at_call 57; refine (rf_site _ _).mono ?_; rw [HSB.out]; rintro E w9 ⟨rfl, rfl⟩))
      go_meet
      case rel => exact ⟨by rw [HDB.out, HCB.out, HFB.out, HSB.out, Gh1.out, Gh2.out]; simp, O8.out⟩
    rw [Classical.not_not] at h2
    have Gh2 := Lib.hid (decide_eq_true h2)
    by_cases h3 : ¬ (0 ≤ m.nu)
    · have Gh3 := Lib.hid (decide_eq_false h3)
      have gh3 := h3
      simp only [Int.not_le] at gh3
      go_wp2_with (first
        | (refine wpl_load rfl 31 _ rfl w.heap.size rfl 31 #[.int .i64 m.kd, .int .i64 m.pe, .int .i64 m.hp, .bool m.hi, .slice A1 m.ps.length c1, .int .i64 m.nu, .int .u64 (m.su : Int), .int .i64 m.mr.a.c, .int .i64 m.mr.a.s, .string m.mr.k, .slice A2 m.ms.length c2, .slice A3 m.es.length c3] _ XB.out Tryz.underlying31 rfl (by kernel_rfl) ?_)
        | (go_at_call 55; refine (rd_counts _ m _ _ _ _ HL.out).mono ?_; rw [HCB.out]; rintro E w7 ⟨rfl, o7⟩
           have O7 := Lib.hid o7
           have x7 := XB.out.only o7 (fun h => h)
           have y0 := x7.cell_ (i := 0) rfl
           have y1 := x7.cell_ (i := 1) rfl
           have y2 := x7.cell_ (i := 2) rfl
           have y3 := x7.cell_ (i := 3) rfl
           have y4 := x7.cell_ (i := 4) rfl
           have y5 := x7.cell_ (i := 5) rfl
           have y6 := x7.cell_ (i := 6) rfl
           have y7 := x7.cell_ (i := 7) rfl
           have y8 := x7.cell_ (i := 8) rfl
           have y9 := x7.cell_ (i := 9) rfl
           have y10 := x7.cell_ (i := 10) rfl
           have y11 := x7.cell_ (i := 11) rfl
           clear o7 x7)
        | (go_at_call 56; refine (rd_fields _ m _ _ _ _ (HL.out.keep O7.out)).mono ?_; rw [HFB.out]; rintro E w8 ⟨rfl, o8⟩
           have O8 := Lib.hid (O7.out.trans o8)
           have x8 := XB.out.only O8.out (fun h => h)
           have v1 := x8.cell_ (i := 1) rfl
           have v2 := x8.cell_ (i := 2) rfl
           have v5 := x8.cell_ (i := 5) rfl
           clear o8 x8)
        | (go_at_call 57; refine (rf_site _ _).mono ?_; rw [HSB.out]; rintro E w9 ⟨rfl, rfl⟩))
      go_meet
      case rel => exact ⟨by rw [HDB.out, HCB.out, HFB.out, HSB.out, Gh1.out, Gh2.out, Gh3.out]; simp, O8.out⟩
    rw [Classical.not_not] at h3
    have Gh3 := Lib.hid (decide_eq_true h3)
    by_cases h4 : ¬ (m.nu ≤ 4294967295)
    · have Gh4 := Lib.hid (decide_eq_false h4)
      have gh4 := h4
      simp only [Int.not_le] at gh4
      go_wp2_with (first
        | (refine wpl_load rfl 31 _ rfl w.heap.size rfl 31 #[.int .i64 m.kd, .int .i64 m.pe, .int .i64 m.hp, .bool m.hi, .slice A1 m.ps.length c1, .int .i64 m.nu, .int .u64 (m.su : Int), .int .i64 m.mr.a.c, .int .i64 m.mr.a.s, .string m.mr.k, .slice A2 m.ms.length c2, .slice A3 m.es.length c3] _ XB.out Tryz.underlying31 rfl (by kernel_rfl) ?_)
        | (go_at_call 55; refine (rd_counts _ m _ _ _ _ HL.out).mono ?_; rw [HCB.out]; rintro E w7 ⟨rfl, o7⟩
           have O7 := Lib.hid o7
           have x7 := XB.out.only o7 (fun h => h)
           have y0 := x7.cell_ (i := 0) rfl
           have y1 := x7.cell_ (i := 1) rfl
           have y2 := x7.cell_ (i := 2) rfl
           have y3 := x7.cell_ (i := 3) rfl
           have y4 := x7.cell_ (i := 4) rfl
           have y5 := x7.cell_ (i := 5) rfl
           have y6 := x7.cell_ (i := 6) rfl
           have y7 := x7.cell_ (i := 7) rfl
           have y8 := x7.cell_ (i := 8) rfl
           have y9 := x7.cell_ (i := 9) rfl
           have y10 := x7.cell_ (i := 10) rfl
           have y11 := x7.cell_ (i := 11) rfl
           clear o7 x7)
        | (go_at_call 56; refine (rd_fields _ m _ _ _ _ (HL.out.keep O7.out)).mono ?_; rw [HFB.out]; rintro E w8 ⟨rfl, o8⟩
           have O8 := Lib.hid (O7.out.trans o8)
           have x8 := XB.out.only O8.out (fun h => h)
           have v1 := x8.cell_ (i := 1) rfl
           have v2 := x8.cell_ (i := 2) rfl
           have v5 := x8.cell_ (i := 5) rfl
           clear o8 x8)
        | (go_at_call 57; refine (rf_site _ _).mono ?_; rw [HSB.out]; rintro E w9 ⟨rfl, rfl⟩))
      go_meet
      case rel => exact ⟨by rw [HDB.out, HCB.out, HFB.out, HSB.out, Gh1.out, Gh2.out, Gh3.out, Gh4.out]; simp, O8.out⟩
    rw [Classical.not_not] at h4
    have Gh4 := Lib.hid (decide_eq_true h4)
    go_wp2_with (first
      | (refine wpl_load rfl 31 _ rfl w.heap.size rfl 31 #[.int .i64 m.kd, .int .i64 m.pe, .int .i64 m.hp, .bool m.hi, .slice A1 m.ps.length c1, .int .i64 m.nu, .int .u64 (m.su : Int), .int .i64 m.mr.a.c, .int .i64 m.mr.a.s, .string m.mr.k, .slice A2 m.ms.length c2, .slice A3 m.es.length c3] _ XB.out Tryz.underlying31 rfl (by kernel_rfl) ?_)
      | (go_at_call 55; refine (rd_counts _ m _ _ _ _ HL.out).mono ?_; rw [HCB.out]; rintro E w7 ⟨rfl, o7⟩
         have O7 := Lib.hid o7
         have x7 := XB.out.only o7 (fun h => h)
         have y0 := x7.cell_ (i := 0) rfl
         have y1 := x7.cell_ (i := 1) rfl
         have y2 := x7.cell_ (i := 2) rfl
         have y3 := x7.cell_ (i := 3) rfl
         have y4 := x7.cell_ (i := 4) rfl
         have y5 := x7.cell_ (i := 5) rfl
         have y6 := x7.cell_ (i := 6) rfl
         have y7 := x7.cell_ (i := 7) rfl
         have y8 := x7.cell_ (i := 8) rfl
         have y9 := x7.cell_ (i := 9) rfl
         have y10 := x7.cell_ (i := 10) rfl
         have y11 := x7.cell_ (i := 11) rfl
         clear o7 x7)
      | (go_at_call 56; refine (rd_fields _ m _ _ _ _ (HL.out.keep O7.out)).mono ?_; rw [HFB.out]; rintro E w8 ⟨rfl, o8⟩
         have O8 := Lib.hid (O7.out.trans o8)
         have x8 := XB.out.only O8.out (fun h => h)
         have v1 := x8.cell_ (i := 1) rfl
         have v2 := x8.cell_ (i := 2) rfl
         have v5 := x8.cell_ (i := 5) rfl
         clear o8 x8)
      | (go_at_call 57; refine (rf_site _ _).mono ?_; rw [HSB.out]; rintro E w9 ⟨rfl, rfl⟩))
    go_meet
    case rel => exact ⟨by rw [HDB.out, HCB.out, HFB.out, HSB.out, Gh1.out, Gh2.out, Gh3.out, Gh4.out]; (simp; omega), O8.out⟩
end Go.Proofs.YtlieolehpmobfaaGreatDoor
end
