/- Texts of mine, one behind the other: WiN, WiV, WiDb. No statement of the seat is proved here. -/
import Derived.Test.YtlieolehpmobfaaGreatDoorWr14
import Derived.Test.YtlieolehpmobfaaGreatDoorWr9
import Derived.Test.YtlieolehpmobfaaGreatDoorWr13
import Derived.Test.YtlieolehpmobfaaGreatDoorWr5
section
namespace Go.Proofs.YtlieolehpmobfaaGreatDoor
open Go.RowKit
set_option linter.all false
set_option maxRecDepth 100000
def docB (m : Ms) : Bool := cntB m && (!fldA m && fldZ m) && stSite m.pe && decide (0 ≤ m.hp) && decide (m.hp ≤ 8) && decide (0 ≤ m.nu) && decide (m.nu ≤ 4294967295)
def docOk (m : Ms) : Bool := docB m && (isTop m.mr || mkGood m.mr) && m.ps.all stSite && m.ms.all mkGood && m.es.all enOk
theorem node_site (n : Int) : nodeB n = stSite n := by
  unfold nodeB stSite
  rw [Bool.eq_iff_iff]
  simp only [Bool.and_eq_true, decide_eq_true_eq]
  omega
theorem wOk_iff (m : Ms) : wOk m = true ↔ wField m 0 = true ∧ wField m 1 = true ∧ wField m 2 = true ∧ wField m 3 = true ∧ wField m 4 = true ∧ wField m 5 = true ∧ wField m 6 = true ∧ wField m 7 = true ∧ wField m 8 = true := by
  unfold wOk
  rw [show List.range 9 = [0, 1, 2, 3, 4, 5, 6, 7, 8] from rfl]
  simp only [List.all_cons, List.all_nil, Bool.and_true, Bool.and_eq_true]
theorem fi0 (m : Ms) : wField m 0 = true ↔ (wHas m.kd 0 = true ∨ m.pe = 0) ∧ stSite m.pe = true := by
  unfold wField
  cases h : wHas m.kd 0
  · simp only [Bool.false_eq_true, if_false, wNone, beq_iff_eq, false_or]
    exact ⟨fun e => ⟨e, by rw [e]; decide⟩, fun e => e.1⟩
  · simp only [if_true, wMay, true_or, true_and, node_site]
theorem fi1 (m : Ms) : wField m 1 = true ↔ (wHas m.kd 0 = true ∨ m.hp = 0) ∧ 0 ≤ m.hp ∧ m.hp ≤ 8 := by
  unfold wField
  rw [show wHas m.kd 1 = wHas m.kd 0 from rfl]
  cases h : wHas m.kd 0
  · simp only [Bool.false_eq_true, if_false, wNone, beq_iff_eq, false_or]
    omega
  · simp only [if_true, wMay, true_or, true_and, Bool.and_eq_true, decide_eq_true_eq]
theorem fi2 (m : Ms) : wField m 2 = true ↔ (wHas m.kd 2 = true ∨ m.hi = false) := by
  unfold wField
  cases h : wHas m.kd 2
  · simp [wNone]
  · simp [wMay]
theorem fi3 (m : Ms) : wField m 3 = true ↔ (wHas m.kd 3 = true ∨ ¬ 0 < (m.ps.length : Int)) ∧ (m.ps.length : Int) ≤ 8 ∧ m.ps.all stSite = true := by
  have e : nodeB = stSite := funext node_site
  unfold wField
  cases h : wHas m.kd 3
  · simp only [Bool.false_eq_true, if_false, wNone, beq_iff_eq, false_or]
    constructor
    · intro h0
      have : m.ps = [] := List.eq_nil_of_length_eq_zero (by omega)
      rw [this]; exact ⟨by simp, by simp, rfl⟩
    · intro h0; omega
  · simp only [if_true, wMay, true_or, true_and, Bool.and_eq_true, decide_eq_true_eq, e]
theorem fi4 (m : Ms) : wField m 4 = true ↔ (wHas m.kd 4 = true ∨ m.nu = 0) ∧ 0 ≤ m.nu ∧ m.nu ≤ 4294967295 := by
  unfold wField
  cases h : wHas m.kd 4
  · simp only [Bool.false_eq_true, if_false, wNone, beq_iff_eq, false_or]
    omega
  · simp only [if_true, wMay, true_or, true_and, Bool.and_eq_true, decide_eq_true_eq]
theorem fi5 (m : Ms) : wField m 5 = true ↔ (wHas m.kd 5 = true ∨ (m.su : Int) = 0) := by
  unfold wField
  cases h : wHas m.kd 5
  · simp [wNone]
  · simp [wMay]
theorem fi6 (m : Ms) : wField m 6 = true ↔ (wHas m.kd 6 = true ∨ isTop m.mr = true) ∧ (isTop m.mr || mkGood m.mr) = true := by
  unfold wField
  cases h : wHas m.kd 6
  · simp only [Bool.false_eq_true, if_false, wNone, false_or]
    exact ⟨fun e => ⟨e, by rw [e]; rfl⟩, fun e => e.1⟩
  · simp only [if_true, wMay, true_or, true_and]
theorem fi7 (m : Ms) : wField m 7 = true ↔ (mLo m.kd 7 ≤ (m.ms.length : Int) ∧ (m.ms.length : Int) ≤ mUp m.kd 7) ∧ m.ms.all mkGood = true := by
  unfold wField mLo mUp
  cases h : wHas m.kd 7
  · simp only [Bool.false_eq_true, if_false, wNone, beq_iff_eq]
    constructor
    · intro h0
      have : m.ms = [] := List.eq_nil_of_length_eq_zero (by omega)
      rw [this]; exact ⟨⟨by simp, by simp⟩, rfl⟩
    · intro h0; omega
  · simp only [if_true, wMay, manyB, Bool.and_eq_true, decide_eq_true_eq]
theorem fi8 (m : Ms) : wField m 8 = true ↔ (mLo m.kd 8 ≤ (m.es.length : Int) ∧ (m.es.length : Int) ≤ mUp m.kd 8) ∧ m.es.all enOk = true := by
  unfold wField mLo mUp
  cases h : wHas m.kd 8
  · simp only [Bool.false_eq_true, if_false]
    show ((m.es.length : Int) == 0) = true ↔ _
    simp only [beq_iff_eq]
    constructor
    · intro h0
      have : m.es = [] := List.eq_nil_of_length_eq_zero (by omega)
      rw [this]; exact ⟨⟨by simp, by simp⟩, rfl⟩
    · intro h0; omega
  · simp only [if_true]
    show (manyB (wLo m.kd) (wUp m.kd) m.es.length && m.es.all enOk) = true ↔ _
    simp only [manyB, Bool.and_eq_true, decide_eq_true_eq]
theorem fldA_iff (m : Ms) : (!fldA m) = true ↔ ((wHas m.kd 0 = true ∨ m.pe = 0) ∧ (wHas m.kd 0 = true ∨ m.hp = 0)) ∧ (wHas m.kd 2 = true ∨ m.hi = false) ∧ (wHas m.kd 3 = true ∨ ¬ 0 < (m.ps.length : Int)) := by
  unfold fldA
  have e1 : (m.pe != 0) = !decide (m.pe = 0) := by by_cases h : m.pe = 0 <;> simp [h]
  have e2 : (m.hp != 0) = !decide (m.hp = 0) := by by_cases h : m.hp = 0 <;> simp [h]
  rw [e1, e2]
  obtain ⟨p, hp⟩ : ∃ p, decide (m.pe = 0) = p := ⟨_, rfl⟩
  obtain ⟨q, hq⟩ : ∃ p, decide (m.hp = 0) = p := ⟨_, rfl⟩
  obtain ⟨r, hr⟩ : ∃ p, decide (0 < (m.ps.length : Int)) = p := ⟨_, rfl⟩
  have ip : (m.pe = 0) ↔ p = true := by rw [← hp]; exact decide_eq_true_iff.symm
  have iq : (m.hp = 0) ↔ q = true := by rw [← hq]; exact decide_eq_true_iff.symm
  have ir : (0 < (m.ps.length : Int)) ↔ r = true := by rw [← hr]; exact decide_eq_true_iff.symm
  rw [hp, hq, hr, ip, iq, ir]
  cases wHas m.kd 0 <;> cases wHas m.kd 2 <;> cases wHas m.kd 3 <;> cases m.hi <;> cases p <;> cases q <;> cases r <;> decide
theorem fldZ_iff (m : Ms) : fldZ m = true ↔ (wHas m.kd 4 = true ∨ m.nu = 0) ∧ (wHas m.kd 5 = true ∨ (m.su : Int) = 0) ∧ (wHas m.kd 6 = true ∨ isTop m.mr = true) := by
  unfold fldZ
  simp only [Bool.and_eq_true, Bool.or_eq_true, beq_iff_eq, and_assoc]
theorem docOk_eq (m : Ms) : docOk m = wOk m := by
  rw [Bool.eq_iff_iff, wOk_iff, fi0, fi1, fi2, fi3, fi4, fi5, fi6, fi7, fi8]
  unfold docOk docB cntB
  simp only [Bool.and_eq_true, fldA_iff, fldZ_iff, decide_eq_true_eq]
  constructor
  · rintro ⟨⟨⟨⟨⟨⟨⟨⟨⟨⟨⟨⟨⟨⟨a1, a2⟩, a3⟩, a4⟩, a5⟩, ⟨⟨b1, b1'⟩, b2, b3⟩, b4, b5, b6⟩, c1⟩, c2⟩, c3⟩, c4⟩, c5⟩, d1⟩, d2⟩, d3⟩, d4⟩
    exact ⟨⟨b1, c1⟩, ⟨b1', c2, c3⟩, b2, ⟨b3, a5, d2⟩, ⟨b4, c4, c5⟩, b5, ⟨b6, d1⟩, ⟨⟨a1, a2⟩, d3⟩, ⟨⟨a3, a4⟩, d4⟩⟩
  · rintro ⟨⟨b1, c1⟩, ⟨b1', c2, c3⟩, b2, ⟨b3, a5, d2⟩, ⟨b4, c4, c5⟩, b5, ⟨b6, d1⟩, ⟨⟨a1, a2⟩, d3⟩, ⟨⟨a3, a4⟩, d4⟩⟩
    exact ⟨⟨⟨⟨⟨⟨⟨⟨⟨⟨⟨⟨⟨⟨a1, a2⟩, a3⟩, a4⟩, a5⟩, ⟨⟨b1, b1'⟩, b2, b3⟩, b4, b5, b6⟩, c1⟩, c2⟩, c3⟩, c4⟩, c5⟩, d1⟩, d2⟩, d3⟩, d4⟩
theorem wGood_doc (m : Ms) : wGood m = if wKind m.kd = true then (if docOk m = true then 0 else 4) else 1 := by rw [docOk_eq]; rfl
end Go.Proofs.YtlieolehpmobfaaGreatDoor
end
section
namespace Go.Proofs.YtlieolehpmobfaaGreatDoor
open Go.RowKit
set_option linter.all false
set_option maxRecDepth 100000
set_option maxHeartbeats 9600000 in
theorem rd_wgood (S : Nat → Prop) (m : Ms) (vp vm ve : Value) (w : World) (hl : Ml S m vp vm ve w) (hn : m.ps.length ≤ 4096 ∧ m.ms.length ≤ 4096 ∧ m.es.length ≤ 4096) :
    Calls Tryz.prog 15 #[.agg #[.int .i64 m.kd, .int .i64 m.pe, .int .i64 m.hp, .bool m.hi, vp, .int .i64 m.nu, .int .u64 (m.su : Int), .int .i64 m.mr.a.c, .int .i64 m.mr.a.s, .string m.mr.k, vm, ve]] w fun e w' => e = .returned (.int .i64 (wGood m)) ∧ Only none_ w w' := by
  obtain ⟨A1, c1, A2, c2, A3, c3, e1, e2, e3⟩ := hl.shape
  subst e1 e2 e3
  obtain ⟨w1, hw1⟩ : ∃ w1, w.alloc (.cells #[.int .i64 m.kd, .int .i64 m.pe, .int .i64 m.hp, .bool m.hi, .slice A1 m.ps.length c1, .int .i64 m.nu, .int .u64 (m.su : Int), .int .i64 m.mr.a.c, .int .i64 m.mr.a.s, .string m.mr.k, .slice A2 m.ms.length c2, .slice A3 m.es.length c3] 31) = w1 := ⟨_, rfl⟩
  have XB : Hid (Blk w1 w.heap.size 31 #[.int .i64 m.kd, .int .i64 m.pe, .int .i64 m.hp, .bool m.hi, .slice A1 m.ps.length c1, .int .i64 m.nu, .int .u64 (m.su : Int), .int .i64 m.mr.a.c, .int .i64 m.mr.a.s, .string m.mr.k, .slice A2 m.ms.length c2, .slice A3 m.es.length c3]) := by rw [Hid, ← hw1]; exact Blk.new w 31 #[.int .i64 m.kd, .int .i64 m.pe, .int .i64 m.hp, .bool m.hi, .slice A1 m.ps.length c1, .int .i64 m.nu, .int .u64 (m.su : Int), .int .i64 m.mr.a.c, .int .i64 m.mr.a.s, .string m.mr.k, .slice A2 m.ms.length c2, .slice A3 m.es.length c3]
  have OB : Hid (Only none_ w w1) := by rw [Hid, ← hw1]; exact (Only.refl none_ w).alloc _
  have HW := Lib.hid hw1
  have HL := Lib.hid (hl.keep OB.out)
  have HNN := Lib.hid hn
  have k0 := XB.out.cell_ (i := 0) rfl
  have HWG := Lib.hid (wGood_doc m)
  clear hw1 hl hn
  by_cases hk1 : m.kd < 1
  · have HX : Hid (wGood m = 1) := by rw [Hid, HWG.out, if_neg (by simp only [wKind, Bool.and_eq_true, decide_eq_true_eq]; omega)]
    go_enter Tryz.func15, Tryz.ntmps15
    go_upto_region 1 with fail
    rw [HW.out]
    go_wp2_with fail
    go_ret
    exact ⟨by rw [HX.out]; rfl, OB.out⟩
  by_cases hk2 : 19 < m.kd
  · have HX : Hid (wGood m = 1) := by rw [Hid, HWG.out, if_neg (by simp only [wKind, Bool.and_eq_true, decide_eq_true_eq]; omega)]
    go_enter Tryz.func15, Tryz.ntmps15
    go_upto_region 1 with fail
    rw [HW.out]
    go_wp2_with fail
    go_ret
    exact ⟨by rw [HX.out]; rfl, OB.out⟩
  have HG : Hid (wGood m = if docOk m = true then 0 else 4) := by rw [Hid, HWG.out, if_pos (by simp only [wKind, Bool.and_eq_true, decide_eq_true_eq]; omega)]
  have HDO : Hid (docOk m = (docB m && (isTop m.mr || mkGood m.mr) && m.ps.all stSite && m.ms.all mkGood && m.es.all enOk)) := rfl
  have HDB : Hid (docB m = (cntB m && (!fldA m && fldZ m) && stSite m.pe && decide (0 ≤ m.hp) && decide (m.hp ≤ 8) && decide (0 ≤ m.nu) && decide (m.nu ≤ 4294967295))) := rfl
  obtain ⟨db, hdb⟩ : ∃ b, docB m = b := ⟨_, rfl⟩
  rw [hdb] at HDO HDB
  clear hdb HWG
  go_enter Tryz.func15, Tryz.ntmps15
  go_upto_region 1 with fail
  rw [HW.out]
  go_upto_region 3 with fail
  clear HW
  go_cut [47] from 14 to 47 (fun s47 w' => s47 = .bool (!db) ∧ Only none_ w1 w')
  case rest =>
    obtain ⟨rfl, o3⟩ := hcut
    have P3 := Lib.hid o3
    clear o3 k0
    cases db
    · have HX : Hid (wGood m = 4) := by rw [Hid, HG.out, HDO.out]; rfl
      go_wp2_with fail
      go_ret
      exact ⟨by rw [HX.out]; rfl, OB.out.trans P3.out⟩
    · rw [Bool.true_and] at HDO
      have x3 := XB.out.only P3.out (fun h => h)
      have X3 := Lib.hid x3
      have j7 := x3.cell_ (i := 7) rfl
      have j8 := x3.cell_ (i := 8) rfl
      have j9 := x3.cell_ (i := 9) rfl
      clear x3
      go_upto_region 5 with fail
      go_cut [57] from 48 to 57 (fun s57 w' => s57 = .bool (!(isTop m.mr || mkGood m.mr)) ∧ Only none_ wc w')
      case rest =>
        obtain ⟨rfl, o5⟩ := hcut
        have P5 := Lib.hid (P3.out.trans o5)
        clear o5 j7 j8 j9 X3
        obtain ⟨mb, hmb⟩ : ∃ b, (isTop m.mr || mkGood m.mr) = b := ⟨_, rfl⟩
        rw [hmb] at HDO ⊢
        clear hmb
        cases mb
        · have HX : Hid (wGood m = 4) := by rw [Hid, HG.out, HDO.out]; rfl
          go_wp2_with fail
          go_ret
          exact ⟨by rw [HX.out]; rfl, OB.out.trans P5.out⟩
        · rw [Bool.true_and] at HDO
          go_wp2_with fail
          have hcl := (HL.out.keep P5.out).p
          obtain ⟨n, hn⟩ : ∃ n, m.ps.length = n := ⟨_, rfl⟩
          have HN := Lib.hid hn
          rw [hn] at hcl
          have HCL := Lib.hid hcl
          have hn9 : n ≤ 4096 := by have := HNN.out.1; omega
          have kz4 := (XB.out.only P5.out (fun h => h)).cell_ (i := 4) rfl
          rw [hn] at kz4
          clear hcl hn
          go_wp2_with fail
          go_loopw [3] (fun sl wr => ∃ i : Nat, i ≤ n ∧ sl = .int .i64 i ∧ Only none_ w1 wr ∧ (m.ps.take i).all stSite = true) (fun sl _ => n - (intOf sl).toNat)
          case atStart => exact ⟨0, by omega, rfl, P5.out, by simp⟩
          case round =>
            obtain ⟨i, hi, rfl, o, hall⟩ := hrel
            have HAL := Lib.hid hall
            have OR := Lib.hid o
            have kc : wr.cell? ⟨w.heap.size, 4, none⟩ = some (.slice A1 n c1) := by rw [← HN.out]; exact (XB.out.only o (fun h => h)).cell_ (i := 4) rfl
            clear hall
            by_cases hlt : i < n
            · have hcl := (HL.out.keep o).p
              rw [HN.out] at hcl
              obtain ⟨x, hx⟩ : ∃ x, m.ps[i]? = some x := ⟨_, List.getElem?_eq_getElem (by have := HN.out; omega)⟩
              obtain ⟨b, off, hA, _, _, hc⟩ := in_elem intI_len (by decide) hcl HN.out hx
              subst hA
              have q0 := hc _ (Only.refl none_ _) 0 (.int .i64 x) rfl
              rw [Nat.mul_one, Nat.add_zero] at q0
              have HXX := Lib.hid hx
              obtain ⟨pz, hp⟩ : ∃ pb, stSite x = pb := ⟨_, rfl⟩
              have HP := Lib.hid hp
              clear o hc hp hx hcl
              cases pz
              · have HEO : Hid (stSite x = false) := HP.out
                go_wp2_with (first | (go_at_call 57; refine (rf_site _ _).mono ?_; rw [HP.out]; rintro E w9 ⟨rfl, rfl⟩; have O9 := OR))
                go_ret
                have hf : m.ps.all stSite = false := by
                  rw [Bool.eq_false_iff]
                  intro ha
                  have := List.all_eq_true.1 ha x (List.mem_of_getElem? HXX.out)
                  rw [HEO.out] at this; cases this
                have HX : wGood m = 4 := by rw [HG.out, HDO.out, hf]; simp
                exact ⟨by rw [HX]; rfl, OB.out.trans O9.out⟩
              · have HEO : Hid (stSite x = true) := HP.out
                go_wp2_with (first | (go_at_call 57; refine (rf_site _ _).mono ?_; rw [HP.out]; rintro E w9 ⟨rfl, rfl⟩; have O9 := OR))
                go_roundw
                case rel => exact ⟨i + 1, by omega, by go_num, O9.out, by
                  rw [List.take_add_one, HXX.out]
                  simp only [Option.toList_some, List.all_append, HAL.out, List.all_cons, List.all_nil, HEO.out]; rfl⟩
                case measure => simp [intOf]; omega
            · have hin : m.ps.take i = m.ps := List.take_of_length_le (by have := HN.out; omega)
              rw [hin] at HAL
              have PA := OR
              clear o hin
              have hge : ¬ ((i : Int) < (n : Int)) := by omega
              rw [HAL.out] at HDO
              rw [Bool.true_and] at HDO
              have hcl := (HL.out.keep PA.out).q
              obtain ⟨n, hn⟩ : ∃ n, m.ms.length = n := ⟨_, rfl⟩
              have HN := Lib.hid hn
              rw [hn] at hcl
              have HCL := Lib.hid hcl
              have hn9 : n ≤ 4096 := by have := HNN.out.2.1; omega
              have kz10 := (XB.out.only PA.out (fun h => h)).cell_ (i := 10) rfl
              rw [hn] at kz10
              clear hcl hn
              go_wp2_with fail
              go_loopw [4] (fun sl wr => ∃ i : Nat, i ≤ n ∧ sl = .int .i64 i ∧ Only none_ w1 wr ∧ (m.ms.take i).all mkGood = true) (fun sl _ => n - (intOf sl).toNat)
              case atStart => exact ⟨0, by omega, rfl, PA.out, by simp⟩
              case round =>
                obtain ⟨i, hi, rfl, o, hall⟩ := hrel
                have HAL := Lib.hid hall
                have OR := Lib.hid o
                have kc : wr.cell? ⟨w.heap.size, 10, none⟩ = some (.slice A2 n c2) := by rw [← HN.out]; exact (XB.out.only o (fun h => h)).cell_ (i := 10) rfl
                clear hall
                by_cases hlt : i < n
                · have hcl := (HL.out.keep o).q
                  rw [HN.out] at hcl
                  obtain ⟨x, hx⟩ : ∃ x, m.ms[i]? = some x := ⟨_, List.getElem?_eq_getElem (by have := HN.out; omega)⟩
                  obtain ⟨b, off, hA, _, _, hc⟩ := in_elem mkI_len (by decide) hcl HN.out hx
                  subst hA
                  have HC : Hid (∀ j u, (#[.int .i64 x.a.c, .int .i64 x.a.s, .string x.k] : Array Value).toList[j]? = some u → wr.cell? ⟨b, off + i * 3 + j, none⟩ = some u) := fun j u hu => hc _ (Only.refl none_ _) j u hu
                  have HXX := Lib.hid hx
                  obtain ⟨pz, hp⟩ : ∃ pb, mkGood x = pb := ⟨_, rfl⟩
                  have HP := Lib.hid hp
                  clear o hc hp hx hcl
                  cases pz
                  · have HEO : Hid (mkGood x = false) := HP.out
                    go_wp2_with (first | (refine wpl_piece rfl 27 _ rfl b (off + i * 3) rfl #[.int .i64 x.a.c, .int .i64 x.a.s, .string x.k] _ HC.out Tryz.underlying27 rfl (by kernel_rfl) ?_) | (go_at_call 58; refine (rd_gmark x _).mono ?_; rw [HP.out]; rintro E w9 ⟨rfl, o9⟩; have O9 := Lib.hid (OR.out.trans o9); clear o9))
                    go_ret
                    have hf : m.ms.all mkGood = false := by
                      rw [Bool.eq_false_iff]
                      intro ha
                      have := List.all_eq_true.1 ha x (List.mem_of_getElem? HXX.out)
                      rw [HEO.out] at this; cases this
                    have HX : wGood m = 4 := by rw [HG.out, HDO.out, hf]; simp
                    exact ⟨by rw [HX]; rfl, OB.out.trans O9.out⟩
                  · have HEO : Hid (mkGood x = true) := HP.out
                    go_wp2_with (first | (refine wpl_piece rfl 27 _ rfl b (off + i * 3) rfl #[.int .i64 x.a.c, .int .i64 x.a.s, .string x.k] _ HC.out Tryz.underlying27 rfl (by kernel_rfl) ?_) | (go_at_call 58; refine (rd_gmark x _).mono ?_; rw [HP.out]; rintro E w9 ⟨rfl, o9⟩; have O9 := Lib.hid (OR.out.trans o9); clear o9))
                    go_roundw
                    case rel => exact ⟨i + 1, by omega, by go_num, O9.out, by
                      rw [List.take_add_one, HXX.out]
                      simp only [Option.toList_some, List.all_append, HAL.out, List.all_cons, List.all_nil, HEO.out]; rfl⟩
                    case measure => simp [intOf]; omega
                · have hin : m.ms.take i = m.ms := List.take_of_length_le (by have := HN.out; omega)
                  rw [hin] at HAL
                  have PB := OR
                  clear o hin
                  have hge : ¬ ((i : Int) < (n : Int)) := by omega
                  rw [HAL.out] at HDO
                  rw [Bool.true_and] at HDO
                  have hcl := (HL.out.keep PB.out).r
                  obtain ⟨n, hn⟩ : ∃ n, m.es.length = n := ⟨_, rfl⟩
                  have HN := Lib.hid hn
                  rw [hn] at hcl
                  have HCL := Lib.hid hcl
                  have hn9 : n ≤ 4096 := by have := HNN.out.2.2; omega
                  have kz11 := (XB.out.only PB.out (fun h => h)).cell_ (i := 11) rfl
                  rw [hn] at kz11
                  clear hcl hn
                  go_wp2_with fail
                  go_loopw [5] (fun sl wr => ∃ i : Nat, i ≤ n ∧ sl = .int .i64 i ∧ Only none_ w1 wr ∧ (m.es.take i).all enOk = true) (fun sl _ => n - (intOf sl).toNat)
                  case atStart => exact ⟨0, by omega, rfl, PB.out, by simp⟩
                  case round =>
                    obtain ⟨i, hi, rfl, o, hall⟩ := hrel
                    have HAL := Lib.hid hall
                    have OR := Lib.hid o
                    have kc : wr.cell? ⟨w.heap.size, 11, none⟩ = some (.slice A3 n c3) := by rw [← HN.out]; exact (XB.out.only o (fun h => h)).cell_ (i := 11) rfl
                    clear hall
                    by_cases hlt : i < n
                    · have hcl := (HL.out.keep o).r
                      rw [HN.out] at hcl
                      obtain ⟨x, hx⟩ : ∃ x, m.es[i]? = some x := ⟨_, List.getElem?_eq_getElem (by have := HN.out; omega)⟩
                      obtain ⟨b, off, hA, _, _, hc⟩ := in_elem enRow_length (by decide) hcl HN.out hx
                      subst hA
                      have HC : Hid (∀ j u, (#[.string x.k, .string x.v, .bool x.d, .int .i64 x.s.c, .int .i64 x.s.s, .int .i64 x.a.c, .int .i64 x.a.s, .int .i64 x.p, .int .i64 x.g] : Array Value).toList[j]? = some u → wr.cell? ⟨b, off + i * 9 + j, none⟩ = some u) := fun j u hu => hc _ (Only.refl none_ _) j u hu
                      have HXX := Lib.hid hx
                      obtain ⟨pz, hp⟩ : ∃ pb, enCheck x = pb := ⟨_, rfl⟩
                      have HP := Lib.hid hp
                      clear o hc hp hx hcl
                      by_cases hpz : pz = 0
                      · have hpb : (pz != 0) = false := by simp [hpz]
                        have HEO : Hid (enOk x = true) := by rw [Hid, enOk, HP.out, hpz]; rfl
                        clear hpz
                        go_wp2_with (first | (refine wpl_piece rfl 123 _ rfl b (off + i * 9) rfl #[.string x.k, .string x.v, .bool x.d, .int .i64 x.s.c, .int .i64 x.s.s, .int .i64 x.a.c, .int .i64 x.a.s, .int .i64 x.p, .int .i64 x.g] _ HC.out Tryz.underlying123 rfl (by kernel_rfl) ?_) | (go_at_call 59; refine (rf_check x _).mono ?_; rw [HP.out]; rintro E w9 ⟨rfl, o9⟩; have O9 := Lib.hid (OR.out.trans o9); clear o9))
                        go_roundw
                        case rel => exact ⟨i + 1, by omega, by go_num, O9.out, by
                          rw [List.take_add_one, HXX.out]
                          simp only [Option.toList_some, List.all_append, HAL.out, List.all_cons, List.all_nil, HEO.out]; rfl⟩
                        case measure => simp [intOf]; omega
                      · have hpb : (pz != 0) = true := by simp [hpz]
                        have HEO : Hid (enOk x = false) := by rw [Hid, enOk, HP.out]; simpa using hpz
                        clear hpz
                        go_wp2_with (first | (refine wpl_piece rfl 123 _ rfl b (off + i * 9) rfl #[.string x.k, .string x.v, .bool x.d, .int .i64 x.s.c, .int .i64 x.s.s, .int .i64 x.a.c, .int .i64 x.a.s, .int .i64 x.p, .int .i64 x.g] _ HC.out Tryz.underlying123 rfl (by kernel_rfl) ?_) | (go_at_call 59; refine (rf_check x _).mono ?_; rw [HP.out]; rintro E w9 ⟨rfl, o9⟩; have O9 := Lib.hid (OR.out.trans o9); clear o9))
                        go_ret
                        have hf : m.es.all enOk = false := by
                          rw [Bool.eq_false_iff]
                          intro ha
                          have := List.all_eq_true.1 ha x (List.mem_of_getElem? HXX.out)
                          rw [HEO.out] at this; cases this
                        have HX : wGood m = 4 := by rw [HG.out, HDO.out, hf]; simp
                        exact ⟨by rw [HX]; rfl, OB.out.trans O9.out⟩
                    · have hin : m.es.take i = m.es := List.take_of_length_le (by have := HN.out; omega)
                      rw [hin] at HAL
                      have PC := OR
                      clear o hin
                      have hge : ¬ ((i : Int) < (n : Int)) := by omega
                      rw [HAL.out] at HDO
                      have HX : Hid (wGood m = 0) := by rw [Hid, HG.out, HDO.out]; rfl
                      go_wp2_with fail
                      go_ret
                      exact ⟨by rw [HX.out]; rfl, OB.out.trans PC.out⟩
      case first =>
        obtain ⟨tb, htb⟩ : ∃ b, isTop m.mr = b := ⟨_, rfl⟩
        have HT := Lib.hid htb
        have eT : ∀ w, (binOp .neq 27 (.agg #[.int .i64 m.mr.a.c, .int .i64 m.mr.a.s, .string m.mr.k]) (.agg #[.int .i64 0, .int .i64 0, .string ⟨#[]⟩])).run Tryz.prog w = .ok (.bool (!mkSame m.mr mkTop)) w := fun w => neqR w m.mr mkTop
        rw [← isTop_same, htb] at eT
        clear htb
        cases tb
        · go_wp2_with (first
            | (go_at_call 58; refine (rd_gmark m.mr _).mono ?_; rintro E w8 ⟨rfl, o8⟩; have O8 := Lib.hid o8; clear o8))
          go_meet
          case rel => exact ⟨by rw [HT.out, Bool.false_or], O8.out⟩
        · go_wp2_with fail
          go_meet
          case rel => exact ⟨by rw [HT.out]; rfl, Only.refl _ _⟩
  case first =>
    obtain ⟨cb, hcb⟩ : ∃ b, cntB m = b := ⟨_, rfl⟩
    have HCB := Lib.hid hcb
    obtain ⟨fb, hfb⟩ : ∃ b, (!fldA m && fldZ m) = b := ⟨_, rfl⟩
    have HFB := Lib.hid hfb
    obtain ⟨sb, hsb⟩ : ∃ b, stSite m.pe = b := ⟨_, rfl⟩
    have HSB := Lib.hid hsb
    clear hcb hfb hsb
    cases cb
    · go_wp2_with (first
        | (refine wpl_load rfl 31 _ rfl w.heap.size rfl 31 #[.int .i64 m.kd, .int .i64 m.pe, .int .i64 m.hp, .bool m.hi, .slice A1 m.ps.length c1, .int .i64 m.nu, .int .u64 (m.su : Int), .int .i64 m.mr.a.c, .int .i64 m.mr.a.s, .string m.mr.k, .slice A2 m.ms.length c2, .slice A3 m.es.length c3] _ XB.out Tryz.underlying31 rfl (by kernel_rfl) ?_)
        | (go_at_call 55; refine (rd_counts _ m _ _ _ _ HL.out).mono ?_; rw [HCB.out]; rintro E w7 ⟨rfl, o7⟩
           have O7 := Lib.hid o7
           have x7 := XB.out.only o7 (fun h => h)
           have y0 := x7.cell_ (i := 0) rfl
           have y1 := x7.cell_ (i := 1) rfl
           have y2 := x7.cell_ (i := 2) rfl
           have y3 := x7.cell_ (i := 3) rfl
           have y4 := x7.cell_ (i := 4) rfl
           have y5 := x7.cell_ (i := 5) rfl
           have y6 := x7.cell_ (i := 6) rfl
           have y7 := x7.cell_ (i := 7) rfl
           have y8 := x7.cell_ (i := 8) rfl
           have y9 := x7.cell_ (i := 9) rfl
           have y10 := x7.cell_ (i := 10) rfl
           have y11 := x7.cell_ (i := 11) rfl
           clear o7 x7)
        | (go_at_call 56; refine (rd_fields _ m _ _ _ _ (HL.out.keep O7.out)).mono ?_; rw [HFB.out]; rintro E w8 ⟨rfl, o8⟩
           have O8 := Lib.hid (O7.out.trans o8)
           have x8 := XB.out.only O8.out (fun h => h)
           have v1 := x8.cell_ (i := 1) rfl
           have v2 := x8.cell_ (i := 2) rfl
           have v5 := x8.cell_ (i := 5) rfl
           clear o8 x8)
        | (go_at_call 57; refine (rf_site _ _).mono ?_; rw [HSB.out]; rintro E w9 ⟨rfl, rfl⟩))
      go_meet
      case rel => exact ⟨by rw [HDB.out, HCB.out]; simp, O7.out⟩
    cases fb
    · go_wp2_with (first
        | (refine wpl_load rfl 31 _ rfl w.heap.size rfl 31 #[.int .i64 m.kd, .int .i64 m.pe, .int .i64 m.hp, .bool m.hi, .slice A1 m.ps.length c1, .int .i64 m.nu, .int .u64 (m.su : Int), .int .i64 m.mr.a.c, .int .i64 m.mr.a.s, .string m.mr.k, .slice A2 m.ms.length c2, .slice A3 m.es.length c3] _ XB.out Tryz.underlying31 rfl (by kernel_rfl) ?_)
        | (go_at_call 55; refine (rd_counts _ m _ _ _ _ HL.out).mono ?_; rw [HCB.out]; rintro E w7 ⟨rfl, o7⟩
           have O7 := Lib.hid o7
           have x7 := XB.out.only o7 (fun h => h)
           have y0 := x7.cell_ (i := 0) rfl
           have y1 := x7.cell_ (i := 1) rfl
           have y2 := x7.cell_ (i := 2) rfl
           have y3 := x7.cell_ (i := 3) rfl
           have y4 := x7.cell_ (i := 4) rfl
           have y5 := x7.cell_ (i := 5) rfl
           have y6 := x7.cell_ (i := 6) rfl
           have y7 := x7.cell_ (i := 7) rfl
           have y8 := x7.cell_ (i := 8) rfl
           have y9 := x7.cell_ (i := 9) rfl
           have y10 := x7.cell_ (i := 10) rfl
           have y11 := x7.cell_ (i := 11) rfl
           clear o7 x7)
        | (go_at_call 56; refine (rd_fields _ m _ _ _ _ (HL.out.keep O7.out)).mono ?_; rw [HFB.out]; rintro E w8 ⟨rfl, o8⟩
           have O8 := Lib.hid (O7.out.trans o8)
           have x8 := XB.out.only O8.out (fun h => h)
           have v1 := x8.cell_ (i := 1) rfl
           have v2 := x8.cell_ (i := 2) rfl
           have v5 := x8.cell_ (i := 5) rfl
           clear o8 x8)
        | (go_at_call 57; refine (rf_site _ _).mono ?_; rw [HSB.out]; rintro E w9 ⟨rfl, rfl⟩))
      go_meet
      case rel => exact ⟨by rw [HDB.out, HCB.out, HFB.out]; simp, O8.out⟩
    cases sb
    · go_wp2_with (first
        | (refine wpl_load rfl 31 _ rfl w.heap.size rfl 31 #[.int .i64 m.kd, .int .i64 m.pe, .int .i64 m.hp, .bool m.hi, .slice A1 m.ps.length c1, .int .i64 m.nu, .int .u64 (m.su : Int), .int .i64 m.mr.a.c, .int .i64 m.mr.a.s, .string m.mr.k, .slice A2 m.ms.length c2, .slice A3 m.es.length c3] _ XB.out Tryz.underlying31 rfl (by kernel_rfl) ?_)
        | (go_at_call 55; refine (rd_counts _ m _ _ _ _ HL.out).mono ?_; rw [HCB.out]; rintro E w7 ⟨rfl, o7⟩
           have O7 := Lib.hid o7
           have x7 := XB.out.only o7 (fun h => h)
           have y0 := x7.cell_ (i := 0) rfl
           have y1 := x7.cell_ (i := 1) rfl
           have y2 := x7.cell_ (i := 2) rfl
           have y3 := x7.cell_ (i := 3) rfl
           have y4 := x7.cell_ (i := 4) rfl
           have y5 := x7.cell_ (i := 5) rfl
           have y6 := x7.cell_ (i := 6) rfl
           have y7 := x7.cell_ (i := 7) rfl
           have y8 := x7.cell_ (i := 8) rfl
           have y9 := x7.cell_ (i := 9) rfl
           have y10 := x7.cell_ (i := 10) rfl
           have y11 := x7.cell_ (i := 11) rfl
           clear o7 x7)
        | (go_at_call 56; refine (rd_fields _ m _ _ _ _ (HL.out.keep O7.out)).mono ?_; rw [HFB.out]; rintro E w8 ⟨rfl, o8⟩
           have O8 := Lib.hid (O7.out.trans o8)
           have x8 := XB.out.only O8.out (fun h => h)
           have v1 := x8.cell_ (i := 1) rfl
           have v2 := x8.cell_ (i := 2) rfl
           have v5 := x8.cell_ (i := 5) rfl
           clear o8 x8)
        | (go_at_call 57; refine (rf_site _ _).mono ?_; rw [HSB.out]; rintro E w9 ⟨rfl, rfl⟩))
      go_meet
      case rel => exact ⟨by rw [HDB.out, HCB.out, HFB.out, HSB.out]; simp, O8.out⟩
    by_cases h1 : ¬ (0 ≤ m.hp)
    · have Gh1 := Lib.hid (decide_eq_false h1)
      have gh1 := h1
      simp only [Int.not_le] at gh1
      go_wp2_with (first
        | (refine wpl_load rfl 31 _ rfl w.heap.size rfl 31 #[.int .i64 m.kd, .int .i64 m.pe, .int .i64 m.hp, .bool m.hi, .slice A1 m.ps.length c1, .int .i64 m.nu, .int .u64 (m.su : Int), .int .i64 m.mr.a.c, .int .i64 m.mr.a.s, .string m.mr.k, .slice A2 m.ms.length c2, .slice A3 m.es.length c3] _ XB.out Tryz.underlying31 rfl (by kernel_rfl) ?_)
        | (go_at_call 55; refine (rd_counts _ m _ _ _ _ HL.out).mono ?_; rw [HCB.out]; rintro E w7 ⟨rfl, o7⟩
           have O7 := Lib.hid o7
           have x7 := XB.out.only o7 (fun h => h)
           have y0 := x7.cell_ (i := 0) rfl
           have y1 := x7.cell_ (i := 1) rfl
           have y2 := x7.cell_ (i := 2) rfl
           have y3 := x7.cell_ (i := 3) rfl
           have y4 := x7.cell_ (i := 4) rfl
           have y5 := x7.cell_ (i := 5) rfl
           have y6 := x7.cell_ (i := 6) rfl
           have y7 := x7.cell_ (i := 7) rfl
           have y8 := x7.cell_ (i := 8) rfl
           have y9 := x7.cell_ (i := 9) rfl
           have y10 := x7.cell_ (i := 10) rfl
           have y11 := x7.cell_ (i := 11) rfl
           clear o7 x7)
        | (go_at_call 56; refine (rd_fields _ m _ _ _ _ (HL.out.keep O7.out)).mono ?_; rw [HFB.out]; rintro E w8 ⟨rfl, o8⟩
           have O8 := Lib.hid (O7.out.trans o8)
           have x8 := XB.out.only O8.out (fun h => h)
           have v1 := x8.cell_ (i := 1) rfl
           have v2 := x8.cell_ (i := 2) rfl
           have v5 := x8.cell_ (i := 5) rfl
           clear o8 x8)
        | (go_at_call 57; refine (rf_site _ _).mono ?_; rw [HSB.out]; rintro E w9 ⟨rfl, rfl⟩))
      go_meet
      case rel => exact ⟨by rw [HDB.out, HCB.out, HFB.out, HSB.out, Gh1.out]; simp, O8.out⟩
    rw [Classical.not_not] at h1
    have Gh1 := Lib.hid (decide_eq_true h1)
    by_cases h2 : ¬ (m.hp ≤ 8)
    · have Gh2 := Lib.hid (decide_eq_false h2)
      have gh2 := h2
      simp only [Int.not_le] at gh2
      go_wp2_with (first
        | (refine wpl_load rfl 31 _ rfl w.heap.size rfl 31 #[.int .i64 m.kd, .int .i64 m.pe, .int .i64 m.hp, .bool m.hi, .slice A1 m.ps.length c1, .int .i64 m.nu, .int .u64 (m.su : Int), .int .i64 m.mr.a.c, .int .i64 m.mr.a.s, .string m.mr.k, .slice A2 m.ms.length c2, .slice A3 m.es.length c3] _ XB.out Tryz.underlying31 rfl (by kernel_rfl) ?_)
        | (go_at_call 55; refine (rd_counts _ m _ _ _ _ HL.out).mono ?_; rw [HCB.out]; rintro E w7 ⟨rfl, o7⟩
           have O7 := Lib.hid o7
           have x7 := XB.out.only o7 (fun h => h)
           have y0 := x7.cell_ (i := 0) rfl
           have y1 := x7.cell_ (i := 1) rfl
           have y2 := x7.cell_ (i := 2) rfl
           have y3 := x7.cell_ (i := 3) rfl
           have y4 := x7.cell_ (i := 4) rfl
           have y5 := x7.cell_ (i := 5) rfl
           have y6 := x7.cell_ (i := 6) rfl
           have y7 := x7.cell_ (i := 7) rfl
           have y8 := x7.cell_ (i := 8) rfl
           have y9 := x7.cell_ (i := 9) rfl
           have y10 := x7.cell_ (i := 10) rfl
           have y11 := x7.cell_ (i := 11) rfl
           clear o7 x7)
        | (go_at_call 56; refine (rd_fields _ m _ _ _ _ (HL.out.keep O7.out)).mono ?_; rw [HFB.out]; rintro E w8 ⟨rfl, o8⟩
           have O8 := Lib.hid (O7.out.trans o8)
           have x8 := XB.out.only O8.out (fun h => h)
           have v1 := x8.cell_ (i := 1) rfl
           have v2 := x8.cell_ (i := 2) rfl
           have v5 := x8.cell_ (i := 5) rfl
           clear o8 x8)
        | (go_at_call 57; refine (rf_site _ _).mono ?_; rw [HSB.out]; rintro E w9 ⟨rfl, rfl⟩))
      go_meet
      case rel => exact ⟨by rw [HDB.out, HCB.out, HFB.out, HSB.out, Gh1.out, Gh2.out]; simp, O8.out⟩
    rw [Classical.not_not] at h2
    have Gh2 := Lib.hid (decide_eq_true h2)
    by_cases h3 : ¬ (0 ≤ m.nu)
    · have Gh3 := Lib.hid (decide_eq_false h3)
      have gh3 := h3
      simp only [Int.not_le] at gh3
      go_wp2_with (first
        | (refine wpl_load rfl 31 _ rfl w.heap.size rfl 31 #[.int .i64 m.kd, .int .i64 m.pe, .int .i64 m.hp, .bool m.hi, .slice A1 m.ps.length c1, .int .i64 m.nu, .int .u64 (m.su : Int), .int .i64 m.mr.a.c, .int .i64 m.mr.a.s, .string m.mr.k, .slice A2 m.ms.length c2, .slice A3 m.es.length c3] _ XB.out Tryz.underlying31 rfl (by kernel_rfl) ?_)
        | (go_at_call 55; refine (rd_counts _ m _ _ _ _ HL.out).mono ?_; rw [HCB.out]; rintro E w7 ⟨rfl, o7⟩
           have O7 := Lib.hid o7
           have x7 := XB.out.only o7 (fun h => h)
           have y0 := x7.cell_ (i := 0) rfl
           have y1 := x7.cell_ (i := 1) rfl
           have y2 := x7.cell_ (i := 2) rfl
           have y3 := x7.cell_ (i := 3) rfl
           have y4 := x7.cell_ (i := 4) rfl
           have y5 := x7.cell_ (i := 5) rfl
           have y6 := x7.cell_ (i := 6) rfl
           have y7 := x7.cell_ (i := 7) rfl
           have y8 := x7.cell_ (i := 8) rfl
           have y9 := x7.cell_ (i := 9) rfl
           have y10 := x7.cell_ (i := 10) rfl
           have y11 := x7.cell_ (i := 11) rfl
           clear o7 x7)
        | (go_at_call 56; refine (rd_fields _ m _ _ _ _ (HL.out.keep O7.out)).mono ?_; rw [HFB.out]; rintro E w8 ⟨rfl, o8⟩
           have O8 := Lib.hid (O7.out.trans o8)
           have x8 := XB.out.only O8.out (fun h => h)
           have v1 := x8.cell_ (i := 1) rfl
           have v2 := x8.cell_ (i := 2) rfl
           have v5 := x8.cell_ (i := 5) rfl
           clear o8 x8)
        | (go_at_call 57; refine (rf_site _ _).mono ?_; rw [HSB.out]; rintro E w9 ⟨rfl, rfl⟩))
      go_meet
      case rel => exact ⟨by rw [HDB.out, HCB.out, HFB.out, HSB.out, Gh1.out, Gh2.out, Gh3.out]; simp, O8.out⟩
    rw [Classical.not_not] at h3
    have Gh3 := Lib.hid (decide_eq_true h3)
    by_cases h4 : ¬ (m.nu ≤ 4294967295)
    · have Gh4 := Lib.hid (decide_eq_false h4)
      have gh4 := h4
      simp only [Int.not_le] at gh4
      go_wp2_with (first
        | (refine wpl_load rfl 31 _ rfl w.heap.size rfl 31 #[.int .i64 m.kd, .int .i64 m.pe, .int .i64 m.hp, .bool m.hi, .slice A1 m.ps.length c1, .int .i64 m.nu, .int .u64 (m.su : Int), .int .i64 m.mr.a.c, .int .i64 m.mr.a.s, .string m.mr.k, .slice A2 m.ms.length c2, .slice A3 m.es.length c3] _ XB.out Tryz.underlying31 rfl (by kernel_rfl) ?_)
        | (go_at_call 55; refine (rd_counts _ m _ _ _ _ HL.out).mono ?_; rw [HCB.out]; rintro E w7 ⟨rfl, o7⟩
           have O7 := Lib.hid o7
           have x7 := XB.out.only o7 (fun h => h)
           have y0 := x7.cell_ (i := 0) rfl
           have y1 := x7.cell_ (i := 1) rfl
           have y2 := x7.cell_ (i := 2) rfl
           have y3 := x7.cell_ (i := 3) rfl
           have y4 := x7.cell_ (i := 4) rfl
           have y5 := x7.cell_ (i := 5) rfl
           have y6 := x7.cell_ (i := 6) rfl
           have y7 := x7.cell_ (i := 7) rfl
           have y8 := x7.cell_ (i := 8) rfl
           have y9 := x7.cell_ (i := 9) rfl
           have y10 := x7.cell_ (i := 10) rfl
           have y11 := x7.cell_ (i := 11) rfl
           clear o7 x7)
        | (go_at_call 56; refine (rd_fields _ m _ _ _ _ (HL.out.keep O7.out)).mono ?_; rw [HFB.out]; rintro E w8 ⟨rfl, o8⟩
           have O8 := Lib.hid (O7.out.trans o8)
           have x8 := XB.out.only O8.out (fun h => h)
           have v1 := x8.cell_ (i := 1) rfl
           have v2 := x8.cell_ (i := 2) rfl
           have v5 := x8.cell_ (i := 5) rfl
           clear o8 x8)
        | (go_at_call 57; refine (rf_site _ _).mono ?_; rw [HSB.out]; rintro E w9 ⟨rfl, rfl⟩))
      go_meet
      case rel => exact ⟨by rw [HDB.out, HCB.out, HFB.out, HSB.out, Gh1.out, Gh2.out, Gh3.out, Gh4.out]; simp, O8.out⟩
    rw [Classical.not_not] at h4
    have Gh4 := Lib.hid (decide_eq_true h4)
    go_wp2_with (first
      | (refine wpl_load rfl 31 _ rfl w.heap.size rfl 31 #[.int .i64 m.kd, .int .i64 m.pe, .int .i64 m.hp, .bool m.hi, .slice A1 m.ps.length c1, .int .i64 m.nu, .int .u64 (m.su : Int), .int .i64 m.mr.a.c, .int .i64 m.mr.a.s, .string m.mr.k, .slice A2 m.ms.length c2, .slice A3 m.es.length c3] _ XB.out Tryz.underlying31 rfl (by kernel_rfl) ?_)
      | (go_at_call 55; refine (rd_counts _ m _ _ _ _ HL.out).mono ?_; rw [HCB.out]; rintro E w7 ⟨rfl, o7⟩
         have O7 := Lib.hid o7
         have x7 := XB.out.only o7 (fun h => h)
         have y0 := x7.cell_ (i := 0) rfl
         have y1 := x7.cell_ (i := 1) rfl
         have y2 := x7.cell_ (i := 2) rfl
         have y3 := x7.cell_ (i := 3) rfl
         have y4 := x7.cell_ (i := 4) rfl
         have y5 := x7.cell_ (i := 5) rfl
         have y6 := x7.cell_ (i := 6) rfl
         have y7 := x7.cell_ (i := 7) rfl
         have y8 := x7.cell_ (i := 8) rfl
         have y9 := x7.cell_ (i := 9) rfl
         have y10 := x7.cell_ (i := 10) rfl
         have y11 := x7.cell_ (i := 11) rfl
         clear o7 x7)
      | (go_at_call 56; refine (rd_fields _ m _ _ _ _ (HL.out.keep O7.out)).mono ?_; rw [HFB.out]; rintro E w8 ⟨rfl, o8⟩
         have O8 := Lib.hid (O7.out.trans o8)
         have x8 := XB.out.only O8.out (fun h => h)
         have v1 := x8.cell_ (i := 1) rfl
         have v2 := x8.cell_ (i := 2) rfl
         have v5 := x8.cell_ (i := 5) rfl
         clear o8 x8)
      | (go_at_call 57; refine (rf_site _ _).mono ?_; rw [HSB.out]; rintro E w9 ⟨rfl, rfl⟩))
    go_meet
    case rel => exact ⟨by rw [HDB.out, HCB.out, HFB.out, HSB.out, Gh1.out, Gh2.out, Gh3.out, Gh4.out]; (simp; omega), O8.out⟩
end Go.Proofs.YtlieolehpmobfaaGreatDoor
end
section
namespace Go.Proofs.YtlieolehpmobfaaGreatDoor
open Go.RowKit
set_option linter.all false
set_option maxRecDepth 100000
section
variable {P : Program} {md : Region.Mode} {ops : Array Oper} {Q : Exit → Act → World → Prop} {fuel : Nat} {listed : Array Bool} {a : Act} {w : World} {oi : Oper} {v : Value}
theorem wpAny_comes4 (i d : Nat) (hi : ops[i]? = some oi) (hd : oi.dst = some d) (hg : oi.guard = none)
    (hs : Region.noSelect ops = true) (hf : Region.free md ops listed i = true) (hr : (Region.ready md ops listed).contains i = true)
    (hv : ∀ w, (execOp a.eval oi).run P w = .ok (.value v) w) (hQ : ∀ c a v w, Q (.panic c) (a.put (some d) v) w → Q (.panic c) a w)
    (h : wpAny P md ops Q fuel (listed.setIfInBounds i true) (a.put (some d) v) w) : wpAny P md ops Q (fuel + 1) listed a w :=
  wpAny_take hi hs hf hr (by rw [hd]; exact fun c a w => hQ c a _ w) (.inl ⟨by rw [Region.wanted, hg], hv⟩) (by rw [hd]; exact h)
theorem step_store_row4 {o : Oper} {K : Act → World → Prop} {E : Prop} (hwd : Region.wanted o (yielded ops a.tmps) = true) (ty : TypeId) (x y : Operand) (ho : o.op = .store ty x y)
    (g : Nat) (cells : Array Value) (hx : a.eval x = .pointer (some ⟨g, 0, none⟩)) (hy : a.eval y = .agg cells) (t : TypeId) (old : Array Value) (hg : Blk w g t old) (hi : (P.info? ty).map (·.size) = some cells.size)
    (hold : old.size = cells.size) (h1 : cells.all (·.oneCell') = true) (h : K (a.put o.dst undef) (w.setRow g cells)) : if Region.wanted o (yielded ops a.tmps) = true then Oper.wp P o a w K Q else E := by
  rw [if_pos hwd]
  exact wp_store_row ty x y ho g cells hx hy t old hg hi hold h1 h
end
structure Dj (W : World) (cu : Array Value) (m : Ms) (vp vm ve : Value) (w : World) : Prop where
  fz : Blk w W.heap.size 31 #[.int .i64 0, .int .i64 0, .int .i64 0, .bool false, .slice none 0 0, .int .i64 0, .int .u64 0, .int .i64 0, .int .i64 0, .string ⟨#[]⟩, .slice none 0 0, .slice none 0 0]
  fc : Blk w (W.heap.size + 1) 169 cu
  fl : Blk w (W.heap.size + 1 + 1) 31 #[.int .i64 m.kd, .int .i64 m.pe, .int .i64 m.hp, .bool m.hi, vp, .int .i64 m.nu, .int .u64 (m.su : Int), .int .i64 m.mr.a.c, .int .i64 m.mr.a.s, .string m.mr.k, vm, ve]
  ml : Ml (fun b => W.heap.size + 1 + 1 < b) m vp vm ve w
  ho : Only none_ W w
section
variable {W w w' : World} {cu cu' : Array Value} {m m' : Ms} {vp vm ve vp' vm' ve' : Value}
theorem Dj.keep (t : Dj W cu m vp vm ve w) (o : Only none_ w w') : Dj W cu m vp vm ve w' :=
  ⟨t.fz.only o (fun h => h), t.fc.only o (fun h => h), t.fl.only o (fun h => h), t.ml.keep o, t.ho.trans o⟩
theorem Dj.cur (t : Dj W cu m vp vm ve w) (z : Array Value) : Dj W z m vp vm ve (w.setRow (W.heap.size + 1) z) :=
  ⟨t.fz.setRow_far (by omega) z, t.fc.setRow z, t.fl.setRow_far (by omega) z,
   t.ml.only ((Only.refl (one (W.heap.size + 1)) w).setRow (g := W.heap.size + 1) (.inl rfl) z) (fun b hb e => by have e' : b = W.heap.size + 1 := e; have hb' : W.heap.size + 1 + 1 < b := hb; omega), t.ho.setRow (.inr (by omega)) z⟩
theorem Dj.msg (t : Dj W cu m vp vm ve w) (hl : Ml (fun b => W.heap.size + 1 + 1 < b) m' vp' vm' ve' w) : Dj W cu m' vp' vm' ve' (w.setRow (W.heap.size + 1 + 1) #[.int .i64 m'.kd, .int .i64 m'.pe, .int .i64 m'.hp, .bool m'.hi, vp', .int .i64 m'.nu, .int .u64 (m'.su : Int), .int .i64 m'.mr.a.c, .int .i64 m'.mr.a.s, .string m'.mr.k, vm', ve']) :=
  ⟨t.fz.setRow_far (by omega) _, t.fc.setRow_far (by omega) _, t.fl.setRow _,
   hl.only ((Only.refl (one (W.heap.size + 1 + 1)) w).setRow (g := W.heap.size + 1 + 1) (.inl rfl) _) (fun b hb e => by have e' : b = W.heap.size + 1 + 1 := e; have hb' : W.heap.size + 1 + 1 < b := hb; omega), t.ho.setRow (.inr (by omega)) _⟩
theorem Dj.set (t : Dj W cu m vp vm ve w) (i : Nat) (u : Value) : Dj W (cu.setIfInBounds i u) m vp vm ve (w.setCell ⟨W.heap.size + 1, i, none⟩ u) :=
  ⟨t.fz.far (p := ⟨W.heap.size + 1, i, none⟩) (by show W.heap.size ≠ W.heap.size + 1; omega) u, t.fc.set_ i u, t.fl.far (p := ⟨W.heap.size + 1, i, none⟩) (by show W.heap.size + 1 + 1 ≠ W.heap.size + 1; omega) u,
   t.ml.only ((Only.refl (one (W.heap.size + 1)) w).setCell (p := ⟨W.heap.size + 1, i, none⟩) (.inl rfl) u) (fun b hb e => by have e' : b = W.heap.size + 1 := e; have hb' : W.heap.size + 1 + 1 < b := hb; omega), t.ho.setCell (p := ⟨W.heap.size + 1, i, none⟩) (.inr (by show W.heap.size ≤ W.heap.size + 1; omega)) u⟩
theorem Dj.cast (t : Dj W cu m vp vm ve w) (h : cu = cu') : Dj W cu' m vp vm ve w := h ▸ t
end
theorem wd_doc {k : Int} (bs : List UInt8) (hk : wKind k = true) {e : Int} {r : List UInt8} {m : Ms} (h : runR k bs 9 = (e, r, m)) :
    wdC k bs = doneCode (if e = 0 then wGood m else e) r ∧ wdM k bs = (if wdC k bs = 0 then m else msZero 0) := by
  refine ⟨?_, by unfold wdM; rw [h]⟩
  unfold wdC
  rw [if_pos hk, h]
  dsimp only
  have hkd : wKind m.kd = true := by have := runR_kd k bs 9; rw [h] at this; rw [this]; exact hk
  by_cases he : e = 0
  · subst he
    rw [if_pos rfl]
    unfold doneCode
    by_cases hr : 0 < r.length
    · rw [if_pos hr, if_pos hr]
      rcases wGood_kind hkd with h0 | h4
      · rw [h0]; rfl
      · rw [h4]; rfl
    · rw [if_neg hr, if_neg hr, if_pos rfl]
  · rw [if_neg he]
    have hd : doneCode e r = e := by unfold doneCode; split
                                     · exact if_neg he
                                     · rfl
    rw [hd, if_neg he]
set_option maxHeartbeats 12800000 in
theorem rd_wdecode (kd : Int) (A : Option Addr) (c : Nat) (bs : List UInt8) (S : Nat → Prop) (w : World) (h : Byt w S (.slice A bs.length c) bs) (hS : ∀ b, S b → b < w.heap.size) (hL : bs.length ≤ 100000) :
    Calls Tryz.prog 26 #[.int .i64 kd, .slice A bs.length c] w fun E w' => ∃ vp vm ve, E = .returned (.tuple #[.agg #[.int .i64 (wdM kd bs).kd, .int .i64 (wdM kd bs).pe, .int .i64 (wdM kd bs).hp, .bool (wdM kd bs).hi, vp, .int .i64 (wdM kd bs).nu, .int .u64 ((wdM kd bs).su : Int), .int .i64 (wdM kd bs).mr.a.c, .int .i64 (wdM kd bs).mr.a.s, .string (wdM kd bs).mr.k, vm, ve], .int .i64 (wdC kd bs)]) ∧
      Ml (fun b => w.heap.size ≤ b) (wdM kd bs) vp vm ve w' ∧ Only none_ w w' := by
  have R0 := Lib.hid (Blk.new w 31 #[.int .i64 0, .int .i64 0, .int .i64 0, .bool false, .slice none 0 0, .int .i64 0, .int .u64 0, .int .i64 0, .int .i64 0, .string ⟨#[]⟩, .slice none 0 0, .slice none 0 0])
  have O0 := Lib.hid ((Only.refl none_ w).alloc (.cells #[.int .i64 0, .int .i64 0, .int .i64 0, .bool false, .slice none 0 0, .int .i64 0, .int .u64 0, .int .i64 0, .int .i64 0, .string ⟨#[]⟩, .slice none 0 0, .slice none 0 0] 31))
  have HB := Lib.hid (fun (w' : World) (o : Only none_ w w') => h.only o (fun _ _ h => h))
  have HSS := Lib.hid (fun (w' : World) (o : Only none_ w w') (b : Nat) (hb : S b) => Nat.lt_of_lt_of_le (hS b hb) o.size)
  have HLL := Lib.hid hL
  clear h hS hL
  by_cases hkd : wKind kd = true
  · have hk2 : 1 ≤ kd ∧ kd ≤ 19 := by simpa [wKind] using hkd
    have hk1 : decide (kd < 1) = false := by simp; omega
    have hk9 : decide (19 < kd) = false := by simp; omega
    have HK := Lib.hid hkd
    obtain ⟨w0, hw0⟩ : ∃ w0, ((w.alloc (.cells #[.int .i64 0, .int .i64 0, .int .i64 0, .bool false, .slice none 0 0, .int .i64 0, .int .u64 0, .int .i64 0, .int .i64 0, .string ⟨#[]⟩, .slice none 0 0, .slice none 0 0] 31)).alloc (.cells #[.slice A bs.length c, .int .i64 (0 : Int), .int .i64 0] 169)).alloc (.cells #[.int .i64 (msZero kd).kd, .int .i64 (msZero kd).pe, .int .i64 (msZero kd).hp, .bool (msZero kd).hi, .slice none 0 0, .int .i64 (msZero kd).nu, .int .u64 ((msZero kd).su : Int), .int .i64 (msZero kd).mr.a.c, .int .i64 (msZero kd).mr.a.s, .string (msZero kd).mr.k, .slice none 0 0, .slice none 0 0] 31) = w0 := ⟨_, rfl⟩
    have T0 : Hid (Dj w #[.slice A bs.length c, .int .i64 (0 : Int), .int .i64 0] (msZero kd) (.slice none 0 0) (.slice none 0 0) (.slice none 0 0) w0) := by
      rw [Hid, ← hw0]
      refine ⟨((Blk.new w _ _).alloc _).alloc _, ?_, ?_, Ml.nil _ _ _, (((Only.refl none_ w).alloc _).alloc _).alloc _⟩
      · have := Blk.new (w.alloc (.cells #[.int .i64 0, .int .i64 0, .int .i64 0, .bool false, .slice none 0 0, .int .i64 0, .int .u64 0, .int .i64 0, .int .i64 0, .string ⟨#[]⟩, .slice none 0 0, .slice none 0 0] 31)) 169 #[.slice A bs.length c, .int .i64 (0 : Int), .int .i64 0]
        rw [World.size_alloc] at this
        exact this.alloc _
      · have := Blk.new ((w.alloc (.cells #[.int .i64 0, .int .i64 0, .int .i64 0, .bool false, .slice none 0 0, .int .i64 0, .int .u64 0, .int .i64 0, .int .i64 0, .string ⟨#[]⟩, .slice none 0 0, .slice none 0 0] 31)).alloc (.cells #[.slice A bs.length c, .int .i64 (0 : Int), .int .i64 0] 169)) 31 #[.int .i64 (msZero kd).kd, .int .i64 (msZero kd).pe, .int .i64 (msZero kd).hp, .bool (msZero kd).hi, .slice none 0 0, .int .i64 (msZero kd).nu, .int .u64 ((msZero kd).su : Int), .int .i64 (msZero kd).mr.a.c, .int .i64 (msZero kd).mr.a.s, .string (msZero kd).mr.k, .slice none 0 0, .slice none 0 0]
        rw [World.size_alloc, World.size_alloc] at this
        exact this
    have HW := Lib.hid hw0
    clear hk2 hkd hw0 R0 O0
    go_enter Tryz.func26, Tryz.ntmps26
    go_wp2_with (first
      | (refine wpl_new rfl rfl 169 rfl _ _ rfl #[.slice A bs.length c, .int .i64 (0 : Int), .int .i64 0] rfl rfl (by kernel_rfl) (by simp [Value.oneCell']) ?_)
      | (refine wpl_new rfl rfl 31 rfl _ _ rfl #[.int .i64 (msZero kd).kd, .int .i64 (msZero kd).pe, .int .i64 (msZero kd).hp, .bool (msZero kd).hi, .slice none 0 0, .int .i64 (msZero kd).nu, .int .u64 ((msZero kd).su : Int), .int .i64 (msZero kd).mr.a.c, .int .i64 (msZero kd).mr.a.s, .string (msZero kd).mr.k, .slice none 0 0, .slice none 0 0] rfl rfl (by kernel_rfl) (by simp [Value.oneCell']) ?_; rw [HW.out]))
    go_loopw [8] (fun s8 wr => ∃ i : Nat, i ≤ 9 ∧ s8 = .int .i64 i ∧ ∃ (q : Nat) (vp vm ve : Value), q = bs.length - (runR kd bs i).2.1.length ∧ Rest bs (runR kd bs i).2.1 ∧ Dj w #[.slice A bs.length c, .int .i64 (q : Int), .int .i64 (runR kd bs i).1] (runR kd bs i).2.2 vp vm ve wr ∧
        (i ≤ 3 → (runR kd bs i).2.2.ps = [] ∧ vp = .slice none 0 0) ∧ (i ≤ 7 → (runR kd bs i).2.2.ms = [] ∧ vm = .slice none 0 0) ∧ (i ≤ 8 → (runR kd bs i).2.2.es = [] ∧ ve = .slice none 0 0)) (fun s8 _ => 9 - (intOf s8).toNat)
    case atStart => exact ⟨0, by omega, rfl, 0, _, _, _, by show 0 = bs.length - bs.length; omega, ⟨by simp [runR], Nat.le_refl _⟩, T0.out, fun _ => ⟨rfl, rfl⟩, fun _ => ⟨rfl, rfl⟩, fun _ => ⟨rfl, rfl⟩⟩
    case round =>
      obtain ⟨i, hi, rfl, q, vp, vm, ve, hq, hr, t, n3, n7, n8⟩ := hrel
      obtain ⟨A1, c1, A2, c2, A3, c3, e1, e2, e3⟩ := t.ml.shape
      by_cases hlt : i < 9
      · have hlt' : (i : Int) < 9 := by omega
        have HL9 := Lib.hid hlt
        have HS : Hid (runR kd bs (i + 1) = if wHas kd i = true then fieldR i (runR kd bs i).1 (runR kd bs i).2.1 (runR kd bs i).2.2 else runR kd bs i) := rfl
        obtain ⟨⟨e4, r4, m4⟩, h4⟩ : ∃ a, runR kd bs i = a := ⟨_, rfl⟩
        rw [h4] at hq hr t n3 n7 n8 HS e1 e2 e3
        dsimp only at hq hr t n3 n7 n8 HS e1 e2 e3
        obtain ⟨hb, hhb⟩ : ∃ b, wHas kd i = b := ⟨_, rfl⟩
        rw [hhb] at HS
        have HH := Lib.hid hhb
        have NN := Lib.hid (And.intro n3 (And.intro n7 n8))
        have QR := Lib.hid (And.intro hq hr)
        have T := Lib.hid t
        clear h4 hhb n3 n7 n8 hq hr t hi
        cases hb
        · rw [if_neg (by decide)] at HS
          clear e1 e2 e3
          go_wp2_with (first
            | (go_at_call 76; refine (rd_has_w i HL9.out kd _).mono ?_; rintro E w2 ⟨rfl, o2⟩; rw [HH.out]; have T2 := Lib.hid (T.out.keep o2); clear o2))
          go_roundw
          case rel =>
            refine ⟨i + 1, by have := HL9.out; omega, by go_num, q, vp, vm, ve, ?_⟩
            rw [HS.out]
            exact ⟨QR.out.1, QR.out.2, T2.out, fun h => NN.out.1 (by omega), fun h => NN.out.2.1 (by omega), fun h => NN.out.2.2 (by omega)⟩
          case measure => simp [intOf]; omega
        · rw [if_pos rfl] at HS
          have HC := Lib.hid (fun (w' : World) (o : Only none_ w w') (hl : Ml (fun b => w.heap.size + 1 + 1 < b) m4 vp vm ve w') => rk_any i HL9.out A c q bs r4 e4 S _ m4 vp vm ve w' (HB.out w' o) (HSS.out w' o) QR.out.2 QR.out.1 HLL.out hl NN.out.1 NN.out.2.1 NN.out.2.2)
          obtain ⟨⟨e5, r5, m5⟩, h5⟩ : ∃ a, fieldR i e4 r4 m4 = a := ⟨_, rfl⟩
          rw [h5] at HC HS
          dsimp only at HC HS
          clear h5
          subst e1 e2 e3
          go_wp2_with (first
            | (go_at_call 76; refine (rd_has_w i HL9.out kd _).mono ?_; rintro E w2 ⟨rfl, o2⟩; rw [HH.out]; have T2 := Lib.hid (T.out.keep o2); clear o2)
            | (refine wpl_load rfl 169 _ rfl (w.heap.size + 1) rfl 169 #[.slice A bs.length c, .int .i64 (q : Int), .int .i64 e4] _ T2.out.fc Tryz.underlying169 rfl (by kernel_rfl) ?_)
            | (refine wpl_load rfl 31 _ rfl (w.heap.size + 1 + 1) rfl 31 #[.int .i64 m4.kd, .int .i64 m4.pe, .int .i64 m4.hp, .bool m4.hi, .slice A1 m4.ps.length c1, .int .i64 m4.nu, .int .u64 (m4.su : Int), .int .i64 m4.mr.a.c, .int .i64 m4.mr.a.s, .string m4.mr.k, .slice A2 m4.ms.length c2, .slice A3 m4.es.length c3] _ T2.out.fl Tryz.underlying31 rfl (by kernel_rfl) ?_)
            | (go_at_call 82; refine (HC.out _ T2.out.ho T2.out.ml).mono ?_; rintro E w3 ⟨q5, up, um, ue, rfl, hq5, hr5, l5, o5, k3, k7, k8⟩
               obtain ⟨D1, d1, D2, d2, D3, d3, g1, g2, g3⟩ := l5.shape
               have K5 := Lib.hid (And.intro k3 (And.intro k7 k8))
               have Q5 := Lib.hid (And.intro hq5 hr5)
               have Z2 := Lib.hid T2.out.fl.lt
               have L5 : Hid (Ml (fun b => w.heap.size + 1 + 1 < b) m5 up um ue w3) := l5.mono (fun b _ hb => hb.elim (fun h => h) (fun h => by have := Z2.out; omega))
               have T3 := Lib.hid (T2.out.keep o5)
               clear k3 k7 k8 hq5 hr5 l5 o5
               subst g1 g2 g3)
            | (refine wpList_store_row rfl 169 _ _ rfl (w.heap.size + 1) #[.slice A bs.length c, .int .i64 (q5 : Int), .int .i64 e5] rfl rfl 169 _ T3.out.fc (by kernel_rfl) rfl (by simp [Value.oneCell']) ?_
               have T4 := Lib.hid (T3.out.cur #[.slice A bs.length c, .int .i64 (q5 : Int), .int .i64 e5])
               have L6 : Hid (Ml (fun b => w.heap.size + 1 + 1 < b) m5 (.slice D1 m5.ps.length d1) (.slice D2 m5.ms.length d2) (.slice D3 m5.es.length d3) (w3.setRow (w.heap.size + 1) #[.slice A bs.length c, .int .i64 (q5 : Int), .int .i64 e5])) := L5.out.only ((Only.refl (one (w.heap.size + 1)) w3).setRow (g := w.heap.size + 1) (.inl rfl) _) (fun b hb e => by have e' : b = w.heap.size + 1 := e; have hb' : w.heap.size + 1 + 1 < b := hb; omega)
               generalize w3.setRow (w.heap.size + 1) #[.slice A bs.length c, .int .i64 (q5 : Int), .int .i64 e5] = w4 at *)
            | (refine wpList_store_row rfl 31 _ _ rfl (w.heap.size + 1 + 1) #[.int .i64 m5.kd, .int .i64 m5.pe, .int .i64 m5.hp, .bool m5.hi, .slice D1 m5.ps.length d1, .int .i64 m5.nu, .int .u64 (m5.su : Int), .int .i64 m5.mr.a.c, .int .i64 m5.mr.a.s, .string m5.mr.k, .slice D2 m5.ms.length d2, .slice D3 m5.es.length d3] rfl rfl 31 _ T4.out.fl (by kernel_rfl) rfl (ms_one _ _ _ _ _ _ _ _ _ _) ?_
               have T5 := Lib.hid (T4.out.msg L6.out)))
          go_roundw
          case rel =>
            refine ⟨i + 1, by have := HL9.out; omega, by go_num, q5, .slice D1 m5.ps.length d1, .slice D2 m5.ms.length d2, .slice D3 m5.es.length d3, ?_⟩
            rw [HS.out]
            exact ⟨Q5.out.1, Q5.out.2, T5.out, fun h => K5.out.1 (by omega), fun h => K5.out.2.1 (by omega), fun h => K5.out.2.2 (by omega)⟩
          case measure => simp [intOf]; omega
      · obtain rfl : i = 9 := by omega
        have hsm := runR_small kd bs 9
        obtain ⟨⟨e9, r9, m9⟩, h9⟩ : ∃ a, runR kd bs 9 = a := ⟨_, rfl⟩
        have hdoc := wd_doc bs HK.out h9
        rw [h9] at hq hr t e1 e2 e3 hsm
        dsimp only at hq hr t e1 e2 e3 hsm
        have HC := Lib.hid hdoc.1
        have HM := Lib.hid hdoc.2
        have HQL : Hid (q ≤ bs.length) := by rw [Hid, hq]; omega
        have HQD : Hid (bs.drop q = r9) := by rw [Hid, hq]; exact hr.1.symm
        have HG := Lib.hid (fun (w' : World) (hl : Ml (fun b => w.heap.size + 1 + 1 < b) m9 vp vm ve w') => rd_wgood _ m9 vp vm ve w' hl ⟨by have := hsm.1; omega, by have := hsm.2.1; omega, by have := hsm.2.2; omega⟩)
        obtain ⟨z, hz⟩ : ∃ z, wGood m9 = z := ⟨_, rfl⟩
        have runK : Hid (z = 0 ∨ z = 4) := by have hkk := runR_kd kd bs 9; rw [h9] at hkk; rw [Hid, ← hz]; exact wGood_kind (by rw [hkk]; exact HK.out)
        rw [hz] at HC HG
        have T := Lib.hid t
        have hge : ¬ (((9 : Nat) : Int) < 9) := by omega
        have x2 := t.fc.cell_ (i := 2) rfl
        clear hdoc h9 hsm hz hq hr t n3 n7 n8
        subst e1 e2 e3
        by_cases he : e9 = 0
        · subst he
          have HCC : Hid (wdC kd bs = doneCode z r9) := by rw [Hid, HC.out, if_pos rfl]
          clear HC
          by_cases hz0 : z = 0
          · subst hz0
            go_upto_region 12 with (first
              | (refine wpl_load_if (by rfl) 31 _ rfl (w.heap.size + 1 + 1) rfl 31 #[.int .i64 m9.kd, .int .i64 m9.pe, .int .i64 m9.hp, .bool m9.hi, .slice A1 m9.ps.length c1, .int .i64 m9.nu, .int .u64 (m9.su : Int), .int .i64 m9.mr.a.c, .int .i64 m9.mr.a.s, .string m9.mr.k, .slice A2 m9.ms.length c2, .slice A3 m9.es.length c3] _ T.out.fl Tryz.underlying31 rfl (by kernel_rfl) ?_)
              | (go_at_call 15; refine (HG.out _ T.out.ml).mono ?_; rintro E w4 ⟨rfl, o4⟩
                 have T4 := Lib.hid (T.out.keep o4)
                 have x4 := T4.out.fc.cell_ (i := 2) rfl
                 have f4 := T4.out.fc.frozen 2
                 clear o4))
            obtain ⟨d, hd⟩ : ∃ d, doneCode 0 r9 = d := ⟨_, rfl⟩
            have HDN : Hid (∀ w', Calls Tryz.prog 83 #[.agg #[.slice A bs.length c, .int .i64 (q : Int), .int .i64 0]] w' fun E w'' => E = .returned (.agg #[.slice A bs.length c, .int .i64 (q : Int), .int .i64 d]) ∧ Only none_ w' w'') := fun w' => by
              have := ref_done A bs.length c bs q 0 w' rfl HQL.out HLL.out
              rw [HQD.out, hd] at this
              exact this
            have HC2 : Hid (wdC kd bs = d) := HCC.out.trans hd
            clear hd
            by_cases hd0 : d = 0
            · subst hd0
              have HX : Hid (wdM kd bs = m9) := by rw [Hid, HM.out, HC2.out, if_pos rfl]
              go_wp2_with (first
                | (refine wpl_load rfl 169 _ rfl (w.heap.size + 1) rfl 169 #[.slice A bs.length c, .int .i64 (q : Int), .int .i64 0] _ T4.out.fc Tryz.underlying169 rfl (by kernel_rfl) ?_)
                | (go_at_call 83; refine (HDN.out _).mono ?_; rintro E w7 ⟨rfl, o7⟩
                   have T7 := Lib.hid (T4.out.keep o7)
                   clear o7)
                | (refine wpList_store_row rfl 169 _ _ rfl (w.heap.size + 1) #[.slice A bs.length c, .int .i64 (q : Int), .int .i64 0] rfl rfl 169 _ T7.out.fc (by kernel_rfl) rfl (by simp [Value.oneCell']) ?_
                   have T8 := Lib.hid (T7.out.cur #[.slice A bs.length c, .int .i64 (q : Int), .int .i64 0])
                   generalize w7.setRow (w.heap.size + 1) #[.slice A bs.length c, .int .i64 (q : Int), .int .i64 0] = w8 at *
                   have y2 := T8.out.fc.cell_ (i := 2) rfl)
                | (refine wpl_load rfl 31 _ rfl (w.heap.size + 1 + 1) rfl 31 #[.int .i64 m9.kd, .int .i64 m9.pe, .int .i64 m9.hp, .bool m9.hi, .slice A1 m9.ps.length c1, .int .i64 m9.nu, .int .u64 (m9.su : Int), .int .i64 m9.mr.a.c, .int .i64 m9.mr.a.s, .string m9.mr.k, .slice A2 m9.ms.length c2, .slice A3 m9.es.length c3] _ T8.out.fl Tryz.underlying31 rfl (by kernel_rfl) ?_)
                | (refine wpList_store_row rfl 31 _ _ rfl w.heap.size #[.int .i64 m9.kd, .int .i64 m9.pe, .int .i64 m9.hp, .bool m9.hi, .slice A1 m9.ps.length c1, .int .i64 m9.nu, .int .u64 (m9.su : Int), .int .i64 m9.mr.a.c, .int .i64 m9.mr.a.s, .string m9.mr.k, .slice A2 m9.ms.length c2, .slice A3 m9.es.length c3] rfl rfl 31 _ T8.out.fz (by kernel_rfl) rfl (ms_one _ _ _ _ _ _ _ _ _ _) ?_
                   have R9 := Lib.hid (T8.out.fz.setRow #[.int .i64 m9.kd, .int .i64 m9.pe, .int .i64 m9.hp, .bool m9.hi, .slice A1 m9.ps.length c1, .int .i64 m9.nu, .int .u64 (m9.su : Int), .int .i64 m9.mr.a.c, .int .i64 m9.mr.a.s, .string m9.mr.k, .slice A2 m9.ms.length c2, .slice A3 m9.es.length c3])
                   have O9 := Lib.hid (T8.out.ho.setRow (g := w.heap.size) (.inr (Nat.le_refl _)) #[.int .i64 m9.kd, .int .i64 m9.pe, .int .i64 m9.hp, .bool m9.hi, .slice A1 m9.ps.length c1, .int .i64 m9.nu, .int .u64 (m9.su : Int), .int .i64 m9.mr.a.c, .int .i64 m9.mr.a.s, .string m9.mr.k, .slice A2 m9.ms.length c2, .slice A3 m9.es.length c3])
                   have L9 := Lib.hid (T8.out.ml.only ((Only.refl (one w.heap.size) w8).setRow (g := w.heap.size) (.inl rfl) #[.int .i64 m9.kd, .int .i64 m9.pe, .int .i64 m9.hp, .bool m9.hi, .slice A1 m9.ps.length c1, .int .i64 m9.nu, .int .u64 (m9.su : Int), .int .i64 m9.mr.a.c, .int .i64 m9.mr.a.s, .string m9.mr.k, .slice A2 m9.ms.length c2, .slice A3 m9.es.length c3]) (fun b hb e => by have e' : b = w.heap.size := e; have hb' : w.heap.size + 1 + 1 < b := hb; omega))))
              refine bodyPost_ret (results_cell_tmp rfl _ _ w.heap.size 31 _ _ rfl R9.out Tryz.underlying31 rfl (by kernel_rfl) (.int .i64 0) rfl) rfl ?_
              rw [HX.out, HC2.out]
              exact ⟨_, _, _, rfl, L9.out.mono (fun b _ hb => by have hb' : w.heap.size + 1 + 1 < b := hb; show w.heap.size ≤ b; omega), O9.out⟩
            · have HX : Hid (wdM kd bs = msZero 0) := by rw [Hid, HM.out, HC2.out, if_neg hd0]
              have hdb : (d != 0) = true := by simpa using hd0
              clear hd0
              go_wp2_with (first
                | (refine wpl_load rfl 169 _ rfl (w.heap.size + 1) rfl 169 #[.slice A bs.length c, .int .i64 (q : Int), .int .i64 0] _ T4.out.fc Tryz.underlying169 rfl (by kernel_rfl) ?_)
                | (go_at_call 83; refine (HDN.out _).mono ?_; rintro E w7 ⟨rfl, o7⟩
                   have T7 := Lib.hid (T4.out.keep o7)
                   clear o7)
                | (refine wpList_store_row rfl 169 _ _ rfl (w.heap.size + 1) #[.slice A bs.length c, .int .i64 (q : Int), .int .i64 d] rfl rfl 169 _ T7.out.fc (by kernel_rfl) rfl (by simp [Value.oneCell']) ?_
                   have T8 := Lib.hid (T7.out.cur #[.slice A bs.length c, .int .i64 (q : Int), .int .i64 d])
                   have y2 := T8.out.fc.cell_ (i := 2) rfl))
              generalize hW5 : w7.setRow _ _ = W5 at *
              clear hW5
              have D5 := Lib.hid (T8.out.keep (Only.refl none_ W5).drew)
              refine wp_region_any (by kernel_rfl) ?_
              try (change wpAny _ _ _ _ _ _ _ (World.drew _))
              refine wpAny_comes4 (v := .agg #[.int .i64 0, .int .i64 0, .int .i64 0, .bool false, .slice none 0 0, .int .i64 0, .int .u64 0, .int .i64 0, .int .i64 0, .string ⟨#[]⟩, .slice none 0 0, .slice none 0 0]) 0 48 rfl rfl rfl (by kernel_rfl) (by kernel_rfl) (by kernel_rfl) (fun w => by go_simp) (fun _ _ _ _ h => h) ?_
              simp only [Act.put, List.setIfInBounds_toArray, List.set_cons_zero, List.set_cons_succ]
              refine wpAny_comes4 (v := .pointer (some ⟨w.heap.size + 1, 2, none⟩)) 1 49 rfl rfl rfl (by kernel_rfl) (by kernel_rfl) (by kernel_rfl) (fun w => by go_simp) (fun _ _ _ _ h => h) ?_
              simp only [Act.put, List.setIfInBounds_toArray, List.set_cons_zero, List.set_cons_succ]
              refine wpAny_ready (rs := [2, 3]) (by kernel_rfl) (by simp) ?_
              refine AllReady.cons rfl (fun K hK => ?_) ?_
              · have y5 := D5.out.fc.cell_ (i := 2) rfl
                go_simp
                refine hK _ _ ?_
                clear hK K
                refine wpAny_ready (rs := [3]) (by kernel_rfl) (by simp) ?_
                refine AllReady.cons rfl (fun K hK => ?_) AllReady.nil
                refine step_store_row4 (by simp [Region.wanted]) 31 _ _ rfl w.heap.size #[.int .i64 0, .int .i64 0, .int .i64 0, .bool false, .slice none 0 0, .int .i64 0, .int .u64 0, .int .i64 0, .int .i64 0, .string ⟨#[]⟩, .slice none 0 0, .slice none 0 0] rfl rfl 31 _ D5.out.fz (by kernel_rfl) rfl (by simp [Value.oneCell']) ?_
                refine hK _ _ ?_
                clear hK K
                have R6 := Lib.hid (D5.out.fz.setRow #[.int .i64 0, .int .i64 0, .int .i64 0, .bool false, .slice none 0 0, .int .i64 0, .int .u64 0, .int .i64 0, .int .i64 0, .string ⟨#[]⟩, .slice none 0 0, .slice none 0 0])
                have O6 := Lib.hid (D5.out.ho.setRow (g := w.heap.size) (.inr (Nat.le_refl _)) #[.int .i64 0, .int .i64 0, .int .i64 0, .bool false, .slice none 0 0, .int .i64 0, .int .u64 0, .int .i64 0, .int .i64 0, .string ⟨#[]⟩, .slice none 0 0, .slice none 0 0])
                refine wpAny_ready (rs := [4]) (by kernel_rfl) (by simp) ?_
                refine AllReady.cons rfl (fun K hK => ?_) AllReady.nil
                go_simp
                refine hK _ _ ?_
                clear hK K
                refine wpAny_done (by kernel_rfl) ?_ _
                go_wp2_with fail
                refine bodyPost_ret (results_cell_tmp rfl _ _ w.heap.size 31 _ _ rfl R6.out Tryz.underlying31 rfl (by kernel_rfl) (.int .i64 d) rfl) rfl ?_
                rw [HX.out, HC2.out]
                exact ⟨_, _, _, rfl, Ml.nil _ _ _, O6.out⟩
              · refine AllReady.cons rfl (fun K hK => ?_) AllReady.nil
                refine step_store_row4 (by simp [Region.wanted]) 31 _ _ rfl w.heap.size #[.int .i64 0, .int .i64 0, .int .i64 0, .bool false, .slice none 0 0, .int .i64 0, .int .u64 0, .int .i64 0, .int .i64 0, .string ⟨#[]⟩, .slice none 0 0, .slice none 0 0] rfl rfl 31 _ D5.out.fz (by kernel_rfl) rfl (by simp [Value.oneCell']) ?_
                refine hK _ _ ?_
                clear hK K
                have R6 := Lib.hid (D5.out.fz.setRow #[.int .i64 0, .int .i64 0, .int .i64 0, .bool false, .slice none 0 0, .int .i64 0, .int .u64 0, .int .i64 0, .int .i64 0, .string ⟨#[]⟩, .slice none 0 0, .slice none 0 0])
                have O6 := Lib.hid (D5.out.ho.setRow (g := w.heap.size) (.inr (Nat.le_refl _)) #[.int .i64 0, .int .i64 0, .int .i64 0, .bool false, .slice none 0 0, .int .i64 0, .int .u64 0, .int .i64 0, .int .i64 0, .string ⟨#[]⟩, .slice none 0 0, .slice none 0 0])
                have y5 := (D5.out.fc.setRow_far (g' := w.heap.size) (by omega) #[.int .i64 0, .int .i64 0, .int .i64 0, .bool false, .slice none 0 0, .int .i64 0, .int .u64 0, .int .i64 0, .int .i64 0, .string ⟨#[]⟩, .slice none 0 0, .slice none 0 0]).cell_ (i := 2) rfl
                refine wpAny_ready (rs := [2]) (by kernel_rfl) (by simp) ?_
                refine AllReady.cons rfl (fun K hK => ?_) AllReady.nil
                go_simp
                refine hK _ _ ?_
                clear hK K
                refine wpAny_ready (rs := [4]) (by kernel_rfl) (by simp) ?_
                refine AllReady.cons rfl (fun K hK => ?_) AllReady.nil
                go_simp
                refine hK _ _ ?_
                clear hK K
                refine wpAny_done (by kernel_rfl) ?_ _
                go_wp2_with fail
                refine bodyPost_ret (results_cell_tmp rfl _ _ w.heap.size 31 _ _ rfl R6.out Tryz.underlying31 rfl (by kernel_rfl) (.int .i64 d) rfl) rfl ?_
                rw [HX.out, HC2.out]
                exact ⟨_, _, _, rfl, Ml.nil _ _ _, O6.out⟩
          · have hzb : (z != 0) = true := by simpa using hz0
            have hz4 := Lib.hid hz0
            clear hz0
            have HCC : Hid (wdC kd bs = doneCode 4 r9) := by rw [Hid, HCC.out, (show z = 4 by have := runK.out; rcases this with h | h; exact absurd h hz4.out; exact h)]
            go_upto_region 11 with (first
              | (refine wpl_load_if (by rfl) 31 _ rfl (w.heap.size + 1 + 1) rfl 31 #[.int .i64 m9.kd, .int .i64 m9.pe, .int .i64 m9.hp, .bool m9.hi, .slice A1 m9.ps.length c1, .int .i64 m9.nu, .int .u64 (m9.su : Int), .int .i64 m9.mr.a.c, .int .i64 m9.mr.a.s, .string m9.mr.k, .slice A2 m9.ms.length c2, .slice A3 m9.es.length c3] _ T.out.fl Tryz.underlying31 rfl (by kernel_rfl) ?_)
              | (go_at_call 15; refine (HG.out _ T.out.ml).mono ?_; rintro E w4 ⟨rfl, o4⟩
                 have T4 := Lib.hid (T.out.keep o4)
                 have x4 := T4.out.fc.cell_ (i := 2) rfl
                 have f4 := T4.out.fc.frozen 2
                 clear o4))
            go_upto_region 12 with fail
            have T5 : Hid (Dj w #[.slice A bs.length c, .int .i64 (q : Int), .int .i64 4] m9 (.slice A1 m9.ps.length c1) (.slice A2 m9.ms.length c2) (.slice A3 m9.es.length c3) (w4.setCell ⟨w.heap.size + 1, 2, none⟩ (.int .i64 4))) := by rw [Hid]; simpa using T4.out.set 2 (.int .i64 4)
            generalize w4.setCell ⟨w.heap.size + 1, 2, none⟩ (.int .i64 4) = w5 at *
            obtain ⟨d, hd⟩ : ∃ d, doneCode 4 r9 = d := ⟨_, rfl⟩
            have HDN : Hid (∀ w', Calls Tryz.prog 83 #[.agg #[.slice A bs.length c, .int .i64 (q : Int), .int .i64 4]] w' fun E w'' => E = .returned (.agg #[.slice A bs.length c, .int .i64 (q : Int), .int .i64 d]) ∧ Only none_ w' w'') := fun w' => by
              have := ref_done A bs.length c bs q 4 w' rfl HQL.out HLL.out
              rw [HQD.out, hd] at this
              exact this
            have HC2 : Hid (wdC kd bs = d) := HCC.out.trans hd
            clear hd
            by_cases hd0 : d = 0
            · subst hd0
              have HX : Hid (wdM kd bs = m9) := by rw [Hid, HM.out, HC2.out, if_pos rfl]
              go_wp2_with (first
                | (refine wpl_load rfl 169 _ rfl (w.heap.size + 1) rfl 169 #[.slice A bs.length c, .int .i64 (q : Int), .int .i64 4] _ T5.out.fc Tryz.underlying169 rfl (by kernel_rfl) ?_)
                | (go_at_call 83; refine (HDN.out _).mono ?_; rintro E w7 ⟨rfl, o7⟩
                   have T7 := Lib.hid (T5.out.keep o7)
                   clear o7)
                | (refine wpList_store_row rfl 169 _ _ rfl (w.heap.size + 1) #[.slice A bs.length c, .int .i64 (q : Int), .int .i64 0] rfl rfl 169 _ T7.out.fc (by kernel_rfl) rfl (by simp [Value.oneCell']) ?_
                   have T8 := Lib.hid (T7.out.cur #[.slice A bs.length c, .int .i64 (q : Int), .int .i64 0])
                   generalize w7.setRow (w.heap.size + 1) #[.slice A bs.length c, .int .i64 (q : Int), .int .i64 0] = w8 at *
                   have y2 := T8.out.fc.cell_ (i := 2) rfl)
                | (refine wpl_load rfl 31 _ rfl (w.heap.size + 1 + 1) rfl 31 #[.int .i64 m9.kd, .int .i64 m9.pe, .int .i64 m9.hp, .bool m9.hi, .slice A1 m9.ps.length c1, .int .i64 m9.nu, .int .u64 (m9.su : Int), .int .i64 m9.mr.a.c, .int .i64 m9.mr.a.s, .string m9.mr.k, .slice A2 m9.ms.length c2, .slice A3 m9.es.length c3] _ T8.out.fl Tryz.underlying31 rfl (by kernel_rfl) ?_)
                | (refine wpList_store_row rfl 31 _ _ rfl w.heap.size #[.int .i64 m9.kd, .int .i64 m9.pe, .int .i64 m9.hp, .bool m9.hi, .slice A1 m9.ps.length c1, .int .i64 m9.nu, .int .u64 (m9.su : Int), .int .i64 m9.mr.a.c, .int .i64 m9.mr.a.s, .string m9.mr.k, .slice A2 m9.ms.length c2, .slice A3 m9.es.length c3] rfl rfl 31 _ T8.out.fz (by kernel_rfl) rfl (ms_one _ _ _ _ _ _ _ _ _ _) ?_
                   have R9 := Lib.hid (T8.out.fz.setRow #[.int .i64 m9.kd, .int .i64 m9.pe, .int .i64 m9.hp, .bool m9.hi, .slice A1 m9.ps.length c1, .int .i64 m9.nu, .int .u64 (m9.su : Int), .int .i64 m9.mr.a.c, .int .i64 m9.mr.a.s, .string m9.mr.k, .slice A2 m9.ms.length c2, .slice A3 m9.es.length c3])
                   have O9 := Lib.hid (T8.out.ho.setRow (g := w.heap.size) (.inr (Nat.le_refl _)) #[.int .i64 m9.kd, .int .i64 m9.pe, .int .i64 m9.hp, .bool m9.hi, .slice A1 m9.ps.length c1, .int .i64 m9.nu, .int .u64 (m9.su : Int), .int .i64 m9.mr.a.c, .int .i64 m9.mr.a.s, .string m9.mr.k, .slice A2 m9.ms.length c2, .slice A3 m9.es.length c3])
                   have L9 := Lib.hid (T8.out.ml.only ((Only.refl (one w.heap.size) w8).setRow (g := w.heap.size) (.inl rfl) #[.int .i64 m9.kd, .int .i64 m9.pe, .int .i64 m9.hp, .bool m9.hi, .slice A1 m9.ps.length c1, .int .i64 m9.nu, .int .u64 (m9.su : Int), .int .i64 m9.mr.a.c, .int .i64 m9.mr.a.s, .string m9.mr.k, .slice A2 m9.ms.length c2, .slice A3 m9.es.length c3]) (fun b hb e => by have e' : b = w.heap.size := e; have hb' : w.heap.size + 1 + 1 < b := hb; omega))))
              refine bodyPost_ret (results_cell_tmp rfl _ _ w.heap.size 31 _ _ rfl R9.out Tryz.underlying31 rfl (by kernel_rfl) (.int .i64 0) rfl) rfl ?_
              rw [HX.out, HC2.out]
              exact ⟨_, _, _, rfl, L9.out.mono (fun b _ hb => by have hb' : w.heap.size + 1 + 1 < b := hb; show w.heap.size ≤ b; omega), O9.out⟩
            · have HX : Hid (wdM kd bs = msZero 0) := by rw [Hid, HM.out, HC2.out, if_neg hd0]
              have hdb : (d != 0) = true := by simpa using hd0
              clear hd0
              go_wp2_with (first
                | (refine wpl_load rfl 169 _ rfl (w.heap.size + 1) rfl 169 #[.slice A bs.length c, .int .i64 (q : Int), .int .i64 4] _ T5.out.fc Tryz.underlying169 rfl (by kernel_rfl) ?_)
                | (go_at_call 83; refine (HDN.out _).mono ?_; rintro E w7 ⟨rfl, o7⟩
                   have T7 := Lib.hid (T5.out.keep o7)
                   clear o7)
                | (refine wpList_store_row rfl 169 _ _ rfl (w.heap.size + 1) #[.slice A bs.length c, .int .i64 (q : Int), .int .i64 d] rfl rfl 169 _ T7.out.fc (by kernel_rfl) rfl (by simp [Value.oneCell']) ?_
                   have T8 := Lib.hid (T7.out.cur #[.slice A bs.length c, .int .i64 (q : Int), .int .i64 d])
                   have y2 := T8.out.fc.cell_ (i := 2) rfl))
              generalize hW5 : w7.setRow _ _ = W5 at *
              clear hW5
              have D5 := Lib.hid (T8.out.keep (Only.refl none_ W5).drew)
              refine wp_region_any (by kernel_rfl) ?_
              try (change wpAny _ _ _ _ _ _ _ (World.drew _))
              refine wpAny_comes4 (v := .agg #[.int .i64 0, .int .i64 0, .int .i64 0, .bool false, .slice none 0 0, .int .i64 0, .int .u64 0, .int .i64 0, .int .i64 0, .string ⟨#[]⟩, .slice none 0 0, .slice none 0 0]) 0 48 rfl rfl rfl (by kernel_rfl) (by kernel_rfl) (by kernel_rfl) (fun w => by go_simp) (fun _ _ _ _ h => h) ?_
              simp only [Act.put, List.setIfInBounds_toArray, List.set_cons_zero, List.set_cons_succ]
              refine wpAny_comes4 (v := .pointer (some ⟨w.heap.size + 1, 2, none⟩)) 1 49 rfl rfl rfl (by kernel_rfl) (by kernel_rfl) (by kernel_rfl) (fun w => by go_simp) (fun _ _ _ _ h => h) ?_
              simp only [Act.put, List.setIfInBounds_toArray, List.set_cons_zero, List.set_cons_succ]
              refine wpAny_ready (rs := [2, 3]) (by kernel_rfl) (by simp) ?_
              refine AllReady.cons rfl (fun K hK => ?_) ?_
              · have y5 := D5.out.fc.cell_ (i := 2) rfl
                go_simp
                refine hK _ _ ?_
                clear hK K
                refine wpAny_ready (rs := [3]) (by kernel_rfl) (by simp) ?_
                refine AllReady.cons rfl (fun K hK => ?_) AllReady.nil
                refine step_store_row4 (by simp [Region.wanted]) 31 _ _ rfl w.heap.size #[.int .i64 0, .int .i64 0, .int .i64 0, .bool false, .slice none 0 0, .int .i64 0, .int .u64 0, .int .i64 0, .int .i64 0, .string ⟨#[]⟩, .slice none 0 0, .slice none 0 0] rfl rfl 31 _ D5.out.fz (by kernel_rfl) rfl (by simp [Value.oneCell']) ?_
                refine hK _ _ ?_
                clear hK K
                have R6 := Lib.hid (D5.out.fz.setRow #[.int .i64 0, .int .i64 0, .int .i64 0, .bool false, .slice none 0 0, .int .i64 0, .int .u64 0, .int .i64 0, .int .i64 0, .string ⟨#[]⟩, .slice none 0 0, .slice none 0 0])
                have O6 := Lib.hid (D5.out.ho.setRow (g := w.heap.size) (.inr (Nat.le_refl _)) #[.int .i64 0, .int .i64 0, .int .i64 0, .bool false, .slice none 0 0, .int .i64 0, .int .u64 0, .int .i64 0, .int .i64 0, .string ⟨#[]⟩, .slice none 0 0, .slice none 0 0])
                refine wpAny_ready (rs := [4]) (by kernel_rfl) (by simp) ?_
                refine AllReady.cons rfl (fun K hK => ?_) AllReady.nil
                go_simp
                refine hK _ _ ?_
                clear hK K
                refine wpAny_done (by kernel_rfl) ?_ _
                go_wp2_with fail
                refine bodyPost_ret (results_cell_tmp rfl _ _ w.heap.size 31 _ _ rfl R6.out Tryz.underlying31 rfl (by kernel_rfl) (.int .i64 d) rfl) rfl ?_
                rw [HX.out, HC2.out]
                exact ⟨_, _, _, rfl, Ml.nil _ _ _, O6.out⟩
              · refine AllReady.cons rfl (fun K hK => ?_) AllReady.nil
                refine step_store_row4 (by simp [Region.wanted]) 31 _ _ rfl w.heap.size #[.int .i64 0, .int .i64 0, .int .i64 0, .bool false, .slice none 0 0, .int .i64 0, .int .u64 0, .int .i64 0, .int .i64 0, .string ⟨#[]⟩, .slice none 0 0, .slice none 0 0] rfl rfl 31 _ D5.out.fz (by kernel_rfl) rfl (by simp [Value.oneCell']) ?_
                refine hK _ _ ?_
                clear hK K
                have R6 := Lib.hid (D5.out.fz.setRow #[.int .i64 0, .int .i64 0, .int .i64 0, .bool false, .slice none 0 0, .int .i64 0, .int .u64 0, .int .i64 0, .int .i64 0, .string ⟨#[]⟩, .slice none 0 0, .slice none 0 0])
                have O6 := Lib.hid (D5.out.ho.setRow (g := w.heap.size) (.inr (Nat.le_refl _)) #[.int .i64 0, .int .i64 0, .int .i64 0, .bool false, .slice none 0 0, .int .i64 0, .int .u64 0, .int .i64 0, .int .i64 0, .string ⟨#[]⟩, .slice none 0 0, .slice none 0 0])
                have y5 := (D5.out.fc.setRow_far (g' := w.heap.size) (by omega) #[.int .i64 0, .int .i64 0, .int .i64 0, .bool false, .slice none 0 0, .int .i64 0, .int .u64 0, .int .i64 0, .int .i64 0, .string ⟨#[]⟩, .slice none 0 0, .slice none 0 0]).cell_ (i := 2) rfl
                refine wpAny_ready (rs := [2]) (by kernel_rfl) (by simp) ?_
                refine AllReady.cons rfl (fun K hK => ?_) AllReady.nil
                go_simp
                refine hK _ _ ?_
                clear hK K
                refine wpAny_ready (rs := [4]) (by kernel_rfl) (by simp) ?_
                refine AllReady.cons rfl (fun K hK => ?_) AllReady.nil
                go_simp
                refine hK _ _ ?_
                clear hK K
                refine wpAny_done (by kernel_rfl) ?_ _
                go_wp2_with fail
                refine bodyPost_ret (results_cell_tmp rfl _ _ w.heap.size 31 _ _ rfl R6.out Tryz.underlying31 rfl (by kernel_rfl) (.int .i64 d) rfl) rfl ?_
                rw [HX.out, HC2.out]
                exact ⟨_, _, _, rfl, Ml.nil _ _ _, O6.out⟩
        · have heb : (e9 == 0) = false := by simpa using he
          have HCC : Hid (wdC kd bs = doneCode e9 r9) := by rw [Hid, HC.out, if_neg he]
          clear he HC
          go_upto_region 12 with fail
          obtain ⟨d, hd⟩ : ∃ d, doneCode e9 r9 = d := ⟨_, rfl⟩
          have HDN : Hid (∀ w', Calls Tryz.prog 83 #[.agg #[.slice A bs.length c, .int .i64 (q : Int), .int .i64 e9]] w' fun E w'' => E = .returned (.agg #[.slice A bs.length c, .int .i64 (q : Int), .int .i64 d]) ∧ Only none_ w' w'') := fun w' => by
            have := ref_done A bs.length c bs q e9 w' rfl HQL.out HLL.out
            rw [HQD.out, hd] at this
            exact this
          have HC2 : Hid (wdC kd bs = d) := HCC.out.trans hd
          clear hd
          by_cases hd0 : d = 0
          · subst hd0
            have HX : Hid (wdM kd bs = m9) := by rw [Hid, HM.out, HC2.out, if_pos rfl]
            go_wp2_with (first
              | (refine wpl_load rfl 169 _ rfl (w.heap.size + 1) rfl 169 #[.slice A bs.length c, .int .i64 (q : Int), .int .i64 e9] _ T.out.fc Tryz.underlying169 rfl (by kernel_rfl) ?_)
              | (go_at_call 83; refine (HDN.out _).mono ?_; rintro E w7 ⟨rfl, o7⟩
                 have T7 := Lib.hid (T.out.keep o7)
                 clear o7)
              | (refine wpList_store_row rfl 169 _ _ rfl (w.heap.size + 1) #[.slice A bs.length c, .int .i64 (q : Int), .int .i64 0] rfl rfl 169 _ T7.out.fc (by kernel_rfl) rfl (by simp [Value.oneCell']) ?_
                 have T8 := Lib.hid (T7.out.cur #[.slice A bs.length c, .int .i64 (q : Int), .int .i64 0])
                 generalize w7.setRow (w.heap.size + 1) #[.slice A bs.length c, .int .i64 (q : Int), .int .i64 0] = w8 at *
                 have y2 := T8.out.fc.cell_ (i := 2) rfl)
              | (refine wpl_load rfl 31 _ rfl (w.heap.size + 1 + 1) rfl 31 #[.int .i64 m9.kd, .int .i64 m9.pe, .int .i64 m9.hp, .bool m9.hi, .slice A1 m9.ps.length c1, .int .i64 m9.nu, .int .u64 (m9.su : Int), .int .i64 m9.mr.a.c, .int .i64 m9.mr.a.s, .string m9.mr.k, .slice A2 m9.ms.length c2, .slice A3 m9.es.length c3] _ T8.out.fl Tryz.underlying31 rfl (by kernel_rfl) ?_)
              | (refine wpList_store_row rfl 31 _ _ rfl w.heap.size #[.int .i64 m9.kd, .int .i64 m9.pe, .int .i64 m9.hp, .bool m9.hi, .slice A1 m9.ps.length c1, .int .i64 m9.nu, .int .u64 (m9.su : Int), .int .i64 m9.mr.a.c, .int .i64 m9.mr.a.s, .string m9.mr.k, .slice A2 m9.ms.length c2, .slice A3 m9.es.length c3] rfl rfl 31 _ T8.out.fz (by kernel_rfl) rfl (ms_one _ _ _ _ _ _ _ _ _ _) ?_
                 have R9 := Lib.hid (T8.out.fz.setRow #[.int .i64 m9.kd, .int .i64 m9.pe, .int .i64 m9.hp, .bool m9.hi, .slice A1 m9.ps.length c1, .int .i64 m9.nu, .int .u64 (m9.su : Int), .int .i64 m9.mr.a.c, .int .i64 m9.mr.a.s, .string m9.mr.k, .slice A2 m9.ms.length c2, .slice A3 m9.es.length c3])
                 have O9 := Lib.hid (T8.out.ho.setRow (g := w.heap.size) (.inr (Nat.le_refl _)) #[.int .i64 m9.kd, .int .i64 m9.pe, .int .i64 m9.hp, .bool m9.hi, .slice A1 m9.ps.length c1, .int .i64 m9.nu, .int .u64 (m9.su : Int), .int .i64 m9.mr.a.c, .int .i64 m9.mr.a.s, .string m9.mr.k, .slice A2 m9.ms.length c2, .slice A3 m9.es.length c3])
                 have L9 := Lib.hid (T8.out.ml.only ((Only.refl (one w.heap.size) w8).setRow (g := w.heap.size) (.inl rfl) #[.int .i64 m9.kd, .int .i64 m9.pe, .int .i64 m9.hp, .bool m9.hi, .slice A1 m9.ps.length c1, .int .i64 m9.nu, .int .u64 (m9.su : Int), .int .i64 m9.mr.a.c, .int .i64 m9.mr.a.s, .string m9.mr.k, .slice A2 m9.ms.length c2, .slice A3 m9.es.length c3]) (fun b hb e => by have e' : b = w.heap.size := e; have hb' : w.heap.size + 1 + 1 < b := hb; omega))))
            refine bodyPost_ret (results_cell_tmp rfl _ _ w.heap.size 31 _ _ rfl R9.out Tryz.underlying31 rfl (by kernel_rfl) (.int .i64 0) rfl) rfl ?_
            rw [HX.out, HC2.out]
            exact ⟨_, _, _, rfl, L9.out.mono (fun b _ hb => by have hb' : w.heap.size + 1 + 1 < b := hb; show w.heap.size ≤ b; omega), O9.out⟩
          · have HX : Hid (wdM kd bs = msZero 0) := by rw [Hid, HM.out, HC2.out, if_neg hd0]
            have hdb : (d != 0) = true := by simpa using hd0
            clear hd0
            go_wp2_with (first
              | (refine wpl_load rfl 169 _ rfl (w.heap.size + 1) rfl 169 #[.slice A bs.length c, .int .i64 (q : Int), .int .i64 e9] _ T.out.fc Tryz.underlying169 rfl (by kernel_rfl) ?_)
              | (go_at_call 83; refine (HDN.out _).mono ?_; rintro E w7 ⟨rfl, o7⟩
                 have T7 := Lib.hid (T.out.keep o7)
                 clear o7)
              | (refine wpList_store_row rfl 169 _ _ rfl (w.heap.size + 1) #[.slice A bs.length c, .int .i64 (q : Int), .int .i64 d] rfl rfl 169 _ T7.out.fc (by kernel_rfl) rfl (by simp [Value.oneCell']) ?_
                 have T8 := Lib.hid (T7.out.cur #[.slice A bs.length c, .int .i64 (q : Int), .int .i64 d])
                 have y2 := T8.out.fc.cell_ (i := 2) rfl))
            generalize hW5 : w7.setRow _ _ = W5 at *
            clear hW5
            have D5 := Lib.hid (T8.out.keep (Only.refl none_ W5).drew)
            refine wp_region_any (by kernel_rfl) ?_
            try (change wpAny _ _ _ _ _ _ _ (World.drew _))
            refine wpAny_comes4 (v := .agg #[.int .i64 0, .int .i64 0, .int .i64 0, .bool false, .slice none 0 0, .int .i64 0, .int .u64 0, .int .i64 0, .int .i64 0, .string ⟨#[]⟩, .slice none 0 0, .slice none 0 0]) 0 48 rfl rfl rfl (by kernel_rfl) (by kernel_rfl) (by kernel_rfl) (fun w => by go_simp) (fun _ _ _ _ h => h) ?_
            simp only [Act.put, List.setIfInBounds_toArray, List.set_cons_zero, List.set_cons_succ]
            refine wpAny_comes4 (v := .pointer (some ⟨w.heap.size + 1, 2, none⟩)) 1 49 rfl rfl rfl (by kernel_rfl) (by kernel_rfl) (by kernel_rfl) (fun w => by go_simp) (fun _ _ _ _ h => h) ?_
            simp only [Act.put, List.setIfInBounds_toArray, List.set_cons_zero, List.set_cons_succ]
            refine wpAny_ready (rs := [2, 3]) (by kernel_rfl) (by simp) ?_
            refine AllReady.cons rfl (fun K hK => ?_) ?_
            · have y5 := D5.out.fc.cell_ (i := 2) rfl
              go_simp
              refine hK _ _ ?_
              clear hK K
              refine wpAny_ready (rs := [3]) (by kernel_rfl) (by simp) ?_
              refine AllReady.cons rfl (fun K hK => ?_) AllReady.nil
              refine step_store_row4 (by simp [Region.wanted]) 31 _ _ rfl w.heap.size #[.int .i64 0, .int .i64 0, .int .i64 0, .bool false, .slice none 0 0, .int .i64 0, .int .u64 0, .int .i64 0, .int .i64 0, .string ⟨#[]⟩, .slice none 0 0, .slice none 0 0] rfl rfl 31 _ D5.out.fz (by kernel_rfl) rfl (by simp [Value.oneCell']) ?_
              refine hK _ _ ?_
              clear hK K
              have R6 := Lib.hid (D5.out.fz.setRow #[.int .i64 0, .int .i64 0, .int .i64 0, .bool false, .slice none 0 0, .int .i64 0, .int .u64 0, .int .i64 0, .int .i64 0, .string ⟨#[]⟩, .slice none 0 0, .slice none 0 0])
              have O6 := Lib.hid (D5.out.ho.setRow (g := w.heap.size) (.inr (Nat.le_refl _)) #[.int .i64 0, .int .i64 0, .int .i64 0, .bool false, .slice none 0 0, .int .i64 0, .int .u64 0, .int .i64 0, .int .i64 0, .string ⟨#[]⟩, .slice none 0 0, .slice none 0 0])
              refine wpAny_ready (rs := [4]) (by kernel_rfl) (by simp) ?_
              refine AllReady.cons rfl (fun K hK => ?_) AllReady.nil
              go_simp
              refine hK _ _ ?_
              clear hK K
              refine wpAny_done (by kernel_rfl) ?_ _
              go_wp2_with fail
              refine bodyPost_ret (results_cell_tmp rfl _ _ w.heap.size 31 _ _ rfl R6.out Tryz.underlying31 rfl (by kernel_rfl) (.int .i64 d) rfl) rfl ?_
              rw [HX.out, HC2.out]
              exact ⟨_, _, _, rfl, Ml.nil _ _ _, O6.out⟩
            · refine AllReady.cons rfl (fun K hK => ?_) AllReady.nil
              refine step_store_row4 (by simp [Region.wanted]) 31 _ _ rfl w.heap.size #[.int .i64 0, .int .i64 0, .int .i64 0, .bool false, .slice none 0 0, .int .i64 0, .int .u64 0, .int .i64 0, .int .i64 0, .string ⟨#[]⟩, .slice none 0 0, .slice none 0 0] rfl rfl 31 _ D5.out.fz (by kernel_rfl) rfl (by simp [Value.oneCell']) ?_
              refine hK _ _ ?_
              clear hK K
              have R6 := Lib.hid (D5.out.fz.setRow #[.int .i64 0, .int .i64 0, .int .i64 0, .bool false, .slice none 0 0, .int .i64 0, .int .u64 0, .int .i64 0, .int .i64 0, .string ⟨#[]⟩, .slice none 0 0, .slice none 0 0])
              have O6 := Lib.hid (D5.out.ho.setRow (g := w.heap.size) (.inr (Nat.le_refl _)) #[.int .i64 0, .int .i64 0, .int .i64 0, .bool false, .slice none 0 0, .int .i64 0, .int .u64 0, .int .i64 0, .int .i64 0, .string ⟨#[]⟩, .slice none 0 0, .slice none 0 0])
              have y5 := (D5.out.fc.setRow_far (g' := w.heap.size) (by omega) #[.int .i64 0, .int .i64 0, .int .i64 0, .bool false, .slice none 0 0, .int .i64 0, .int .u64 0, .int .i64 0, .int .i64 0, .string ⟨#[]⟩, .slice none 0 0, .slice none 0 0]).cell_ (i := 2) rfl
              refine wpAny_ready (rs := [2]) (by kernel_rfl) (by simp) ?_
              refine AllReady.cons rfl (fun K hK => ?_) AllReady.nil
              go_simp
              refine hK _ _ ?_
              clear hK K
              refine wpAny_ready (rs := [4]) (by kernel_rfl) (by simp) ?_
              refine AllReady.cons rfl (fun K hK => ?_) AllReady.nil
              go_simp
              refine hK _ _ ?_
              clear hK K
              refine wpAny_done (by kernel_rfl) ?_ _
              go_wp2_with fail
              refine bodyPost_ret (results_cell_tmp rfl _ _ w.heap.size 31 _ _ rfl R6.out Tryz.underlying31 rfl (by kernel_rfl) (.int .i64 d) rfl) rfl ?_
              rw [HX.out, HC2.out]
              exact ⟨_, _, _, rfl, Ml.nil _ _ _, O6.out⟩
  · have HC : Hid (wdC kd bs = 1) := by rw [Hid, wdC, if_neg hkd]
    have HX : Hid (wdM kd bs = msZero 0) := by rw [Hid, wdM, HC.out]; rfl
    by_cases hk1 : kd < 1
    · clear hkd
      go_enter Tryz.func26, Tryz.ntmps26
      go_wp2_with (first
        | (refine wpList_store_row rfl 31 _ _ rfl w.heap.size #[.int .i64 0, .int .i64 0, .int .i64 0, .bool false, .slice none 0 0, .int .i64 0, .int .u64 0, .int .i64 0, .int .i64 0, .string ⟨#[]⟩, .slice none 0 0, .slice none 0 0] rfl rfl 31 _ R0.out (by kernel_rfl) rfl (by simp [Value.oneCell']) ?_
           have R5 := Lib.hid (R0.out.setRow #[.int .i64 0, .int .i64 0, .int .i64 0, .bool false, .slice none 0 0, .int .i64 0, .int .u64 0, .int .i64 0, .int .i64 0, .string ⟨#[]⟩, .slice none 0 0, .slice none 0 0])
           have O5 := Lib.hid (O0.out.setRow (g := w.heap.size) (.inr (Nat.le_refl _)) #[.int .i64 0, .int .i64 0, .int .i64 0, .bool false, .slice none 0 0, .int .i64 0, .int .u64 0, .int .i64 0, .int .i64 0, .string ⟨#[]⟩, .slice none 0 0, .slice none 0 0])))
      refine bodyPost_ret (results_cell_tmp rfl _ _ w.heap.size 31 _ _ rfl R5.out Tryz.underlying31 rfl (by kernel_rfl) (.int .i64 1) rfl) rfl ?_
      rw [HX.out, HC.out]
      exact ⟨_, _, _, rfl, Ml.nil _ _ _, O5.out⟩
    · have hk9 : 19 < kd := by simp only [wKind, Bool.and_eq_true, decide_eq_true_eq] at hkd; omega
      clear hkd
      go_enter Tryz.func26, Tryz.ntmps26
      go_wp2_with (first
        | (refine wpList_store_row rfl 31 _ _ rfl w.heap.size #[.int .i64 0, .int .i64 0, .int .i64 0, .bool false, .slice none 0 0, .int .i64 0, .int .u64 0, .int .i64 0, .int .i64 0, .string ⟨#[]⟩, .slice none 0 0, .slice none 0 0] rfl rfl 31 _ R0.out (by kernel_rfl) rfl (by simp [Value.oneCell']) ?_
           have R5 := Lib.hid (R0.out.setRow #[.int .i64 0, .int .i64 0, .int .i64 0, .bool false, .slice none 0 0, .int .i64 0, .int .u64 0, .int .i64 0, .int .i64 0, .string ⟨#[]⟩, .slice none 0 0, .slice none 0 0])
           have O5 := Lib.hid (O0.out.setRow (g := w.heap.size) (.inr (Nat.le_refl _)) #[.int .i64 0, .int .i64 0, .int .i64 0, .bool false, .slice none 0 0, .int .i64 0, .int .u64 0, .int .i64 0, .int .i64 0, .string ⟨#[]⟩, .slice none 0 0, .slice none 0 0])))
      refine bodyPost_ret (results_cell_tmp rfl _ _ w.heap.size 31 _ _ rfl R5.out Tryz.underlying31 rfl (by kernel_rfl) (.int .i64 1) rfl) rfl ?_
      rw [HX.out, HC.out]
      exact ⟨_, _, _, rfl, Ml.nil _ _ _, O5.out⟩
end Go.Proofs.YtlieolehpmobfaaGreatDoor
end
