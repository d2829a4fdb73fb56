/- Texts of mine, one behind the other: WiU. No statement of the seat is proved here. -/
import Derived.Test.YtlieolehpmobfaaGreatDoorWt13
import Derived.Test.YtlieolehpmobfaaGreatDoorWt9
import Derived.Deep.DeepCutAuto
import Derived.Deep.Cut
import Derived.Deep.CutRange
section
namespace Go.Proofs.YtlieolehpmobfaaGreatDoor
open Go.RowKit
set_option linter.all false
set_option maxRecDepth 100000
def cntB (m : Ms) : Bool := decide (mLo m.kd 7 ≤ (m.ms.length : Int)) && decide ((m.ms.length : Int) ≤ mUp m.kd 7) && decide (mLo m.kd 8 ≤ (m.es.length : Int)) && decide ((m.es.length : Int) ≤ mUp m.kd 8) && decide ((m.ps.length : Int) ≤ 8)
def fldA (m : Ms) : Bool := !wHas m.kd 0 && (m.pe != 0 || m.hp != 0) || !wHas m.kd 2 && m.hi || !wHas m.kd 3 && decide (0 < (m.ps.length : Int))
def fldZ (m : Ms) : Bool := (wHas m.kd 4 || m.nu == 0) && (wHas m.kd 5 || (m.su : Int) == 0) && (wHas m.kd 6 || isTop m.mr)
set_option maxHeartbeats 6400000 in
theorem rd_counts (S : Nat → Prop) (m : Ms) (vp vm ve : Value) (w : World) (hl : Ml S m vp vm ve w) :
    Calls Tryz.prog 55 #[.agg #[.int .i64 m.kd, .int .i64 m.pe, .int .i64 m.hp, .bool m.hi, vp, .int .i64 m.nu, .int .u64 (m.su : Int), .int .i64 m.mr.a.c, .int .i64 m.mr.a.s, .string m.mr.k, vm, ve]] w fun e w' => e = .returned (.bool (cntB m)) ∧ Only none_ w w' := by
  obtain ⟨A1, c1, A2, c2, A3, c3, e1, e2, e3⟩ := hl.shape
  subst e1 e2 e3
  have XB := Lib.hid (Blk.new w 31 #[.int .i64 m.kd, .int .i64 m.pe, .int .i64 m.hp, .bool m.hi, .slice A1 m.ps.length c1, .int .i64 m.nu, .int .u64 (m.su : Int), .int .i64 m.mr.a.c, .int .i64 m.mr.a.s, .string m.mr.k, .slice A2 m.ms.length c2, .slice A3 m.es.length c3])
  have OB := Lib.hid ((Only.refl none_ w).alloc (.cells #[.int .i64 m.kd, .int .i64 m.pe, .int .i64 m.hp, .bool m.hi, .slice A1 m.ps.length c1, .int .i64 m.nu, .int .u64 (m.su : Int), .int .i64 m.mr.a.c, .int .i64 m.mr.a.s, .string m.mr.k, .slice A2 m.ms.length c2, .slice A3 m.es.length c3] 31))
  obtain ⟨a, ha⟩ : ∃ a, mLo m.kd 7 = a := ⟨_, rfl⟩
  obtain ⟨b, hb⟩ : ∃ a, mUp m.kd 7 = a := ⟨_, rfl⟩
  obtain ⟨c, hc⟩ : ∃ a, mLo m.kd 8 = a := ⟨_, rfl⟩
  obtain ⟨d, hd⟩ : ∃ a, mUp m.kd 8 = a := ⟨_, rfl⟩
  have HM7 := Lib.hid (rd_many m.kd 7 (.inl rfl) 7 rfl)
  have HM8 := Lib.hid (rd_many m.kd 8 (.inr rfl) 8 rfl)
  have HE : Hid (cntB m = (decide (a ≤ (m.ms.length : Int)) && decide ((m.ms.length : Int) ≤ b) && decide (c ≤ (m.es.length : Int)) && decide ((m.es.length : Int) ≤ d) && decide ((m.ps.length : Int) ≤ 8))) := by
    rw [Hid, cntB, ha, hb, hc, hd]
  rw [ha, hb] at HM7
  rw [hc, hd] at HM8
  clear ha hb hc hd hl
  by_cases q0 : a ≤ (m.ms.length : Int)
  · by_cases q1 : (m.ms.length : Int) ≤ b
    · by_cases q2 : c ≤ (m.es.length : Int)
      · by_cases q3 : (m.es.length : Int) ≤ d
        · by_cases q4 : (m.ps.length : Int) ≤ 8
          · have HX : Hid (cntB m = true) := by rw [Hid, HE.out]; simp [q0, q1, q2, q3, q4]
            have t0 := decide_eq_true q0
            have t1 := decide_eq_true q1
            have t2 := decide_eq_true q2
            have t3 := decide_eq_true q3
            have t4 := decide_eq_true q4
            clear q0 q1 q2 q3 q4
            go_enter Tryz.func55, Tryz.ntmps55
            go_wp2_with (first
                | (go_at_call 110; with_reducible refine (HM7.out _).mono ?_; rintro E w7 ⟨rfl, o7⟩
                   have O7 := Lib.hid (OB.out.trans o7)
                   have x7 := XB.out.only o7 (fun h => h)
                   have X7 := Lib.hid x7
                   have k0 := x7.cell_ (i := 0) rfl
                   clear o7 x7)
                | (go_at_call 110; with_reducible refine (HM8.out _).mono ?_; rintro E w8 ⟨rfl, o8⟩
                   have O8 := Lib.hid (O7.out.trans o8)
                   have x8 := X7.out.only o8 (fun h => h)
                   have j4 := x8.cell_ (i := 4) rfl
                   have j10 := x8.cell_ (i := 10) rfl
                   have j11 := x8.cell_ (i := 11) rfl
                   clear o8 x8))
            go_ret
            exact ⟨by rw [HX.out]; rfl, O8.out⟩
          · have HX : Hid (cntB m = false) := by rw [Hid, HE.out]; simp [q4]
            have t0 := decide_eq_true q0
            have t1 := decide_eq_true q1
            have t2 := decide_eq_true q2
            have t3 := decide_eq_true q3
            have t4 := decide_eq_false q4
            clear q0 q1 q2 q3 q4
            go_enter Tryz.func55, Tryz.ntmps55
            go_wp2_with (first
                | (go_at_call 110; with_reducible refine (HM7.out _).mono ?_; rintro E w7 ⟨rfl, o7⟩
                   have O7 := Lib.hid (OB.out.trans o7)
                   have x7 := XB.out.only o7 (fun h => h)
                   have X7 := Lib.hid x7
                   have k0 := x7.cell_ (i := 0) rfl
                   clear o7 x7)
                | (go_at_call 110; with_reducible refine (HM8.out _).mono ?_; rintro E w8 ⟨rfl, o8⟩
                   have O8 := Lib.hid (O7.out.trans o8)
                   have x8 := X7.out.only o8 (fun h => h)
                   have j4 := x8.cell_ (i := 4) rfl
                   have j10 := x8.cell_ (i := 10) rfl
                   have j11 := x8.cell_ (i := 11) rfl
                   clear o8 x8))
            go_ret
            exact ⟨by rw [HX.out]; rfl, O8.out⟩
        · have HX : Hid (cntB m = false) := by rw [Hid, HE.out]; simp [q3]
          have t0 := decide_eq_true q0
          have t1 := decide_eq_true q1
          have t2 := decide_eq_true q2
          have t3 := decide_eq_false q3
          clear q0 q1 q2 q3
          go_enter Tryz.func55, Tryz.ntmps55
          go_wp2_with (first
              | (go_at_call 110; with_reducible refine (HM7.out _).mono ?_; rintro E w7 ⟨rfl, o7⟩
                 have O7 := Lib.hid (OB.out.trans o7)
                 have x7 := XB.out.only o7 (fun h => h)
                 have X7 := Lib.hid x7
                 have k0 := x7.cell_ (i := 0) rfl
                 clear o7 x7)
              | (go_at_call 110; with_reducible refine (HM8.out _).mono ?_; rintro E w8 ⟨rfl, o8⟩
                 have O8 := Lib.hid (O7.out.trans o8)
                 have x8 := X7.out.only o8 (fun h => h)
                 have j4 := x8.cell_ (i := 4) rfl
                 have j10 := x8.cell_ (i := 10) rfl
                 have j11 := x8.cell_ (i := 11) rfl
                 clear o8 x8))
          go_ret
          exact ⟨by rw [HX.out]; rfl, O8.out⟩
      · have HX : Hid (cntB m = false) := by rw [Hid, HE.out]; simp [q2]
        have t0 := decide_eq_true q0
        have t1 := decide_eq_true q1
        have t2 := decide_eq_false q2
        clear q0 q1 q2
        go_enter Tryz.func55, Tryz.ntmps55
        go_wp2_with (first
            | (go_at_call 110; with_reducible refine (HM7.out _).mono ?_; rintro E w7 ⟨rfl, o7⟩
               have O7 := Lib.hid (OB.out.trans o7)
               have x7 := XB.out.only o7 (fun h => h)
               have X7 := Lib.hid x7
               have k0 := x7.cell_ (i := 0) rfl
               clear o7 x7)
            | (go_at_call 110; with_reducible refine (HM8.out _).mono ?_; rintro E w8 ⟨rfl, o8⟩
               have O8 := Lib.hid (O7.out.trans o8)
               have x8 := X7.out.only o8 (fun h => h)
               have j4 := x8.cell_ (i := 4) rfl
               have j10 := x8.cell_ (i := 10) rfl
               have j11 := x8.cell_ (i := 11) rfl
               clear o8 x8))
        go_ret
        exact ⟨by rw [HX.out]; rfl, O8.out⟩
    · have HX : Hid (cntB m = false) := by rw [Hid, HE.out]; simp [q1]
      have t0 := decide_eq_true q0
      have t1 := decide_eq_false q1
      clear q0 q1
      go_enter Tryz.func55, Tryz.ntmps55
      go_wp2_with (first
          | (go_at_call 110; with_reducible refine (HM7.out _).mono ?_; rintro E w7 ⟨rfl, o7⟩
             have O7 := Lib.hid (OB.out.trans o7)
             have x7 := XB.out.only o7 (fun h => h)
             have X7 := Lib.hid x7
             have k0 := x7.cell_ (i := 0) rfl
             clear o7 x7)
          | (go_at_call 110; with_reducible refine (HM8.out _).mono ?_; rintro E w8 ⟨rfl, o8⟩
             have O8 := Lib.hid (O7.out.trans o8)
             have x8 := X7.out.only o8 (fun h => h)
             have j4 := x8.cell_ (i := 4) rfl
             have j10 := x8.cell_ (i := 10) rfl
             have j11 := x8.cell_ (i := 11) rfl
             clear o8 x8))
      go_ret
      exact ⟨by rw [HX.out]; rfl, O8.out⟩
  · have HX : Hid (cntB m = false) := by rw [Hid, HE.out]; simp [q0]
    have t0 := decide_eq_false q0
    clear q0
    go_enter Tryz.func55, Tryz.ntmps55
    go_wp2_with (first
        | (go_at_call 110; with_reducible refine (HM7.out _).mono ?_; rintro E w7 ⟨rfl, o7⟩
           have O7 := Lib.hid (OB.out.trans o7)
           have x7 := XB.out.only o7 (fun h => h)
           have X7 := Lib.hid x7
           have k0 := x7.cell_ (i := 0) rfl
           clear o7 x7)
        | (go_at_call 110; with_reducible refine (HM8.out _).mono ?_; rintro E w8 ⟨rfl, o8⟩
           have O8 := Lib.hid (O7.out.trans o8)
           have x8 := X7.out.only o8 (fun h => h)
           have j4 := x8.cell_ (i := 4) rfl
           have j10 := x8.cell_ (i := 10) rfl
           have j11 := x8.cell_ (i := 11) rfl
           clear o8 x8))
    go_ret
    exact ⟨by rw [HX.out]; rfl, O8.out⟩
set_option maxHeartbeats 6400000 in
theorem rd_fields (S : Nat → Prop) (m : Ms) (vp vm ve : Value) (w : World) (hl : Ml S m vp vm ve w) :
    Calls Tryz.prog 56 #[.agg #[.int .i64 m.kd, .int .i64 m.pe, .int .i64 m.hp, .bool m.hi, vp, .int .i64 m.nu, .int .u64 (m.su : Int), .int .i64 m.mr.a.c, .int .i64 m.mr.a.s, .string m.mr.k, vm, ve]] w fun e w' => e = .returned (.bool (!fldA m && fldZ m)) ∧ Only none_ w w' := by
  obtain ⟨A1, c1, A2, c2, A3, c3, e1, e2, e3⟩ := hl.shape
  subst e1 e2 e3
  obtain ⟨w1, hw1⟩ : ∃ w1, w.alloc (.cells #[.int .i64 m.kd, .int .i64 m.pe, .int .i64 m.hp, .bool m.hi, .slice A1 m.ps.length c1, .int .i64 m.nu, .int .u64 (m.su : Int), .int .i64 m.mr.a.c, .int .i64 m.mr.a.s, .string m.mr.k, .slice A2 m.ms.length c2, .slice A3 m.es.length c3] 31) = w1 := ⟨_, rfl⟩
  have XB : Hid (Blk w1 w.heap.size 31 #[.int .i64 m.kd, .int .i64 m.pe, .int .i64 m.hp, .bool m.hi, .slice A1 m.ps.length c1, .int .i64 m.nu, .int .u64 (m.su : Int), .int .i64 m.mr.a.c, .int .i64 m.mr.a.s, .string m.mr.k, .slice A2 m.ms.length c2, .slice A3 m.es.length c3]) := by rw [Hid, ← hw1]; exact Blk.new w 31 #[.int .i64 m.kd, .int .i64 m.pe, .int .i64 m.hp, .bool m.hi, .slice A1 m.ps.length c1, .int .i64 m.nu, .int .u64 (m.su : Int), .int .i64 m.mr.a.c, .int .i64 m.mr.a.s, .string m.mr.k, .slice A2 m.ms.length c2, .slice A3 m.es.length c3]
  have OB : Hid (Only none_ w w1) := by rw [Hid, ← hw1]; exact (Only.refl none_ w).alloc _
  have HW := Lib.hid hw1
  obtain ⟨b2, hb2⟩ : ∃ b, fldA m = b := ⟨_, rfl⟩
  obtain ⟨b4, hb4⟩ : ∃ b, fldZ m = b := ⟨_, rfl⟩
  have HB2 := Lib.hid hb2
  have HB4 := Lib.hid hb4
  rw [hb2, hb4]
  have k0 := XB.out.cell_ (i := 0) rfl
  clear hw1 hb2 hb4 hl
  go_enter Tryz.func56, Tryz.ntmps56
  go_upto_region 1 with fail
  rw [HW.out]
  go_upto_region 2 with fail
  have HFA : Hid (fldA m = (!wHas m.kd 0 && (m.pe != 0 || m.hp != 0) || !wHas m.kd 2 && m.hi || !wHas m.kd 3 && decide (0 < (m.ps.length : Int)))) := rfl
  have HFZ : Hid (fldZ m = ((wHas m.kd 4 || m.nu == 0) && (wHas m.kd 5 || (m.su : Int) == 0) && (wHas m.kd 6 || isTop m.mr))) := rfl
  go_cut [38] from 4 to 38 (fun s38 w' => s38 = .bool b2 ∧ Only none_ w1 w')
  case rest =>
    obtain ⟨rfl, o2⟩ := hcut
    have P1 := Lib.hid o2
    clear o2
    cases b2
    · obtain ⟨h4, e4⟩ : ∃ b, wHas m.kd 4 = b := ⟨_, rfl⟩
      have HH4 := Lib.hid e4
      clear e4
      cases h4
      · by_cases q4 : m.nu = 0
        · have f4 : (m.nu == 0) = true := by simp [q4]
          have G4 := Lib.hid f4
          clear q4
          obtain ⟨h5, e5⟩ : ∃ b, wHas m.kd 5 = b := ⟨_, rfl⟩
          have HH5 := Lib.hid e5
          clear e5
          cases h5
          · by_cases q5 : m.su = 0
            · have f5 : ((m.su : Int) == 0) = true := by simp [q5]
              have f5' : (m.su == 0) = true := by simp [q5]
              have G5 := Lib.hid f5
              clear q5
              obtain ⟨h6, e6⟩ : ∃ b, wHas m.kd 6 = b := ⟨_, rfl⟩
              have HH6 := Lib.hid e6
              clear e6
              cases h6
              · have eT : ∀ w, (binOp .eql 27 (.agg #[.int .i64 m.mr.a.c, .int .i64 m.mr.a.s, .string m.mr.k]) (.agg #[.int .i64 0, .int .i64 0, .string ⟨#[]⟩])).run Tryz.prog w = .ok (.bool (mkSame m.mr mkTop)) w := fun w => eqlR w m.mr mkTop
                go_wp2_with (first
                  | (go_at_call 76; with_reducible refine (rd_has4 m.kd _).mono ?_; rw [HH4.out]; rintro E u4 ⟨rfl, o9⟩
                     have P4 := Lib.hid (P1.out.trans o9)
                     have x9 := XB.out.only P4.out (fun h => h)
                     have z4_5 := x9.cell_ (i := 5) rfl
                     have z4_6 := x9.cell_ (i := 6) rfl
                     have z4_7 := x9.cell_ (i := 7) rfl
                     have z4_8 := x9.cell_ (i := 8) rfl
                     have z4_9 := x9.cell_ (i := 9) rfl
                     clear o9 x9)
                  | (go_at_call 76; with_reducible refine (rd_has5 m.kd _).mono ?_; rw [HH5.out]; rintro E u5 ⟨rfl, o9⟩
                     have P5 := Lib.hid (P4.out.trans o9)
                     have x9 := XB.out.only P5.out (fun h => h)
                     have z5_5 := x9.cell_ (i := 5) rfl
                     have z5_6 := x9.cell_ (i := 6) rfl
                     have z5_7 := x9.cell_ (i := 7) rfl
                     have z5_8 := x9.cell_ (i := 8) rfl
                     have z5_9 := x9.cell_ (i := 9) rfl
                     clear o9 x9)
                  | (go_at_call 76; with_reducible refine (rd_has6 m.kd _).mono ?_; rw [HH6.out]; rintro E u6 ⟨rfl, o9⟩
                     have P6 := Lib.hid (P5.out.trans o9)
                     have x9 := XB.out.only P6.out (fun h => h)
                     have z6_5 := x9.cell_ (i := 5) rfl
                     have z6_6 := x9.cell_ (i := 6) rfl
                     have z6_7 := x9.cell_ (i := 7) rfl
                     have z6_8 := x9.cell_ (i := 8) rfl
                     have z6_9 := x9.cell_ (i := 9) rfl
                     clear o9 x9))
                go_ret
                exact ⟨by rw [← HB4.out, HFZ.out, HH4.out, G4.out, HH5.out, G5.out, HH6.out]; rfl, OB.out.trans P6.out⟩
              · go_wp2_with (first
                  | (go_at_call 76; with_reducible refine (rd_has4 m.kd _).mono ?_; rw [HH4.out]; rintro E u4 ⟨rfl, o9⟩
                     have P4 := Lib.hid (P1.out.trans o9)
                     have x9 := XB.out.only P4.out (fun h => h)
                     have z4_5 := x9.cell_ (i := 5) rfl
                     have z4_6 := x9.cell_ (i := 6) rfl
                     have z4_7 := x9.cell_ (i := 7) rfl
                     have z4_8 := x9.cell_ (i := 8) rfl
                     have z4_9 := x9.cell_ (i := 9) rfl
                     clear o9 x9)
                  | (go_at_call 76; with_reducible refine (rd_has5 m.kd _).mono ?_; rw [HH5.out]; rintro E u5 ⟨rfl, o9⟩
                     have P5 := Lib.hid (P4.out.trans o9)
                     have x9 := XB.out.only P5.out (fun h => h)
                     have z5_5 := x9.cell_ (i := 5) rfl
                     have z5_6 := x9.cell_ (i := 6) rfl
                     have z5_7 := x9.cell_ (i := 7) rfl
                     have z5_8 := x9.cell_ (i := 8) rfl
                     have z5_9 := x9.cell_ (i := 9) rfl
                     clear o9 x9)
                  | (go_at_call 76; with_reducible refine (rd_has6 m.kd _).mono ?_; rw [HH6.out]; rintro E u6 ⟨rfl, o9⟩
                     have P6 := Lib.hid (P5.out.trans o9)
                     have x9 := XB.out.only P6.out (fun h => h)
                     have z6_5 := x9.cell_ (i := 5) rfl
                     have z6_6 := x9.cell_ (i := 6) rfl
                     have z6_7 := x9.cell_ (i := 7) rfl
                     have z6_8 := x9.cell_ (i := 8) rfl
                     have z6_9 := x9.cell_ (i := 9) rfl
                     clear o9 x9))
                go_ret
                exact ⟨by rw [← HB4.out, HFZ.out, HH4.out, G4.out, HH5.out, G5.out, HH6.out]; rfl, OB.out.trans P6.out⟩
            · have f5 : ((m.su : Int) == 0) = false := by simp [q5]
              have f5' : (m.su == 0) = false := by simp [q5]
              have G5 := Lib.hid f5
              clear q5
              go_wp2_with (first
                | (go_at_call 76; with_reducible refine (rd_has4 m.kd _).mono ?_; rw [HH4.out]; rintro E u4 ⟨rfl, o9⟩
                   have P4 := Lib.hid (P1.out.trans o9)
                   have x9 := XB.out.only P4.out (fun h => h)
                   have z4_5 := x9.cell_ (i := 5) rfl
                   have z4_6 := x9.cell_ (i := 6) rfl
                   have z4_7 := x9.cell_ (i := 7) rfl
                   have z4_8 := x9.cell_ (i := 8) rfl
                   have z4_9 := x9.cell_ (i := 9) rfl
                   clear o9 x9)
                | (go_at_call 76; with_reducible refine (rd_has5 m.kd _).mono ?_; rw [HH5.out]; rintro E u5 ⟨rfl, o9⟩
                   have P5 := Lib.hid (P4.out.trans o9)
                   have x9 := XB.out.only P5.out (fun h => h)
                   have z5_5 := x9.cell_ (i := 5) rfl
                   have z5_6 := x9.cell_ (i := 6) rfl
                   have z5_7 := x9.cell_ (i := 7) rfl
                   have z5_8 := x9.cell_ (i := 8) rfl
                   have z5_9 := x9.cell_ (i := 9) rfl
                   clear o9 x9)
                | (go_at_call 76; with_reducible refine (rd_has6 m.kd _).mono ?_; rw [HH6.out]; rintro E u6 ⟨rfl, o9⟩
                   have P6 := Lib.hid (P5.out.trans o9)
                   have x9 := XB.out.only P6.out (fun h => h)
                   have z6_5 := x9.cell_ (i := 5) rfl
                   have z6_6 := x9.cell_ (i := 6) rfl
                   have z6_7 := x9.cell_ (i := 7) rfl
                   have z6_8 := x9.cell_ (i := 8) rfl
                   have z6_9 := x9.cell_ (i := 9) rfl
                   clear o9 x9))
              go_ret
              exact ⟨by rw [← HB4.out, HFZ.out, HH4.out, G4.out, HH5.out, G5.out]; rfl, OB.out.trans P5.out⟩
          · obtain ⟨h6, e6⟩ : ∃ b, wHas m.kd 6 = b := ⟨_, rfl⟩
            have HH6 := Lib.hid e6
            clear e6
            cases h6
            · have eT : ∀ w, (binOp .eql 27 (.agg #[.int .i64 m.mr.a.c, .int .i64 m.mr.a.s, .string m.mr.k]) (.agg #[.int .i64 0, .int .i64 0, .string ⟨#[]⟩])).run Tryz.prog w = .ok (.bool (mkSame m.mr mkTop)) w := fun w => eqlR w m.mr mkTop
              go_wp2_with (first
                | (go_at_call 76; with_reducible refine (rd_has4 m.kd _).mono ?_; rw [HH4.out]; rintro E u4 ⟨rfl, o9⟩
                   have P4 := Lib.hid (P1.out.trans o9)
                   have x9 := XB.out.only P4.out (fun h => h)
                   have z4_5 := x9.cell_ (i := 5) rfl
                   have z4_6 := x9.cell_ (i := 6) rfl
                   have z4_7 := x9.cell_ (i := 7) rfl
                   have z4_8 := x9.cell_ (i := 8) rfl
                   have z4_9 := x9.cell_ (i := 9) rfl
                   clear o9 x9)
                | (go_at_call 76; with_reducible refine (rd_has5 m.kd _).mono ?_; rw [HH5.out]; rintro E u5 ⟨rfl, o9⟩
                   have P5 := Lib.hid (P4.out.trans o9)
                   have x9 := XB.out.only P5.out (fun h => h)
                   have z5_5 := x9.cell_ (i := 5) rfl
                   have z5_6 := x9.cell_ (i := 6) rfl
                   have z5_7 := x9.cell_ (i := 7) rfl
                   have z5_8 := x9.cell_ (i := 8) rfl
                   have z5_9 := x9.cell_ (i := 9) rfl
                   clear o9 x9)
                | (go_at_call 76; with_reducible refine (rd_has6 m.kd _).mono ?_; rw [HH6.out]; rintro E u6 ⟨rfl, o9⟩
                   have P6 := Lib.hid (P5.out.trans o9)
                   have x9 := XB.out.only P6.out (fun h => h)
                   have z6_5 := x9.cell_ (i := 5) rfl
                   have z6_6 := x9.cell_ (i := 6) rfl
                   have z6_7 := x9.cell_ (i := 7) rfl
                   have z6_8 := x9.cell_ (i := 8) rfl
                   have z6_9 := x9.cell_ (i := 9) rfl
                   clear o9 x9))
              go_ret
              exact ⟨by rw [← HB4.out, HFZ.out, HH4.out, G4.out, HH5.out, HH6.out]; rfl, OB.out.trans P6.out⟩
            · go_wp2_with (first
                | (go_at_call 76; with_reducible refine (rd_has4 m.kd _).mono ?_; rw [HH4.out]; rintro E u4 ⟨rfl, o9⟩
                   have P4 := Lib.hid (P1.out.trans o9)
                   have x9 := XB.out.only P4.out (fun h => h)
                   have z4_5 := x9.cell_ (i := 5) rfl
                   have z4_6 := x9.cell_ (i := 6) rfl
                   have z4_7 := x9.cell_ (i := 7) rfl
                   have z4_8 := x9.cell_ (i := 8) rfl
                   have z4_9 := x9.cell_ (i := 9) rfl
                   clear o9 x9)
                | (go_at_call 76; with_reducible refine (rd_has5 m.kd _).mono ?_; rw [HH5.out]; rintro E u5 ⟨rfl, o9⟩
                   have P5 := Lib.hid (P4.out.trans o9)
                   have x9 := XB.out.only P5.out (fun h => h)
                   have z5_5 := x9.cell_ (i := 5) rfl
                   have z5_6 := x9.cell_ (i := 6) rfl
                   have z5_7 := x9.cell_ (i := 7) rfl
                   have z5_8 := x9.cell_ (i := 8) rfl
                   have z5_9 := x9.cell_ (i := 9) rfl
                   clear o9 x9)
                | (go_at_call 76; with_reducible refine (rd_has6 m.kd _).mono ?_; rw [HH6.out]; rintro E u6 ⟨rfl, o9⟩
                   have P6 := Lib.hid (P5.out.trans o9)
                   have x9 := XB.out.only P6.out (fun h => h)
                   have z6_5 := x9.cell_ (i := 5) rfl
                   have z6_6 := x9.cell_ (i := 6) rfl
                   have z6_7 := x9.cell_ (i := 7) rfl
                   have z6_8 := x9.cell_ (i := 8) rfl
                   have z6_9 := x9.cell_ (i := 9) rfl
                   clear o9 x9))
              go_ret
              exact ⟨by rw [← HB4.out, HFZ.out, HH4.out, G4.out, HH5.out, HH6.out]; rfl, OB.out.trans P6.out⟩
        · have f4 : (m.nu == 0) = false := by simp [q4]
          have G4 := Lib.hid f4
          clear q4
          go_wp2_with (first
            | (go_at_call 76; with_reducible refine (rd_has4 m.kd _).mono ?_; rw [HH4.out]; rintro E u4 ⟨rfl, o9⟩
               have P4 := Lib.hid (P1.out.trans o9)
               have x9 := XB.out.only P4.out (fun h => h)
               have z4_5 := x9.cell_ (i := 5) rfl
               have z4_6 := x9.cell_ (i := 6) rfl
               have z4_7 := x9.cell_ (i := 7) rfl
               have z4_8 := x9.cell_ (i := 8) rfl
               have z4_9 := x9.cell_ (i := 9) rfl
               clear o9 x9)
            | (go_at_call 76; with_reducible refine (rd_has5 m.kd _).mono ?_; rw [HH5.out]; rintro E u5 ⟨rfl, o9⟩
               have P5 := Lib.hid (P4.out.trans o9)
               have x9 := XB.out.only P5.out (fun h => h)
               have z5_5 := x9.cell_ (i := 5) rfl
               have z5_6 := x9.cell_ (i := 6) rfl
               have z5_7 := x9.cell_ (i := 7) rfl
               have z5_8 := x9.cell_ (i := 8) rfl
               have z5_9 := x9.cell_ (i := 9) rfl
               clear o9 x9)
            | (go_at_call 76; with_reducible refine (rd_has6 m.kd _).mono ?_; rw [HH6.out]; rintro E u6 ⟨rfl, o9⟩
               have P6 := Lib.hid (P5.out.trans o9)
               have x9 := XB.out.only P6.out (fun h => h)
               have z6_5 := x9.cell_ (i := 5) rfl
               have z6_6 := x9.cell_ (i := 6) rfl
               have z6_7 := x9.cell_ (i := 7) rfl
               have z6_8 := x9.cell_ (i := 8) rfl
               have z6_9 := x9.cell_ (i := 9) rfl
               clear o9 x9))
          go_ret
          exact ⟨by rw [← HB4.out, HFZ.out, HH4.out, G4.out]; rfl, OB.out.trans P4.out⟩
      · obtain ⟨h5, e5⟩ : ∃ b, wHas m.kd 5 = b := ⟨_, rfl⟩
        have HH5 := Lib.hid e5
        clear e5
        cases h5
        · by_cases q5 : m.su = 0
          · have f5 : ((m.su : Int) == 0) = true := by simp [q5]
            have f5' : (m.su == 0) = true := by simp [q5]
            have G5 := Lib.hid f5
            clear q5
            obtain ⟨h6, e6⟩ : ∃ b, wHas m.kd 6 = b := ⟨_, rfl⟩
            have HH6 := Lib.hid e6
            clear e6
            cases h6
            · have eT : ∀ w, (binOp .eql 27 (.agg #[.int .i64 m.mr.a.c, .int .i64 m.mr.a.s, .string m.mr.k]) (.agg #[.int .i64 0, .int .i64 0, .string ⟨#[]⟩])).run Tryz.prog w = .ok (.bool (mkSame m.mr mkTop)) w := fun w => eqlR w m.mr mkTop
              go_wp2_with (first
                | (go_at_call 76; with_reducible refine (rd_has4 m.kd _).mono ?_; rw [HH4.out]; rintro E u4 ⟨rfl, o9⟩
                   have P4 := Lib.hid (P1.out.trans o9)
                   have x9 := XB.out.only P4.out (fun h => h)
                   have z4_5 := x9.cell_ (i := 5) rfl
                   have z4_6 := x9.cell_ (i := 6) rfl
                   have z4_7 := x9.cell_ (i := 7) rfl
                   have z4_8 := x9.cell_ (i := 8) rfl
                   have z4_9 := x9.cell_ (i := 9) rfl
                   clear o9 x9)
                | (go_at_call 76; with_reducible refine (rd_has5 m.kd _).mono ?_; rw [HH5.out]; rintro E u5 ⟨rfl, o9⟩
                   have P5 := Lib.hid (P4.out.trans o9)
                   have x9 := XB.out.only P5.out (fun h => h)
                   have z5_5 := x9.cell_ (i := 5) rfl
                   have z5_6 := x9.cell_ (i := 6) rfl
                   have z5_7 := x9.cell_ (i := 7) rfl
                   have z5_8 := x9.cell_ (i := 8) rfl
                   have z5_9 := x9.cell_ (i := 9) rfl
                   clear o9 x9)
                | (go_at_call 76; with_reducible refine (rd_has6 m.kd _).mono ?_; rw [HH6.out]; rintro E u6 ⟨rfl, o9⟩
                   have P6 := Lib.hid (P5.out.trans o9)
                   have x9 := XB.out.only P6.out (fun h => h)
                   have z6_5 := x9.cell_ (i := 5) rfl
                   have z6_6 := x9.cell_ (i := 6) rfl
                   have z6_7 := x9.cell_ (i := 7) rfl
                   have z6_8 := x9.cell_ (i := 8) rfl
                   have z6_9 := x9.cell_ (i := 9) rfl
                   clear o9 x9))
              go_ret
              exact ⟨by rw [← HB4.out, HFZ.out, HH4.out, HH5.out, G5.out, HH6.out]; rfl, OB.out.trans P6.out⟩
            · go_wp2_with (first
                | (go_at_call 76; with_reducible refine (rd_has4 m.kd _).mono ?_; rw [HH4.out]; rintro E u4 ⟨rfl, o9⟩
                   have P4 := Lib.hid (P1.out.trans o9)
                   have x9 := XB.out.only P4.out (fun h => h)
                   have z4_5 := x9.cell_ (i := 5) rfl
                   have z4_6 := x9.cell_ (i := 6) rfl
                   have z4_7 := x9.cell_ (i := 7) rfl
                   have z4_8 := x9.cell_ (i := 8) rfl
                   have z4_9 := x9.cell_ (i := 9) rfl
                   clear o9 x9)
                | (go_at_call 76; with_reducible refine (rd_has5 m.kd _).mono ?_; rw [HH5.out]; rintro E u5 ⟨rfl, o9⟩
                   have P5 := Lib.hid (P4.out.trans o9)
                   have x9 := XB.out.only P5.out (fun h => h)
                   have z5_5 := x9.cell_ (i := 5) rfl
                   have z5_6 := x9.cell_ (i := 6) rfl
                   have z5_7 := x9.cell_ (i := 7) rfl
                   have z5_8 := x9.cell_ (i := 8) rfl
                   have z5_9 := x9.cell_ (i := 9) rfl
                   clear o9 x9)
                | (go_at_call 76; with_reducible refine (rd_has6 m.kd _).mono ?_; rw [HH6.out]; rintro E u6 ⟨rfl, o9⟩
                   have P6 := Lib.hid (P5.out.trans o9)
                   have x9 := XB.out.only P6.out (fun h => h)
                   have z6_5 := x9.cell_ (i := 5) rfl
                   have z6_6 := x9.cell_ (i := 6) rfl
                   have z6_7 := x9.cell_ (i := 7) rfl
                   have z6_8 := x9.cell_ (i := 8) rfl
                   have z6_9 := x9.cell_ (i := 9) rfl
                   clear o9 x9))
              go_ret
              exact ⟨by rw [← HB4.out, HFZ.out, HH4.out, HH5.out, G5.out, HH6.out]; rfl, OB.out.trans P6.out⟩
          · have f5 : ((m.su : Int) == 0) = false := by simp [q5]
            have f5' : (m.su == 0) = false := by simp [q5]
            have G5 := Lib.hid f5
            clear q5
            go_wp2_with (first
              | (go_at_call 76; with_reducible refine (rd_has4 m.kd _).mono ?_; rw [HH4.out]; rintro E u4 ⟨rfl, o9⟩
                 have P4 := Lib.hid (P1.out.trans o9)
                 have x9 := XB.out.only P4.out (fun h => h)
                 have z4_5 := x9.cell_ (i := 5) rfl
                 have z4_6 := x9.cell_ (i := 6) rfl
                 have z4_7 := x9.cell_ (i := 7) rfl
                 have z4_8 := x9.cell_ (i := 8) rfl
                 have z4_9 := x9.cell_ (i := 9) rfl
                 clear o9 x9)
              | (go_at_call 76; with_reducible refine (rd_has5 m.kd _).mono ?_; rw [HH5.out]; rintro E u5 ⟨rfl, o9⟩
                 have P5 := Lib.hid (P4.out.trans o9)
                 have x9 := XB.out.only P5.out (fun h => h)
                 have z5_5 := x9.cell_ (i := 5) rfl
                 have z5_6 := x9.cell_ (i := 6) rfl
                 have z5_7 := x9.cell_ (i := 7) rfl
                 have z5_8 := x9.cell_ (i := 8) rfl
                 have z5_9 := x9.cell_ (i := 9) rfl
                 clear o9 x9)
              | (go_at_call 76; with_reducible refine (rd_has6 m.kd _).mono ?_; rw [HH6.out]; rintro E u6 ⟨rfl, o9⟩
                 have P6 := Lib.hid (P5.out.trans o9)
                 have x9 := XB.out.only P6.out (fun h => h)
                 have z6_5 := x9.cell_ (i := 5) rfl
                 have z6_6 := x9.cell_ (i := 6) rfl
                 have z6_7 := x9.cell_ (i := 7) rfl
                 have z6_8 := x9.cell_ (i := 8) rfl
                 have z6_9 := x9.cell_ (i := 9) rfl
                 clear o9 x9))
            go_ret
            exact ⟨by rw [← HB4.out, HFZ.out, HH4.out, HH5.out, G5.out]; rfl, OB.out.trans P5.out⟩
        · obtain ⟨h6, e6⟩ : ∃ b, wHas m.kd 6 = b := ⟨_, rfl⟩
          have HH6 := Lib.hid e6
          clear e6
          cases h6
          · have eT : ∀ w, (binOp .eql 27 (.agg #[.int .i64 m.mr.a.c, .int .i64 m.mr.a.s, .string m.mr.k]) (.agg #[.int .i64 0, .int .i64 0, .string ⟨#[]⟩])).run Tryz.prog w = .ok (.bool (mkSame m.mr mkTop)) w := fun w => eqlR w m.mr mkTop
            go_wp2_with (first
              | (go_at_call 76; with_reducible refine (rd_has4 m.kd _).mono ?_; rw [HH4.out]; rintro E u4 ⟨rfl, o9⟩
                 have P4 := Lib.hid (P1.out.trans o9)
                 have x9 := XB.out.only P4.out (fun h => h)
                 have z4_5 := x9.cell_ (i := 5) rfl
                 have z4_6 := x9.cell_ (i := 6) rfl
                 have z4_7 := x9.cell_ (i := 7) rfl
                 have z4_8 := x9.cell_ (i := 8) rfl
                 have z4_9 := x9.cell_ (i := 9) rfl
                 clear o9 x9)
              | (go_at_call 76; with_reducible refine (rd_has5 m.kd _).mono ?_; rw [HH5.out]; rintro E u5 ⟨rfl, o9⟩
                 have P5 := Lib.hid (P4.out.trans o9)
                 have x9 := XB.out.only P5.out (fun h => h)
                 have z5_5 := x9.cell_ (i := 5) rfl
                 have z5_6 := x9.cell_ (i := 6) rfl
                 have z5_7 := x9.cell_ (i := 7) rfl
                 have z5_8 := x9.cell_ (i := 8) rfl
                 have z5_9 := x9.cell_ (i := 9) rfl
                 clear o9 x9)
              | (go_at_call 76; with_reducible refine (rd_has6 m.kd _).mono ?_; rw [HH6.out]; rintro E u6 ⟨rfl, o9⟩
                 have P6 := Lib.hid (P5.out.trans o9)
                 have x9 := XB.out.only P6.out (fun h => h)
                 have z6_5 := x9.cell_ (i := 5) rfl
                 have z6_6 := x9.cell_ (i := 6) rfl
                 have z6_7 := x9.cell_ (i := 7) rfl
                 have z6_8 := x9.cell_ (i := 8) rfl
                 have z6_9 := x9.cell_ (i := 9) rfl
                 clear o9 x9))
            go_ret
            exact ⟨by rw [← HB4.out, HFZ.out, HH4.out, HH5.out, HH6.out]; rfl, OB.out.trans P6.out⟩
          · go_wp2_with (first
              | (go_at_call 76; with_reducible refine (rd_has4 m.kd _).mono ?_; rw [HH4.out]; rintro E u4 ⟨rfl, o9⟩
                 have P4 := Lib.hid (P1.out.trans o9)
                 have x9 := XB.out.only P4.out (fun h => h)
                 have z4_5 := x9.cell_ (i := 5) rfl
                 have z4_6 := x9.cell_ (i := 6) rfl
                 have z4_7 := x9.cell_ (i := 7) rfl
                 have z4_8 := x9.cell_ (i := 8) rfl
                 have z4_9 := x9.cell_ (i := 9) rfl
                 clear o9 x9)
              | (go_at_call 76; with_reducible refine (rd_has5 m.kd _).mono ?_; rw [HH5.out]; rintro E u5 ⟨rfl, o9⟩
                 have P5 := Lib.hid (P4.out.trans o9)
                 have x9 := XB.out.only P5.out (fun h => h)
                 have z5_5 := x9.cell_ (i := 5) rfl
                 have z5_6 := x9.cell_ (i := 6) rfl
                 have z5_7 := x9.cell_ (i := 7) rfl
                 have z5_8 := x9.cell_ (i := 8) rfl
                 have z5_9 := x9.cell_ (i := 9) rfl
                 clear o9 x9)
              | (go_at_call 76; with_reducible refine (rd_has6 m.kd _).mono ?_; rw [HH6.out]; rintro E u6 ⟨rfl, o9⟩
                 have P6 := Lib.hid (P5.out.trans o9)
                 have x9 := XB.out.only P6.out (fun h => h)
                 have z6_5 := x9.cell_ (i := 5) rfl
                 have z6_6 := x9.cell_ (i := 6) rfl
                 have z6_7 := x9.cell_ (i := 7) rfl
                 have z6_8 := x9.cell_ (i := 8) rfl
                 have z6_9 := x9.cell_ (i := 9) rfl
                 clear o9 x9))
            go_ret
            exact ⟨by rw [← HB4.out, HFZ.out, HH4.out, HH5.out, HH6.out]; rfl, OB.out.trans P6.out⟩
    · go_wp2_with fail
      go_ret
      exact ⟨rfl, OB.out.trans P1.out⟩
  case first =>
    obtain ⟨hib, ehi⟩ : ∃ b, m.hi = b := ⟨_, rfl⟩
    have HIB := Lib.hid ehi
    clear ehi
    obtain ⟨h0, e0⟩ : ∃ b, wHas m.kd 0 = b := ⟨_, rfl⟩
    have HH0 := Lib.hid e0
    clear e0
    cases h0
    · by_cases q1 : m.pe = 0
      · have f1 : (m.pe != 0) = false := by simp [q1]
        have G1 := Lib.hid f1
        clear q1
        by_cases q2 : m.hp = 0
        · have f2 : (m.hp != 0) = false := by simp [q2]
          have G2 := Lib.hid f2
          clear q2
          obtain ⟨h2, e2⟩ : ∃ b, wHas m.kd 2 = b := ⟨_, rfl⟩
          have HH2 := Lib.hid e2
          clear e2
          cases h2
          · cases hib
            · obtain ⟨h3, e3⟩ : ∃ b, wHas m.kd 3 = b := ⟨_, rfl⟩
              have HH3 := Lib.hid e3
              clear e3
              cases h3
              · go_wp2_with (first
                  | (go_at_call 76; with_reducible refine (rd_has0 m.kd _).mono ?_; rw [HH0.out]; rintro E u0 ⟨rfl, o9⟩
                     have P0 := Lib.hid ((Only.refl none_ w1).trans o9)
                     have x9 := XB.out.only P0.out (fun h => h)
                     have z0_1 := x9.cell_ (i := 1) rfl
                     have z0_2 := x9.cell_ (i := 2) rfl
                     have z0_3 : u0.cell? ⟨w.heap.size, 3, none⟩ = some (.bool _) := (x9.cell_ (i := 3) rfl).trans (by rw [HIB.out]; rfl)
                     have z0_4 := x9.cell_ (i := 4) rfl
                     clear o9 x9)
                  | (go_at_call 76; with_reducible refine (rd_has2 m.kd _).mono ?_; rw [HH2.out]; rintro E u2 ⟨rfl, o9⟩
                     have P2 := Lib.hid (P0.out.trans o9)
                     have x9 := XB.out.only P2.out (fun h => h)
                     have z2_1 := x9.cell_ (i := 1) rfl
                     have z2_2 := x9.cell_ (i := 2) rfl
                     have z2_3 : u2.cell? ⟨w.heap.size, 3, none⟩ = some (.bool _) := (x9.cell_ (i := 3) rfl).trans (by rw [HIB.out]; rfl)
                     have z2_4 := x9.cell_ (i := 4) rfl
                     clear o9 x9)
                  | (go_at_call 76; with_reducible refine (rd_has3 m.kd _).mono ?_; rw [HH3.out]; rintro E u3 ⟨rfl, o9⟩
                     have P3 := Lib.hid (P2.out.trans o9)
                     have x9 := XB.out.only P3.out (fun h => h)
                     have z3_1 := x9.cell_ (i := 1) rfl
                     have z3_2 := x9.cell_ (i := 2) rfl
                     have z3_3 : u3.cell? ⟨w.heap.size, 3, none⟩ = some (.bool _) := (x9.cell_ (i := 3) rfl).trans (by rw [HIB.out]; rfl)
                     have z3_4 := x9.cell_ (i := 4) rfl
                     clear o9 x9))
                go_meet
                case rel => exact ⟨by rw [← HB2.out, HFA.out, HH0.out, G1.out, G2.out, HH2.out, HIB.out, HH3.out]; simp, P3.out⟩
              · go_wp2_with (first
                  | (go_at_call 76; with_reducible refine (rd_has0 m.kd _).mono ?_; rw [HH0.out]; rintro E u0 ⟨rfl, o9⟩
                     have P0 := Lib.hid ((Only.refl none_ w1).trans o9)
                     have x9 := XB.out.only P0.out (fun h => h)
                     have z0_1 := x9.cell_ (i := 1) rfl
                     have z0_2 := x9.cell_ (i := 2) rfl
                     have z0_3 : u0.cell? ⟨w.heap.size, 3, none⟩ = some (.bool _) := (x9.cell_ (i := 3) rfl).trans (by rw [HIB.out]; rfl)
                     have z0_4 := x9.cell_ (i := 4) rfl
                     clear o9 x9)
                  | (go_at_call 76; with_reducible refine (rd_has2 m.kd _).mono ?_; rw [HH2.out]; rintro E u2 ⟨rfl, o9⟩
                     have P2 := Lib.hid (P0.out.trans o9)
                     have x9 := XB.out.only P2.out (fun h => h)
                     have z2_1 := x9.cell_ (i := 1) rfl
                     have z2_2 := x9.cell_ (i := 2) rfl
                     have z2_3 : u2.cell? ⟨w.heap.size, 3, none⟩ = some (.bool _) := (x9.cell_ (i := 3) rfl).trans (by rw [HIB.out]; rfl)
                     have z2_4 := x9.cell_ (i := 4) rfl
                     clear o9 x9)
                  | (go_at_call 76; with_reducible refine (rd_has3 m.kd _).mono ?_; rw [HH3.out]; rintro E u3 ⟨rfl, o9⟩
                     have P3 := Lib.hid (P2.out.trans o9)
                     have x9 := XB.out.only P3.out (fun h => h)
                     have z3_1 := x9.cell_ (i := 1) rfl
                     have z3_2 := x9.cell_ (i := 2) rfl
                     have z3_3 : u3.cell? ⟨w.heap.size, 3, none⟩ = some (.bool _) := (x9.cell_ (i := 3) rfl).trans (by rw [HIB.out]; rfl)
                     have z3_4 := x9.cell_ (i := 4) rfl
                     clear o9 x9))
                go_meet
                case rel => exact ⟨by rw [← HB2.out, HFA.out, HH0.out, G1.out, G2.out, HH2.out, HIB.out, HH3.out]; rfl, P3.out⟩
            · go_wp2_with (first
                | (go_at_call 76; with_reducible refine (rd_has0 m.kd _).mono ?_; rw [HH0.out]; rintro E u0 ⟨rfl, o9⟩
                   have P0 := Lib.hid ((Only.refl none_ w1).trans o9)
                   have x9 := XB.out.only P0.out (fun h => h)
                   have z0_1 := x9.cell_ (i := 1) rfl
                   have z0_2 := x9.cell_ (i := 2) rfl
                   have z0_3 : u0.cell? ⟨w.heap.size, 3, none⟩ = some (.bool _) := (x9.cell_ (i := 3) rfl).trans (by rw [HIB.out]; rfl)
                   have z0_4 := x9.cell_ (i := 4) rfl
                   clear o9 x9)
                | (go_at_call 76; with_reducible refine (rd_has2 m.kd _).mono ?_; rw [HH2.out]; rintro E u2 ⟨rfl, o9⟩
                   have P2 := Lib.hid (P0.out.trans o9)
                   have x9 := XB.out.only P2.out (fun h => h)
                   have z2_1 := x9.cell_ (i := 1) rfl
                   have z2_2 := x9.cell_ (i := 2) rfl
                   have z2_3 : u2.cell? ⟨w.heap.size, 3, none⟩ = some (.bool _) := (x9.cell_ (i := 3) rfl).trans (by rw [HIB.out]; rfl)
                   have z2_4 := x9.cell_ (i := 4) rfl
                   clear o9 x9)
                | (go_at_call 76; with_reducible refine (rd_has3 m.kd _).mono ?_; rw [HH3.out]; rintro E u3 ⟨rfl, o9⟩
                   have P3 := Lib.hid (P2.out.trans o9)
                   have x9 := XB.out.only P3.out (fun h => h)
                   have z3_1 := x9.cell_ (i := 1) rfl
                   have z3_2 := x9.cell_ (i := 2) rfl
                   have z3_3 : u3.cell? ⟨w.heap.size, 3, none⟩ = some (.bool _) := (x9.cell_ (i := 3) rfl).trans (by rw [HIB.out]; rfl)
                   have z3_4 := x9.cell_ (i := 4) rfl
                   clear o9 x9))
              go_meet
              case rel => exact ⟨by rw [← HB2.out, HFA.out, HH0.out, G1.out, G2.out, HH2.out, HIB.out]; rfl, P2.out⟩
          · obtain ⟨h3, e3⟩ : ∃ b, wHas m.kd 3 = b := ⟨_, rfl⟩
            have HH3 := Lib.hid e3
            clear e3
            cases h3
            · go_wp2_with (first
                | (go_at_call 76; with_reducible refine (rd_has0 m.kd _).mono ?_; rw [HH0.out]; rintro E u0 ⟨rfl, o9⟩
                   have P0 := Lib.hid ((Only.refl none_ w1).trans o9)
                   have x9 := XB.out.only P0.out (fun h => h)
                   have z0_1 := x9.cell_ (i := 1) rfl
                   have z0_2 := x9.cell_ (i := 2) rfl
                   have z0_3 : u0.cell? ⟨w.heap.size, 3, none⟩ = some (.bool _) := (x9.cell_ (i := 3) rfl).trans (by rw [HIB.out]; rfl)
                   have z0_4 := x9.cell_ (i := 4) rfl
                   clear o9 x9)
                | (go_at_call 76; with_reducible refine (rd_has2 m.kd _).mono ?_; rw [HH2.out]; rintro E u2 ⟨rfl, o9⟩
                   have P2 := Lib.hid (P0.out.trans o9)
                   have x9 := XB.out.only P2.out (fun h => h)
                   have z2_1 := x9.cell_ (i := 1) rfl
                   have z2_2 := x9.cell_ (i := 2) rfl
                   have z2_3 : u2.cell? ⟨w.heap.size, 3, none⟩ = some (.bool _) := (x9.cell_ (i := 3) rfl).trans (by rw [HIB.out]; rfl)
                   have z2_4 := x9.cell_ (i := 4) rfl
                   clear o9 x9)
                | (go_at_call 76; with_reducible refine (rd_has3 m.kd _).mono ?_; rw [HH3.out]; rintro E u3 ⟨rfl, o9⟩
                   have P3 := Lib.hid (P2.out.trans o9)
                   have x9 := XB.out.only P3.out (fun h => h)
                   have z3_1 := x9.cell_ (i := 1) rfl
                   have z3_2 := x9.cell_ (i := 2) rfl
                   have z3_3 : u3.cell? ⟨w.heap.size, 3, none⟩ = some (.bool _) := (x9.cell_ (i := 3) rfl).trans (by rw [HIB.out]; rfl)
                   have z3_4 := x9.cell_ (i := 4) rfl
                   clear o9 x9))
              go_meet
              case rel => exact ⟨by rw [← HB2.out, HFA.out, HH0.out, G1.out, G2.out, HH2.out, HH3.out]; simp, P3.out⟩
            · go_wp2_with (first
                | (go_at_call 76; with_reducible refine (rd_has0 m.kd _).mono ?_; rw [HH0.out]; rintro E u0 ⟨rfl, o9⟩
                   have P0 := Lib.hid ((Only.refl none_ w1).trans o9)
                   have x9 := XB.out.only P0.out (fun h => h)
                   have z0_1 := x9.cell_ (i := 1) rfl
                   have z0_2 := x9.cell_ (i := 2) rfl
                   have z0_3 : u0.cell? ⟨w.heap.size, 3, none⟩ = some (.bool _) := (x9.cell_ (i := 3) rfl).trans (by rw [HIB.out]; rfl)
                   have z0_4 := x9.cell_ (i := 4) rfl
                   clear o9 x9)
                | (go_at_call 76; with_reducible refine (rd_has2 m.kd _).mono ?_; rw [HH2.out]; rintro E u2 ⟨rfl, o9⟩
                   have P2 := Lib.hid (P0.out.trans o9)
                   have x9 := XB.out.only P2.out (fun h => h)
                   have z2_1 := x9.cell_ (i := 1) rfl
                   have z2_2 := x9.cell_ (i := 2) rfl
                   have z2_3 : u2.cell? ⟨w.heap.size, 3, none⟩ = some (.bool _) := (x9.cell_ (i := 3) rfl).trans (by rw [HIB.out]; rfl)
                   have z2_4 := x9.cell_ (i := 4) rfl
                   clear o9 x9)
                | (go_at_call 76; with_reducible refine (rd_has3 m.kd _).mono ?_; rw [HH3.out]; rintro E u3 ⟨rfl, o9⟩
                   have P3 := Lib.hid (P2.out.trans o9)
                   have x9 := XB.out.only P3.out (fun h => h)
                   have z3_1 := x9.cell_ (i := 1) rfl
                   have z3_2 := x9.cell_ (i := 2) rfl
                   have z3_3 : u3.cell? ⟨w.heap.size, 3, none⟩ = some (.bool _) := (x9.cell_ (i := 3) rfl).trans (by rw [HIB.out]; rfl)
                   have z3_4 := x9.cell_ (i := 4) rfl
                   clear o9 x9))
              go_meet
              case rel => exact ⟨by rw [← HB2.out, HFA.out, HH0.out, G1.out, G2.out, HH2.out, HH3.out]; rfl, P3.out⟩
        · have f2 : (m.hp != 0) = true := by simp [q2]
          have G2 := Lib.hid f2
          clear q2
          go_wp2_with (first
            | (go_at_call 76; with_reducible refine (rd_has0 m.kd _).mono ?_; rw [HH0.out]; rintro E u0 ⟨rfl, o9⟩
               have P0 := Lib.hid ((Only.refl none_ w1).trans o9)
               have x9 := XB.out.only P0.out (fun h => h)
               have z0_1 := x9.cell_ (i := 1) rfl
               have z0_2 := x9.cell_ (i := 2) rfl
               have z0_3 : u0.cell? ⟨w.heap.size, 3, none⟩ = some (.bool _) := (x9.cell_ (i := 3) rfl).trans (by rw [HIB.out]; rfl)
               have z0_4 := x9.cell_ (i := 4) rfl
               clear o9 x9)
            | (go_at_call 76; with_reducible refine (rd_has2 m.kd _).mono ?_; rw [HH2.out]; rintro E u2 ⟨rfl, o9⟩
               have P2 := Lib.hid (P0.out.trans o9)
               have x9 := XB.out.only P2.out (fun h => h)
               have z2_1 := x9.cell_ (i := 1) rfl
               have z2_2 := x9.cell_ (i := 2) rfl
               have z2_3 : u2.cell? ⟨w.heap.size, 3, none⟩ = some (.bool _) := (x9.cell_ (i := 3) rfl).trans (by rw [HIB.out]; rfl)
               have z2_4 := x9.cell_ (i := 4) rfl
               clear o9 x9)
            | (go_at_call 76; with_reducible refine (rd_has3 m.kd _).mono ?_; rw [HH3.out]; rintro E u3 ⟨rfl, o9⟩
               have P3 := Lib.hid (P2.out.trans o9)
               have x9 := XB.out.only P3.out (fun h => h)
               have z3_1 := x9.cell_ (i := 1) rfl
               have z3_2 := x9.cell_ (i := 2) rfl
               have z3_3 : u3.cell? ⟨w.heap.size, 3, none⟩ = some (.bool _) := (x9.cell_ (i := 3) rfl).trans (by rw [HIB.out]; rfl)
               have z3_4 := x9.cell_ (i := 4) rfl
               clear o9 x9))
          go_meet
          case rel => exact ⟨by rw [← HB2.out, HFA.out, HH0.out, G1.out, G2.out]; rfl, P0.out⟩
      · have f1 : (m.pe != 0) = true := by simp [q1]
        have G1 := Lib.hid f1
        clear q1
        go_wp2_with (first
          | (go_at_call 76; with_reducible refine (rd_has0 m.kd _).mono ?_; rw [HH0.out]; rintro E u0 ⟨rfl, o9⟩
             have P0 := Lib.hid ((Only.refl none_ w1).trans o9)
             have x9 := XB.out.only P0.out (fun h => h)
             have z0_1 := x9.cell_ (i := 1) rfl
             have z0_2 := x9.cell_ (i := 2) rfl
             have z0_3 : u0.cell? ⟨w.heap.size, 3, none⟩ = some (.bool _) := (x9.cell_ (i := 3) rfl).trans (by rw [HIB.out]; rfl)
             have z0_4 := x9.cell_ (i := 4) rfl
             clear o9 x9)
          | (go_at_call 76; with_reducible refine (rd_has2 m.kd _).mono ?_; rw [HH2.out]; rintro E u2 ⟨rfl, o9⟩
             have P2 := Lib.hid (P0.out.trans o9)
             have x9 := XB.out.only P2.out (fun h => h)
             have z2_1 := x9.cell_ (i := 1) rfl
             have z2_2 := x9.cell_ (i := 2) rfl
             have z2_3 : u2.cell? ⟨w.heap.size, 3, none⟩ = some (.bool _) := (x9.cell_ (i := 3) rfl).trans (by rw [HIB.out]; rfl)
             have z2_4 := x9.cell_ (i := 4) rfl
             clear o9 x9)
          | (go_at_call 76; with_reducible refine (rd_has3 m.kd _).mono ?_; rw [HH3.out]; rintro E u3 ⟨rfl, o9⟩
             have P3 := Lib.hid (P2.out.trans o9)
             have x9 := XB.out.only P3.out (fun h => h)
             have z3_1 := x9.cell_ (i := 1) rfl
             have z3_2 := x9.cell_ (i := 2) rfl
             have z3_3 : u3.cell? ⟨w.heap.size, 3, none⟩ = some (.bool _) := (x9.cell_ (i := 3) rfl).trans (by rw [HIB.out]; rfl)
             have z3_4 := x9.cell_ (i := 4) rfl
             clear o9 x9))
        go_meet
        case rel => exact ⟨by rw [← HB2.out, HFA.out, HH0.out, G1.out]; rfl, P0.out⟩
    · obtain ⟨h2, e2⟩ : ∃ b, wHas m.kd 2 = b := ⟨_, rfl⟩
      have HH2 := Lib.hid e2
      clear e2
      cases h2
      · cases hib
        · obtain ⟨h3, e3⟩ : ∃ b, wHas m.kd 3 = b := ⟨_, rfl⟩
          have HH3 := Lib.hid e3
          clear e3
          cases h3
          · go_wp2_with (first
              | (go_at_call 76; with_reducible refine (rd_has0 m.kd _).mono ?_; rw [HH0.out]; rintro E u0 ⟨rfl, o9⟩
                 have P0 := Lib.hid ((Only.refl none_ w1).trans o9)
                 have x9 := XB.out.only P0.out (fun h => h)
                 have z0_1 := x9.cell_ (i := 1) rfl
                 have z0_2 := x9.cell_ (i := 2) rfl
                 have z0_3 : u0.cell? ⟨w.heap.size, 3, none⟩ = some (.bool _) := (x9.cell_ (i := 3) rfl).trans (by rw [HIB.out]; rfl)
                 have z0_4 := x9.cell_ (i := 4) rfl
                 clear o9 x9)
              | (go_at_call 76; with_reducible refine (rd_has2 m.kd _).mono ?_; rw [HH2.out]; rintro E u2 ⟨rfl, o9⟩
                 have P2 := Lib.hid (P0.out.trans o9)
                 have x9 := XB.out.only P2.out (fun h => h)
                 have z2_1 := x9.cell_ (i := 1) rfl
                 have z2_2 := x9.cell_ (i := 2) rfl
                 have z2_3 : u2.cell? ⟨w.heap.size, 3, none⟩ = some (.bool _) := (x9.cell_ (i := 3) rfl).trans (by rw [HIB.out]; rfl)
                 have z2_4 := x9.cell_ (i := 4) rfl
                 clear o9 x9)
              | (go_at_call 76; with_reducible refine (rd_has3 m.kd _).mono ?_; rw [HH3.out]; rintro E u3 ⟨rfl, o9⟩
                 have P3 := Lib.hid (P2.out.trans o9)
                 have x9 := XB.out.only P3.out (fun h => h)
                 have z3_1 := x9.cell_ (i := 1) rfl
                 have z3_2 := x9.cell_ (i := 2) rfl
                 have z3_3 : u3.cell? ⟨w.heap.size, 3, none⟩ = some (.bool _) := (x9.cell_ (i := 3) rfl).trans (by rw [HIB.out]; rfl)
                 have z3_4 := x9.cell_ (i := 4) rfl
                 clear o9 x9))
            go_meet
            case rel => exact ⟨by rw [← HB2.out, HFA.out, HH0.out, HH2.out, HIB.out, HH3.out]; simp, P3.out⟩
          · go_wp2_with (first
              | (go_at_call 76; with_reducible refine (rd_has0 m.kd _).mono ?_; rw [HH0.out]; rintro E u0 ⟨rfl, o9⟩
                 have P0 := Lib.hid ((Only.refl none_ w1).trans o9)
                 have x9 := XB.out.only P0.out (fun h => h)
                 have z0_1 := x9.cell_ (i := 1) rfl
                 have z0_2 := x9.cell_ (i := 2) rfl
                 have z0_3 : u0.cell? ⟨w.heap.size, 3, none⟩ = some (.bool _) := (x9.cell_ (i := 3) rfl).trans (by rw [HIB.out]; rfl)
                 have z0_4 := x9.cell_ (i := 4) rfl
                 clear o9 x9)
              | (go_at_call 76; with_reducible refine (rd_has2 m.kd _).mono ?_; rw [HH2.out]; rintro E u2 ⟨rfl, o9⟩
                 have P2 := Lib.hid (P0.out.trans o9)
                 have x9 := XB.out.only P2.out (fun h => h)
                 have z2_1 := x9.cell_ (i := 1) rfl
                 have z2_2 := x9.cell_ (i := 2) rfl
                 have z2_3 : u2.cell? ⟨w.heap.size, 3, none⟩ = some (.bool _) := (x9.cell_ (i := 3) rfl).trans (by rw [HIB.out]; rfl)
                 have z2_4 := x9.cell_ (i := 4) rfl
                 clear o9 x9)
              | (go_at_call 76; with_reducible refine (rd_has3 m.kd _).mono ?_; rw [HH3.out]; rintro E u3 ⟨rfl, o9⟩
                 have P3 := Lib.hid (P2.out.trans o9)
                 have x9 := XB.out.only P3.out (fun h => h)
                 have z3_1 := x9.cell_ (i := 1) rfl
                 have z3_2 := x9.cell_ (i := 2) rfl
                 have z3_3 : u3.cell? ⟨w.heap.size, 3, none⟩ = some (.bool _) := (x9.cell_ (i := 3) rfl).trans (by rw [HIB.out]; rfl)
                 have z3_4 := x9.cell_ (i := 4) rfl
                 clear o9 x9))
            go_meet
            case rel => exact ⟨by rw [← HB2.out, HFA.out, HH0.out, HH2.out, HIB.out, HH3.out]; rfl, P3.out⟩
        · go_wp2_with (first
            | (go_at_call 76; with_reducible refine (rd_has0 m.kd _).mono ?_; rw [HH0.out]; rintro E u0 ⟨rfl, o9⟩
               have P0 := Lib.hid ((Only.refl none_ w1).trans o9)
               have x9 := XB.out.only P0.out (fun h => h)
               have z0_1 := x9.cell_ (i := 1) rfl
               have z0_2 := x9.cell_ (i := 2) rfl
               have z0_3 : u0.cell? ⟨w.heap.size, 3, none⟩ = some (.bool _) := (x9.cell_ (i := 3) rfl).trans (by rw [HIB.out]; rfl)
               have z0_4 := x9.cell_ (i := 4) rfl
               clear o9 x9)
            | (go_at_call 76; with_reducible refine (rd_has2 m.kd _).mono ?_; rw [HH2.out]; rintro E u2 ⟨rfl, o9⟩
               have P2 := Lib.hid (P0.out.trans o9)
               have x9 := XB.out.only P2.out (fun h => h)
               have z2_1 := x9.cell_ (i := 1) rfl
               have z2_2 := x9.cell_ (i := 2) rfl
               have z2_3 : u2.cell? ⟨w.heap.size, 3, none⟩ = some (.bool _) := (x9.cell_ (i := 3) rfl).trans (by rw [HIB.out]; rfl)
               have z2_4 := x9.cell_ (i := 4) rfl
               clear o9 x9)
            | (go_at_call 76; with_reducible refine (rd_has3 m.kd _).mono ?_; rw [HH3.out]; rintro E u3 ⟨rfl, o9⟩
               have P3 := Lib.hid (P2.out.trans o9)
               have x9 := XB.out.only P3.out (fun h => h)
               have z3_1 := x9.cell_ (i := 1) rfl
               have z3_2 := x9.cell_ (i := 2) rfl
               have z3_3 : u3.cell? ⟨w.heap.size, 3, none⟩ = some (.bool _) := (x9.cell_ (i := 3) rfl).trans (by rw [HIB.out]; rfl)
               have z3_4 := x9.cell_ (i := 4) rfl
               clear o9 x9))
          go_meet
          case rel => exact ⟨by rw [← HB2.out, HFA.out, HH0.out, HH2.out, HIB.out]; rfl, P2.out⟩
      · obtain ⟨h3, e3⟩ : ∃ b, wHas m.kd 3 = b := ⟨_, rfl⟩
        have HH3 := Lib.hid e3
        clear e3
        cases h3
        · go_wp2_with (first
            | (go_at_call 76; with_reducible refine (rd_has0 m.kd _).mono ?_; rw [HH0.out]; rintro E u0 ⟨rfl, o9⟩
               have P0 := Lib.hid ((Only.refl none_ w1).trans o9)
               have x9 := XB.out.only P0.out (fun h => h)
               have z0_1 := x9.cell_ (i := 1) rfl
               have z0_2 := x9.cell_ (i := 2) rfl
               have z0_3 : u0.cell? ⟨w.heap.size, 3, none⟩ = some (.bool _) := (x9.cell_ (i := 3) rfl).trans (by rw [HIB.out]; rfl)
               have z0_4 := x9.cell_ (i := 4) rfl
               clear o9 x9)
            | (go_at_call 76; with_reducible refine (rd_has2 m.kd _).mono ?_; rw [HH2.out]; rintro E u2 ⟨rfl, o9⟩
               have P2 := Lib.hid (P0.out.trans o9)
               have x9 := XB.out.only P2.out (fun h => h)
               have z2_1 := x9.cell_ (i := 1) rfl
               have z2_2 := x9.cell_ (i := 2) rfl
               have z2_3 : u2.cell? ⟨w.heap.size, 3, none⟩ = some (.bool _) := (x9.cell_ (i := 3) rfl).trans (by rw [HIB.out]; rfl)
               have z2_4 := x9.cell_ (i := 4) rfl
               clear o9 x9)
            | (go_at_call 76; with_reducible refine (rd_has3 m.kd _).mono ?_; rw [HH3.out]; rintro E u3 ⟨rfl, o9⟩
               have P3 := Lib.hid (P2.out.trans o9)
               have x9 := XB.out.only P3.out (fun h => h)
               have z3_1 := x9.cell_ (i := 1) rfl
               have z3_2 := x9.cell_ (i := 2) rfl
               have z3_3 : u3.cell? ⟨w.heap.size, 3, none⟩ = some (.bool _) := (x9.cell_ (i := 3) rfl).trans (by rw [HIB.out]; rfl)
               have z3_4 := x9.cell_ (i := 4) rfl
               clear o9 x9))
          go_meet
          case rel => exact ⟨by rw [← HB2.out, HFA.out, HH0.out, HH2.out, HH3.out]; simp, P3.out⟩
        · go_wp2_with (first
            | (go_at_call 76; with_reducible refine (rd_has0 m.kd _).mono ?_; rw [HH0.out]; rintro E u0 ⟨rfl, o9⟩
               have P0 := Lib.hid ((Only.refl none_ w1).trans o9)
               have x9 := XB.out.only P0.out (fun h => h)
               have z0_1 := x9.cell_ (i := 1) rfl
               have z0_2 := x9.cell_ (i := 2) rfl
               have z0_3 : u0.cell? ⟨w.heap.size, 3, none⟩ = some (.bool _) := (x9.cell_ (i := 3) rfl).trans (by rw [HIB.out]; rfl)
               have z0_4 := x9.cell_ (i := 4) rfl
               clear o9 x9)
            | (go_at_call 76; with_reducible refine (rd_has2 m.kd _).mono ?_; rw [HH2.out]; rintro E u2 ⟨rfl, o9⟩
               have P2 := Lib.hid (P0.out.trans o9)
               have x9 := XB.out.only P2.out (fun h => h)
               have z2_1 := x9.cell_ (i := 1) rfl
               have z2_2 := x9.cell_ (i := 2) rfl
               have z2_3 : u2.cell? ⟨w.heap.size, 3, none⟩ = some (.bool _) := (x9.cell_ (i := 3) rfl).trans (by rw [HIB.out]; rfl)
               have z2_4 := x9.cell_ (i := 4) rfl
               clear o9 x9)
            | (go_at_call 76; with_reducible refine (rd_has3 m.kd _).mono ?_; rw [HH3.out]; rintro E u3 ⟨rfl, o9⟩
               have P3 := Lib.hid (P2.out.trans o9)
               have x9 := XB.out.only P3.out (fun h => h)
               have z3_1 := x9.cell_ (i := 1) rfl
               have z3_2 := x9.cell_ (i := 2) rfl
               have z3_3 : u3.cell? ⟨w.heap.size, 3, none⟩ = some (.bool _) := (x9.cell_ (i := 3) rfl).trans (by rw [HIB.out]; rfl)
               have z3_4 := x9.cell_ (i := 4) rfl
               clear o9 x9))
          go_meet
          case rel => exact ⟨by rw [← HB2.out, HFA.out, HH0.out, HH2.out, HH3.out]; rfl, P3.out⟩
end Go.Proofs.YtlieolehpmobfaaGreatDoor
end
