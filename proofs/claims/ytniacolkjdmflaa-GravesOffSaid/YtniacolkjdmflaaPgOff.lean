/- The statement GravesOff: for every number of a byte and every slice of acts the call returns true, and both read afterwards as they read before. No condition. -/
import Derived.Test.YtniacolkjdmflaaPg19
import Derived.Test.YtniacolkjdmflaaPg20
import Derived.Test.YtniacolkjdmflaaPg5
section
namespace Go.Proofs.Ytniacolkjdmflaa
open Go.RowKit
set_option maxRecDepth 100000
set_option linter.all false

set_option maxHeartbeats 12800000 in
theorem graves_off (A : Option Addr) (c : Nat) (S : Nat → Prop) (l : List Ga) (y : Nat) (hy : y < 256) (w : World) (hx : Cel w S (.slice A l.length c) l.length 10 (l.flatMap gaRow)) :
    Calls Try.prog 5 #[.int .u8 (y : Int), .slice A l.length c] w fun E w' => E = .returned (.bool true) ∧ Only none_ w w' := by
  have HSP := Lib.hid (fun (X : World) => gv_speaks X)
  have HFW := Lib.hid (fun (X : World) (o : Only none_ w X) => g_few _ l X S (hx.only o (fun _ _ h => h)))
  obtain ⟨fw, hfw⟩ : ∃ b, (l.all gaShort && decide (l.length ≤ 50)) = b := ⟨_, rfl⟩
  rw [hfw] at HFW
  have HX := Lib.hid hx
  obtain ⟨L, hL⟩ : ∃ L, l.length = L := ⟨_, rfl⟩
  have HL := Lib.hid hL
  rw [hL] at HFW HX ⊢
  have hLm : L ≤ 9223372036854775807 := by
    obtain ⟨_, _, e, _, h2, h3, _, _⟩ := HX.out
    injection e with _ _ e
    subst e
    simp only [maxLen] at h3; omega
  clear hL hx
  cases fw with
  | false =>
    clear HX
    go_enter Try.func5, Try.ntmps5
    have tok1 : True := trivial
    go_wp2_with (first
      | (go_at_call 9; have _t := tok1; clear tok1; refine (HSP.out _).mono ?_; rintro E w1 ⟨rfl, o1⟩; have O1 := Lib.hid o1; clear o1; have tok2 : True := trivial)
      | (go_at_call 10; refine (HFW.out _ O1.out).mono ?_; rintro E w2 ⟨rfl, o2⟩; have O2 := Lib.hid (O1.out.trans o2); clear o2)
      | (go_at_call 9; have _t := tok2; clear tok2; refine (HSP.out _).mono ?_; rintro E w3 ⟨rfl, o3⟩; have O3 := Lib.hid (O2.out.trans o3); clear o3))
    go_ret
    exact ⟨rfl, O3.out⟩
  | true =>
    simp only [Bool.and_eq_true, decide_eq_true_eq] at hfw
    have HN50 : Hid (L ≤ 50) := by have := HL.out; rw [Hid]; omega
    clear hfw
    obtain ⟨kk, hkk⟩ : ∃ kk, y % 12 = kk := ⟨_, rfl⟩
    have hk12 : kk < 12 := by omega
    have hmod : Int.tmod (y : Int) 12 = (kk : Int) := by rw [← hkk]; rfl
    have hst : stSite (kk : Int) = true := by simp [stSite]; omega
    have HN0 := Lib.hid (fun (X : World) (o : Only none_ w X) => gv_new w (kk : Int) 0 X o hst (by decide))
    have HN9 := Lib.hid (fun (X : World) (o : Only none_ w X) => gv_new w (kk : Int) 9 X o hst (by decide))
    have hyI : (y : Int) % 12 = (kk : Int) := by omega
    have tok1 : True := trivial
    clear hkk
    go_enter Try.func5, Try.ntmps5
    go_wp2_with (first
      | (go_at_call 9; have _t := tok1; refine (HSP.out _).mono ?_; rintro E w1 ⟨rfl, o1⟩; have O1 := Lib.hid o1; clear o1)
      | (go_at_call 10; refine (HFW.out _ O1.out).mono ?_; rintro E w2 ⟨rfl, o2⟩; have O2 := Lib.hid (O1.out.trans o2); clear o2)
      | (go_at_call 12; have _t := tok1; clear tok1; refine (HN0.out _ O2.out).mono ?_; rintro E w3 ⟨g1, tb1, rfl, hg1, ht1, G, o3⟩
         have G1 := Lib.hid G
         have O3 := Lib.hid (O2.out.trans o3)
         clear G o3
         have tok2 : True := trivial)
      | (go_at_call 12; have _t := tok2; clear tok2; refine (HN9.out _ O3.out).mono ?_; rintro E w4 ⟨g2, tb2, rfl, hg2, ht2, G, o4⟩
         have G2 := Lib.hid G
         have G14 := Lib.hid (G1.out.keep o4)
         have O4 := Lib.hid (O3.out.trans o4)
         clear G o4))
    have HX4 := Lib.hid (HX.out.only O4.out (fun _ _ h => h))
    clear HFW HN0 HN9 hmod hyI HX O1 O2 O3 G1
    go_loopw [50] (fun i wr => ∃ k : Nat, k ≤ L ∧ i = .int .i64 (k : Int) ∧ Only none_ w4 wr) (fun i _ => L - (intOf i).toNat)
    case atStart => exact ⟨0, Nat.zero_le _, rfl, Only.refl _ _⟩
    case round =>
      obtain ⟨k, hk, rfl, ho⟩ := hrel
      have HW := Lib.hid ho
      clear ho
      by_cases hlt : k < L
      · obtain ⟨a, ha⟩ : ∃ a, l[k]? = some a := ⟨l[k]'(by have := HL.out; omega), List.getElem?_eq_getElem _⟩
        obtain ⟨b, off, hA, _, hb, hc⟩ := in_elem gaRow_length (by decide) HX4.out HL.out ha
        subst hA
        have HC : Hid (∀ j u, (gaA a).toList[j]? = some u → wr.cell? ⟨b, off + k * 10 + j, none⟩ = some u) := fun j u hu => hc _ HW.out j u hu
        have BA := Lib.hid (Blk.new wr 40 (gaA a))
        have BX := Lib.hid (Blk.new (wr.alloc (.cells (gaA a) 40)) 26 #[.string a.e.k, .string a.e.v, .bool a.e.d, .int .i64 a.e.s.c, .int .i64 a.e.s.s, .int .i64 a.e.a.c, .int .i64 a.e.a.s, .int .i64 a.e.p, .int .i64 a.e.g])
        rw [World.size_alloc] at BX
        have O6 := Lib.hid ((HW.out.alloc (.cells (gaA a) 40)).alloc (.cells #[.string a.e.k, .string a.e.v, .bool a.e.d, .int .i64 a.e.s.c, .int .i64 a.e.s.s, .int .i64 a.e.a.c, .int .i64 a.e.a.s, .int .i64 a.e.p, .int .i64 a.e.g] 26))
        have hdd1 : enDuty a.e (kk : Int) = true → a.e.d = true := fun h => by
          simp only [enDuty, Bool.and_eq_true] at h
          exact h.1.1
        have HTK : Hid (takes (enDuty a.e (kk : Int)) 0 a.e = false) := takes_none hdd1
        have tokA : True := trivial
        obtain ⟨z, hz⟩ : ∃ z, enCheck a.e = z := ⟨_, rfl⟩
        have HCK := Lib.hid hz
        clear ha hc hdd1
        by_cases hc0 : z = 0
        · subst hc0
          have HDD : Hid (a.e.d = true → 1 ≤ a.e.p ∧ a.e.p ≤ 4095) := fun hd => by have := cert_of hz hd; omega
          obtain ⟨d, hd⟩ : ∃ d, enDuty a.e (kk : Int) = d := ⟨_, rfl⟩
          have HDU := Lib.hid hd
          have HTK9 : Hid (d = false → takes (enDuty a.e (kk : Int)) 9 a.e = false) := fun h => by rw [takes, hd, h]; simp
          clear hz hd
          cases d with
          | true =>
            clear HTK9
            go_wp2_with (first
          | (with_reducible refine wpl_piece rfl 40 _ rfl b (off + k * 10) rfl (gaA a) _ HC.out Try.underlying40 rfl (by kernel_rfl) ?_)
          | (with_reducible refine wpl_new rfl rfl 40 rfl _ _ rfl (gaA a) rfl rfl (by kernel_rfl) (ga_one a) ?_)
          | (with_reducible refine wpl_piece rfl 26 _ rfl wr.heap.size 1 rfl #[.string a.e.k, .string a.e.v, .bool a.e.d, .int .i64 a.e.s.c, .int .i64 a.e.s.s, .int .i64 a.e.a.c, .int .i64 a.e.a.s, .int .i64 a.e.p, .int .i64 a.e.g] _ (ga_entry BA.out) Try.underlying26 rfl (by kernel_rfl) ?_)
          | (with_reducible refine wpl_new rfl rfl 26 rfl _ _ rfl #[.string a.e.k, .string a.e.v, .bool a.e.d, .int .i64 a.e.s.c, .int .i64 a.e.s.s, .int .i64 a.e.a.c, .int .i64 a.e.a.s, .int .i64 a.e.p, .int .i64 a.e.g] rfl rfl (by kernel_rfl) (en_cells_one a.e) ?_)
          | (go_at_call 19; have _t := tokA; clear tokA; refine (en_of a.e _).mono ?_; rintro E w7 ⟨rfl, o7⟩
             have O7 := Lib.hid (O6.out.trans o7)
             have B7 := Lib.hid (BX.out.only o7 (fun h => h))
             clear o7
             have tokB : True := trivial)
          | (go_at_call 18; have _t := tokB; clear tokB; refine (gv_bury_no w g1 tb1 _ 0 [] _ a.e _ (G14.out.keep O7.out) HTK.out).mono ?_; rintro E w8 ⟨rfl, o8⟩
             have O8 := Lib.hid (O7.out.trans o8)
             have B8 := Lib.hid (B7.out.only o8 (fun h => h))
             obtain ⟨z0, z1, z2, z3, z4, z5, z6, z7, z8⟩ := nine_of B8.out
             clear o8)
          | (go_at_call 31; refine (rf_check a.e _).mono ?_; rw [HCK.out]; rintro E w9 ⟨rfl, o9⟩
             have O9 := Lib.hid (O8.out.trans o9)
             have B9 := Lib.hid (B8.out.only o9 (fun h => h))
             obtain ⟨y0, y1, y2, y3, y4, y5, y6, y7, y8⟩ := nine_of B9.out
             clear o9)
          | (go_at_call 30; refine (rf_duty a.e kk _ HDD.out).mono ?_; rw [HDU.out]; rintro E w10 ⟨rfl, o10⟩
             have O10 := Lib.hid (O9.out.trans o10)
             have B10 := Lib.hid (B9.out.only o10 (fun h => h))
             obtain ⟨x0, x1, x2, x3, x4, x5, x6, x7, x8⟩ := nine_of B10.out
             clear o10
             have tokC : True := trivial))
            go_roundw
            case rel => exact ⟨k + 1, by omega, by go_num, O10.out⟩
            case measure => simp [intOf]; omega
          | false =>
            have HT9 : Hid (takes (enDuty a.e (kk : Int)) 9 a.e = false) := HTK9.out rfl
            clear HTK9
            go_wp2_with (first
          | (with_reducible refine wpl_piece rfl 40 _ rfl b (off + k * 10) rfl (gaA a) _ HC.out Try.underlying40 rfl (by kernel_rfl) ?_)
          | (with_reducible refine wpl_new rfl rfl 40 rfl _ _ rfl (gaA a) rfl rfl (by kernel_rfl) (ga_one a) ?_)
          | (with_reducible refine wpl_piece rfl 26 _ rfl wr.heap.size 1 rfl #[.string a.e.k, .string a.e.v, .bool a.e.d, .int .i64 a.e.s.c, .int .i64 a.e.s.s, .int .i64 a.e.a.c, .int .i64 a.e.a.s, .int .i64 a.e.p, .int .i64 a.e.g] _ (ga_entry BA.out) Try.underlying26 rfl (by kernel_rfl) ?_)
          | (with_reducible refine wpl_new rfl rfl 26 rfl _ _ rfl #[.string a.e.k, .string a.e.v, .bool a.e.d, .int .i64 a.e.s.c, .int .i64 a.e.s.s, .int .i64 a.e.a.c, .int .i64 a.e.a.s, .int .i64 a.e.p, .int .i64 a.e.g] rfl rfl (by kernel_rfl) (en_cells_one a.e) ?_)
          | (go_at_call 19; have _t := tokA; clear tokA; refine (en_of a.e _).mono ?_; rintro E w7 ⟨rfl, o7⟩
             have O7 := Lib.hid (O6.out.trans o7)
             have B7 := Lib.hid (BX.out.only o7 (fun h => h))
             clear o7
             have tokB : True := trivial)
          | (go_at_call 18; have _t := tokB; clear tokB; refine (gv_bury_no w g1 tb1 _ 0 [] _ a.e _ (G14.out.keep O7.out) HTK.out).mono ?_; rintro E w8 ⟨rfl, o8⟩
             have O8 := Lib.hid (O7.out.trans o8)
             have B8 := Lib.hid (B7.out.only o8 (fun h => h))
             obtain ⟨z0, z1, z2, z3, z4, z5, z6, z7, z8⟩ := nine_of B8.out
             clear o8)
          | (go_at_call 31; refine (rf_check a.e _).mono ?_; rw [HCK.out]; rintro E w9 ⟨rfl, o9⟩
             have O9 := Lib.hid (O8.out.trans o9)
             have B9 := Lib.hid (B8.out.only o9 (fun h => h))
             obtain ⟨y0, y1, y2, y3, y4, y5, y6, y7, y8⟩ := nine_of B9.out
             clear o9)
          | (go_at_call 30; refine (rf_duty a.e kk _ HDD.out).mono ?_; rw [HDU.out]; rintro E w10 ⟨rfl, o10⟩
             have O10 := Lib.hid (O9.out.trans o10)
             have B10 := Lib.hid (B9.out.only o10 (fun h => h))
             obtain ⟨x0, x1, x2, x3, x4, x5, x6, x7, x8⟩ := nine_of B10.out
             clear o10
             have tokC : True := trivial)
          | (go_at_call 19; have _t := tokC; clear tokC; refine (en_of a.e _).mono ?_; rintro E w11 ⟨rfl, o11⟩
             have O11 := Lib.hid (O10.out.trans o11)
             clear o11
             have tokD : True := trivial)
          | (go_at_call 18; have _t := tokD; clear tokD; refine (gv_bury_no w g2 tb2 _ 9 [] _ a.e _ (G2.out.keep O11.out) HT9.out).mono ?_; rintro E w12 ⟨rfl, o12⟩
             have O12 := Lib.hid (O11.out.trans o12)
             clear o12))
            go_roundw
            case rel => exact ⟨k + 1, by omega, by go_num, O12.out⟩
            case measure => simp [intOf]; omega
        · have hz1 : ((z : Int) == 0) = false := by simpa using hc0
          clear hz
          go_wp2_with (first
          | (with_reducible refine wpl_piece rfl 40 _ rfl b (off + k * 10) rfl (gaA a) _ HC.out Try.underlying40 rfl (by kernel_rfl) ?_)
          | (with_reducible refine wpl_new rfl rfl 40 rfl _ _ rfl (gaA a) rfl rfl (by kernel_rfl) (ga_one a) ?_)
          | (with_reducible refine wpl_piece rfl 26 _ rfl wr.heap.size 1 rfl #[.string a.e.k, .string a.e.v, .bool a.e.d, .int .i64 a.e.s.c, .int .i64 a.e.s.s, .int .i64 a.e.a.c, .int .i64 a.e.a.s, .int .i64 a.e.p, .int .i64 a.e.g] _ (ga_entry BA.out) Try.underlying26 rfl (by kernel_rfl) ?_)
          | (with_reducible refine wpl_new rfl rfl 26 rfl _ _ rfl #[.string a.e.k, .string a.e.v, .bool a.e.d, .int .i64 a.e.s.c, .int .i64 a.e.s.s, .int .i64 a.e.a.c, .int .i64 a.e.a.s, .int .i64 a.e.p, .int .i64 a.e.g] rfl rfl (by kernel_rfl) (en_cells_one a.e) ?_)
          | (go_at_call 19; have _t := tokA; clear tokA; refine (en_of a.e _).mono ?_; rintro E w7 ⟨rfl, o7⟩
             have O7 := Lib.hid (O6.out.trans o7)
             have B7 := Lib.hid (BX.out.only o7 (fun h => h))
             clear o7
             have tokB : True := trivial)
          | (go_at_call 18; have _t := tokB; clear tokB; refine (gv_bury_no w g1 tb1 _ 0 [] _ a.e _ (G14.out.keep O7.out) HTK.out).mono ?_; rintro E w8 ⟨rfl, o8⟩
             have O8 := Lib.hid (O7.out.trans o8)
             have B8 := Lib.hid (B7.out.only o8 (fun h => h))
             obtain ⟨z0, z1, z2, z3, z4, z5, z6, z7, z8⟩ := nine_of B8.out
             clear o8)
          | (go_at_call 31; refine (rf_check a.e _).mono ?_; rw [HCK.out]; rintro E w9 ⟨rfl, o9⟩
             have O9 := Lib.hid (O8.out.trans o9)
             have B9 := Lib.hid (B8.out.only o9 (fun h => h))
             obtain ⟨y0, y1, y2, y3, y4, y5, y6, y7, y8⟩ := nine_of B9.out
             clear o9))
          go_roundw
          case rel => exact ⟨k + 1, by omega, by go_num, O9.out⟩
          case measure => simp [intOf]; omega
      · obtain rfl : k = L := by omega
        have G5 := Lib.hid (G14.out.keep HW.out)
        have HT := Lib.hid (gv_tick w g1 tb1 _ 0 [] _ wr G5.out (fun x hx => by cases hx) (by decide))
        go_wp2_with (first
          | (go_at_call 25; refine (sh_len w g1 tb1 [] _ _ G5.out.sh G5.out.t).mono ?_; rintro E w6 ⟨rfl, rfl⟩)
          | (go_at_call 16; refine HT.out.mono ?_; rintro E w7 ⟨v7, rfl, own7, tb7, u7, hG, o7, _⟩
             obtain ⟨A7, n7, c7, rfl⟩ := own_shape own7
             obtain rfl : n7 = 0 := own_count own7
             have G7 := Lib.hid hG
             clear own7 o7 hG))
        go_ret
        exact ⟨rfl, G7.out.ho⟩
end Go.Proofs.Ytniacolkjdmflaa
end
section
namespace Go.Proofs.Ytniacolkjdmflaa.grvoff
open Go.ChangeShapes Go.WideShapes Go.ChangeAt Go.RowKit
set_option linter.unusedVariables false

set_option maxRecDepth 100000 in
theorem lifted (os : Os) (started : os.Started) (H : Type) (enc : TypeId × Value → H) :
    ReturnsInHanded {} Try.checked os 5 .any (Rows.gravesOffSpec.pre6 enc Try.prog Try.f5 Rows.gravesOffRow.domain false) (Rows.gravesOffSpec.post enc Try.prog Try.f5 false true false false) := by
  refine returnsInHanded_of_change (C := Try.checked) own started (by kernel_rfl) Try.func5
    (ChangeSpec.witness6 (enc := enc) (C := Try.checked) false ⟨#[], #[.int .u8 0, .slice none 0 0], []⟩ 8 (by kernel_rfl) (by kernel_rfl) (by kernel_rfl) (by kernel_rfl)) ?_
  intro W base args ds gs before hval0 hW hcnd _
  have hval : ∀ (j : Nat) t v, Try.f5.params[j]? = some t → args[j]? = some v → Value.okWide Try.prog W .any base t v := hval0
  have hW' := hW
  obtain ⟨p, q, hA0, hV, rfl, hfz, hnd⟩ := hW
  have hA : DataW.TrodAll enc Try.prog W 0 (fun _ => true) true Try.f5.params.toList args.toList ds p := hA0
  rw [Try.params5] at hA hval
  obtain ⟨v0, vs0, d0, ds0, p0, q0, hargs, rfl, rfl, h0, r0⟩ := trodAll_cons hA
  obtain ⟨v1, vs1, d1, ds1, p1, q1, rfl, rfl, rfl, h1, r1⟩ := trodAll_cons r0
  obtain ⟨rfl, rfl, rfl⟩ := trodAll_nil r1
  obtain rfl : args = #[v0, v1] := by cases args; simp_all
  obtain ⟨rfl, rfl⟩ := trodVars_none hV
  obtain ⟨a0, rfl, rfl, rfl, w0⟩ := open_int Try.underlying5 (hval 0 5 v0 rfl rfl) h0
  obtain ⟨a1, len1, cap1, rfl⟩ := okWide_slice Try.underlying22 (hval 1 22 v1 rfl rfl)
  have k1 := h1
  have lt1 : ∀ x ∈ p1, x.block < W.heap.size := by obtain ⟨m, hm⟩ := k1; exact DataW.trod_lt m _ _ _ hm
  clear hA0 hval0
  have hw : Calls Try.prog 5 #[.int .u8 a0, .slice a1 len1 cap1] W fun e w' => e = .returned (.bool true) ∧ Below W.heap.size W w' := by
    obtain ⟨l, hl, hc⟩ := gacts_arg h1
    subst hl
    have b0 := bounds_u8 w0
    obtain ⟨y, rfl⟩ := Int.eq_ofNat_of_zero_le b0.1
    refine (graves_off _ _ _ l y (by omega) W hc).mono fun e w2 h2 => ⟨h2.1, h2.2.below (Nat.le_refl _) (fun k hk => hk.elim)⟩
  refine hw.mono fun e W' ⟨he, bel⟩ => ?_
  subst he
  exact ⟨_, rfl, _, _, _, [], _, [], hW', trodAll_mk1 (shut_bool Try.underlying4 _), (trodAll_cons_mk (shut_int Try.underlying5 w0) (trodAll_cons_mk (Below.trod laidOut (by kernel_rfl) (of_decide_eq_true (by kernel_rfl)) k1 bel lt1) trodAll_mk0)), rfl, bel.frame _, fun h => by cases h⟩

theorem holds : Rows.GravesOffSaid :=
  OpenClaim.holds_of_wide 5 Try.f5 rfl rfl rfl rfl rfl rfl rfl ⟨rfl, rfl, rfl, rfl, rfl⟩ rfl rfl rfl rfl rfl (by kernel_rfl) Try.func5 (by kernel_rfl)
    (of_decide_eq_true (by kernel_rfl)) (by unfold Func.isWrapper; first | (rw [if_pos (by decide +kernel)]; kernel_rfl) | (rw [if_neg (by decide +kernel)]; exact ⟨rfl, rfl⟩))
    (fun os started H enc _ => lifted os started H enc)
end Go.Proofs.Ytniacolkjdmflaa.grvoff
namespace Go.Proofs.Ytniacolkjdmflaa
theorem gravesOff_holds : Rows.GravesOffSaid := grvoff.holds
#print axioms gravesOff_holds
end Go.Proofs.Ytniacolkjdmflaa
end
