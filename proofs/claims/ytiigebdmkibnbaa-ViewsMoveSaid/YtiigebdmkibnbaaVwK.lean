/- What the call of ViewsMove comes to. No statement of the seat is proved here. -/
import Derived.Test.YtiigebdmkibnbaaVwJ
namespace Go.Proofs.Ytiigebdmkibnbaa
open Go.RowKit
set_option linter.all false
set_option maxRecDepth 100000

theorem mv_lower {s : Vm} {p : Int} {zs : List Int} (h : Vok s) (hm : p ∈ s.act) : decide (p ∈ (loV s p zs).act) = false ∧ decide (p ∈ (loV s p zs).pas) = true ∧ (loV s p zs).act.length + 1 = s.act.length := by
  have hd := vdel_mem h.ua.1 hm p
  obtain ⟨_, _, f3, _, _⟩ := vput_facts (zs := zs) h.up (node_of h.ua hm) (h.ds p hm) h.lp h.rp.1
  rw [loV, if_pos hm]
  refine ⟨?_, ?_, vdel_len h.ua.1 hm⟩
  · rw [decide_eq_false_iff_not]; exact fun e => (hd.1 e).2 rfl
  · rw [decide_eq_true_eq]; exact (f3 p).2 (.inr rfl)
theorem mv_learn {s : Vm} {p : Int} {zs : List Int} (h : Vok s) : (leOk s p = true → decide (p ∈ (leV s p zs).pas) = true) ∧ (leV s p zs).act = s.act := by
  refine ⟨fun hm => ?_, ?_⟩
  · obtain ⟨k1, k2, k3, k4⟩ := le_node hm
    obtain ⟨_, _, f3, _, _⟩ := vput_facts (zs := zs) h.up k1 k4 h.lp h.rp.1
    rw [leV, if_pos hm, decide_eq_true_eq]
    exact (f3 p).2 (.inr rfl)
  · unfold leV; split <;> rfl
/-- The first checks of a call with too much. -/
def fewV (L0 L : Nat) : Bool := decide (L ≤ 60) && decide (L0 ≤ 100)

set_option maxHeartbeats 3200000 in
theorem vmove_long (x0 x1 x2 : Int) (A0 : Option Addr) (L0 c0 : Nat) (A : Option Addr) (L c : Nat) (W : World) (hf : ¬ (L ≤ 60 ∧ L0 ≤ 100)) :
    Calls Try.prog 5 #[.int .u8 x0, .int .u8 x1, .int .u8 x2, .slice A0 L0 c0, .slice A L c] W fun e w' => e = .returned (.bool true) ∧ Only none_ W w' := by
  have tok1 : True := trivial
  by_cases h1 : L ≤ 60
  · have g1 : ¬ ((60 : Int) < (L : Int)) := by omega
    have g2 : ((100 : Int) < (L0 : Int)) := by omega
    clear hf h1
    go_enter Try.func5, Try.ntmps5
    go_wp2_with (first
      | (go_at_call 6; have _t := tok1; clear tok1; refine (vw_speaks _).mono ?_; rintro E w1 ⟨rfl, o1⟩; have O1 := Lib.hid o1; clear o1)
      | (go_at_call 6; refine (vw_speaks _).mono ?_; rintro E w2 ⟨rfl, o2⟩; have O2 := Lib.hid (O1.out.trans o2); clear o2))
    go_ret
    exact ⟨rfl, O2.out⟩
  · have g1 : ((60 : Int) < (L : Int)) := by omega
    clear hf h1
    go_enter Try.func5, Try.ntmps5
    go_wp2_with (first
      | (go_at_call 6; have _t := tok1; clear tok1; refine (vw_speaks _).mono ?_; rintro E w1 ⟨rfl, o1⟩; have O1 := Lib.hid o1; clear o1)
      | (go_at_call 6; refine (vw_speaks _).mono ?_; rintro E w2 ⟨rfl, o2⟩; have O2 := Lib.hid (O1.out.trans o2); clear o2))
    go_ret
    exact ⟨rfl, O2.out⟩

set_option maxHeartbeats 51200000 in
theorem vmove_short (x0 x1 x2 : Int) (h0 : 0 ≤ x0 ∧ x0 < 256) (h1 : 0 ≤ x1 ∧ x1 < 256) (h2 : 0 ≤ x2 ∧ x2 < 256) (A0 : Option Addr) (L0 c0 : Nat) (A : Option Addr) (L c : Nat) (a : List Int) (l : List Va) (W : World) (hx0 : Nm W (fun b => b < W.heap.size) (.slice A0 L0 c0) a) (hx : Cel W (fun b => b < W.heap.size) (.slice A L c) L 3 (l.flatMap vaRow)) (hL : L = l.length) (hf : L ≤ 60 ∧ L0 ≤ 100) :
    Calls Try.prog 5 #[.int .u8 x0, .int .u8 x1, .int .u8 x2, .slice A0 L0 c0, .slice A L c] W fun e w' => e = .returned (.bool true) ∧ Only none_ W w' := by
  obtain ⟨r0, r0a, r0b⟩ := rem_u8 (n := 12) h0.1 h0.2 (by omega)
  obtain ⟨r1, r1a, r1b⟩ := rem_u8 (n := 11) h1.1 h1.2 (by omega)
  obtain ⟨r2, r2a, r2b⟩ := rem_u8 (n := 11) h2.1 h2.2 (by omega)
  have w0 : IntKind.i64.wrap x0 = x0 := IntWalk.i64_in _ (by omega)
  have w1 : IntKind.i64.wrap x1 = x1 := IntWalk.i64_in _ (by omega)
  have w2 : IntKind.i64.wrap x2 = x2 := IntWalk.i64_in _ (by omega)
  obtain ⟨self, hself⟩ : ∃ y, x0 % 12 = y := ⟨_, rfl⟩
  obtain ⟨na, hna⟩ : ∃ y : Nat, 1 + x1 % 11 = y := ⟨(1 + x1 % 11).toNat, by omega⟩
  obtain ⟨np, hnp⟩ : ∃ y : Nat, 1 + x2 % 11 = y := ⟨(1 + x2 % 11).toNat, by omega⟩
  have hok : newOk self na np = true := by simp [newOk, nodeB, sizeB]; omega
  rw [hself] at r0
  have wa : IntKind.i64.wrap (1 + x1 % 11) = (na : Int) := by rw [IntWalk.i64_in _ (by omega), hna]
  have wp : IntKind.i64.wrap (1 + x2 % 11) = (np : Int) := by rw [IntWalk.i64_in _ (by omega), hnp]
  have g1 : ¬ ((60 : Int) < (L : Int)) := by omega
  have g2 : ¬ ((100 : Int) < (L0 : Int)) := by omega
  have HOK := Lib.hid hok
  have HX0 := Lib.hid hx0
  have HX := Lib.hid hx
  have HL := Lib.hid hL
  have hal : a.length ≤ 100 := by have := hx0.len; omega
  have HAL := Lib.hid hal
  have hL6 : L ≤ 60 := hf.1
  clear hok hx0 hx hL hal hself hna hnp h0 h1 h2 r0a r0b r1a r1b r2a r2b hf
  have tok1 : True := trivial
  go_enter Try.func5, Try.ntmps5
  go_wp2_with (first
    | (go_at_call 6; refine (vw_speaks _).mono ?_; rintro E w3 ⟨rfl, o3⟩; have O1 := Lib.hid o3; clear o3)
    | (go_at_call 7; refine (vs_new_ok self na np _ HOK.out).mono ?_; rintro E w4 ⟨rfl, b4, o4⟩; have H1 := Lib.hid (show _ ∧ _ ∧ _ from ⟨b4, O1.out.trans o4, O1.out.size⟩); clear b4 o4)
    | (go_at_call 9; refine (dc_new _ a _ _ (HX0.out.keep H1.out.2.1) (by have := HAL.out; omega)).mono ?_; rintro E w5 ⟨dd, vd, rfl, d5, o5⟩
       have H2 : Hid (Vl W w3.heap.size (vm0 self na np) (.slice none 0 0) (.slice none 0 0) dd vd a w5) := ⟨vs_made (H1.out.1.only o5 (fun e => e)) H1.out.2.2 (d5.base H1.out.2.1.size) HOK.out, H1.out.2.1.trans o5⟩
       clear d5 o5))
  generalize w3.heap.size = d at *
  clear O1 H1 HX0 r0 r1 r2 w0 w1 w2 wa wp
  go_loopw [60] (fun i wr => ∃ (j : Nat) (s : Vm) (vA vP vd : Value) (zs : List Int), j ≤ L ∧ i = .int .i64 (j : Int) ∧ Vl W d s vA vP dd vd zs wr) (fun i _ => L - (intOf i).toNat)
  case atStart => exact ⟨0, _, _, _, vd, a, Nat.zero_le _, rfl, H2.out⟩
  case round =>
    obtain ⟨j, s, vA, vP, vd1, zs, hj, rfl, hs⟩ := hrel
    have HS := Lib.hid hs
    clear hs H2
    by_cases hlt : j < L
    · have hji : (j : Int) < (L : Int) := by omega
      obtain ⟨a1, ha⟩ : ∃ a1, l[j]? = some a1 := ⟨l[j]'(by have := HL.out; omega), List.getElem?_eq_getElem _⟩
      obtain ⟨b, off, hA, k0, k1, k2⟩ := va_at HX.out ha HL.out HS.out.ho
      subst hA
      obtain ⟨ak, ap, aq⟩ := a1
      simp only at k0 k1 k2
      have hob2 : Hid (Only none_ wr (wr.alloc (.cells #[.int .i64 ak, .int .i64 ap, .int .i64 aq] 37))) := (Only.refl none_ wr).alloc _
      have BX : Hid (Blk (wr.alloc (.cells #[.int .i64 ak, .int .i64 ap, .int .i64 aq] 37)) wr.heap.size 37 #[.int .i64 ak, .int .i64 ap, .int .i64 aq]) := Blk.new wr _ _
      have Z0 := Lib.hid (HS.out.keep hob2.out)
      have HVO := Lib.hid HS.out.vs.ok
      have hB : Hid (∀ w', Only none_ W w' → W.heap.size ≤ w'.heap.size) := fun w' o => o.size
      obtain ⟨la, hla⟩ : ∃ y, s.act.length = y := ⟨_, rfl⟩
      have HLA := Lib.hid hla
      have hla12 : la ≤ 12 := by rw [← hla]; exact rl_le HS.out.vs.ok.ua
      obtain ⟨was, hwas⟩ : ∃ y, decide (ap ∈ s.act) = y := ⟨_, rfl⟩
      obtain ⟨full, hfull⟩ : ∃ y, decide (s.act.length = s.a) = y := ⟨_, rfl⟩
      have HWAS := Lib.hid hwas
      have HFU := Lib.hid hfull
      have C1 : Hid (∀ w', Vl W d s vA vP dd vd1 zs w' → Calls Try.prog 14 #[.pointer (some ⟨d, 0, none⟩), .int .i64 ap] w' fun e w'' => e = .returned (.bool was) ∧ Only none_ w' w'') := fun w' h => by rw [← hwas]; exact vs_isA W.heap.size d s vA vP dd vd1 zs ap w' h.vs
      have C2 : Hid (∀ w', Vl W d s vA vP dd vd1 zs w' → Calls Try.prog 22 #[.pointer (some ⟨d, 0, none⟩)] w' fun e w'' => e = .returned (.bool full) ∧ Only none_ w' w'') := fun w' h => by rw [← hfull]; exact vs_full W.heap.size d s vA vP dd vd1 zs w' h.vs
      clear ha hla hwas hfull hob2
      have tokA : True := trivial
      have tokB : True := trivial
      by_cases q0 : ak = 0
      · subst q0
        obtain ⟨s8v, hv8⟩ : ∃ y, rsV s ap zs = y := ⟨_, rfl⟩
        obtain ⟨s8z, hz8⟩ : ∃ y, rsZ s ap zs = y := ⟨_, rfl⟩
        have HV : Hid (rsV s ap zs = s8v ∧ rsZ s ap zs = s8z) := ⟨hv8, hz8⟩
        obtain ⟨g, hg⟩ : ∃ y, rsG s ap zs = y := ⟨_, rfl⟩
        have HG := Lib.hid hg
        cases hm : rsOk s ap with
        | true =>
          have HM := Lib.hid hm
          obtain ⟨f1, f2, f3⟩ := mv_raise (zs := zs) HVO.out hm
          rw [HWAS.out] at f2
          rw [hv8] at f1
          rw [HFU.out, hg, hv8] at f3
          subst f2
          have F1 := Lib.hid f1
          have tokC : True := trivial
          rcases f3 with ⟨e1, e2, e3, e4⟩ | ⟨e1, e2⟩
          · subst e1
            have F3 := Lib.hid e3
            have F4 := Lib.hid e4
            have hd0 : decide (0 ≤ g) = true := by simpa using e2
            clear hg hv8 hz8 hm f1 e2 e3 e4
            go_wp2_with (first
              | (go_at_call 14; have _t := tokA; clear tokA; refine (C1.out _ Z0.out).mono ?_; rintro E w5 ⟨rfl, o5⟩; have Z5 := Lib.hid (Z0.out.keep o5); have B5 := Lib.hid (BX.out.only o5 (fun e => e)); clear o5)
              | (go_at_call 22; refine (C2.out _ Z5.out).mono ?_; rintro E w6 ⟨rfl, o6⟩; have Z6 := Lib.hid (Z5.out.keep o6); have B6 := Lib.hid (B5.out.only o6 (fun e => e)); clear o6)
              | (go_at_call 20; have _t := tokB; clear tokB; refine (vs_active W.heap.size d s vA vP dd vd1 zs w6 Z6.out.vs).mono ?_; rintro E w7 ⟨v7, rfl, n7, o7⟩; obtain ⟨A7, m7, c7, e7⟩ := own_sl n7; subst e7; have e8 : la = m7 := HLA.out.symm.trans (own_len n7).symm; subst e8
                 have Z7 := Lib.hid (Z6.out.keep o7); have B7 := Lib.hid (B6.out.only o7 (fun e => e)); have t0 := B7.out.cell_ (i := 0) rfl; have t1 := B7.out.cell_ (i := 1) rfl; clear n7 o7)
              | (go_at_call 16; refine (vs_raise W.heap.size d s vA vP dd vd1 zs ap w7 Z7.out.vs (hB.out _ Z7.out.ho)).mono ?_; rintro E w8 ⟨rfl, r8⟩; obtain ⟨vA8, vP8, vd8, s8, o8⟩ := Z7.out.step r8; dsimp only; rw [HG.out, HM.out]
                 have Z8 : Hid (Vl W d s8v vA8 vP8 dd vd8 s8z w8) := by rw [Hid, ← HV.out.1, ← HV.out.2]; exact s8
                 have B8 := Lib.hid (Z7.out.box B7.out o8); have t0 := B8.out.cell_ (i := 0) rfl; have t1 := B8.out.cell_ (i := 1) rfl; clear r8 s8 o8)
              | (go_at_call 14; have _t := tokC; clear tokC; refine (vs_isA W.heap.size d s8v vA8 vP8 dd vd8 s8z ap w8 Z8.out.vs).mono ?_; rintro E w9 ⟨rfl, o9⟩; dsimp only; rw [F1.out]; have Z9 := Lib.hid (Z8.out.keep o9); have B9 := Lib.hid (B8.out.only o9 (fun e => e)); have t1 := B9.out.cell_ (i := 1) rfl; clear o9)
              | (go_at_call 14; refine (vs_isA W.heap.size d s8v vA8 vP8 dd vd8 s8z g w9 Z9.out.vs).mono ?_; rintro E w10 ⟨rfl, o10⟩; dsimp only; rw [F3.out]; have Z10 := Lib.hid (Z9.out.keep o10); have B10 := Lib.hid (B9.out.only o10 (fun e => e)); have t1 := B10.out.cell_ (i := 1) rfl; clear o10)
              | (go_at_call 15; refine (vs_isP W.heap.size d s8v vA8 vP8 dd vd8 s8z g w10 Z10.out.vs).mono ?_; rintro E w11 ⟨rfl, o11⟩; dsimp only; rw [F4.out]; have Z11 := Lib.hid (Z10.out.keep o11); have B11 := Lib.hid (B10.out.only o11 (fun e => e)); have t1 := B11.out.cell_ (i := 1) rfl; clear o11))
            go_roundw
            case rel => exact ⟨j + 1, _, _, _, _, _, by omega, by go_num, Z11.out⟩
            case measure => simp [intOf]; omega
          · subst e1
            subst e2
            clear hg hv8 hz8 hm f1
            go_wp2_with (first
              | (go_at_call 14; have _t := tokA; clear tokA; refine (C1.out _ Z0.out).mono ?_; rintro E w5 ⟨rfl, o5⟩; have Z5 := Lib.hid (Z0.out.keep o5); have B5 := Lib.hid (BX.out.only o5 (fun e => e)); clear o5)
              | (go_at_call 22; refine (C2.out _ Z5.out).mono ?_; rintro E w6 ⟨rfl, o6⟩; have Z6 := Lib.hid (Z5.out.keep o6); have B6 := Lib.hid (B5.out.only o6 (fun e => e)); clear o6)
              | (go_at_call 20; have _t := tokB; clear tokB; refine (vs_active W.heap.size d s vA vP dd vd1 zs w6 Z6.out.vs).mono ?_; rintro E w7 ⟨v7, rfl, n7, o7⟩; obtain ⟨A7, m7, c7, e7⟩ := own_sl n7; subst e7; have e8 : la = m7 := HLA.out.symm.trans (own_len n7).symm; subst e8
                 have Z7 := Lib.hid (Z6.out.keep o7); have B7 := Lib.hid (B6.out.only o7 (fun e => e)); have t0 := B7.out.cell_ (i := 0) rfl; have t1 := B7.out.cell_ (i := 1) rfl; clear n7 o7)
              | (go_at_call 16; refine (vs_raise W.heap.size d s vA vP dd vd1 zs ap w7 Z7.out.vs (hB.out _ Z7.out.ho)).mono ?_; rintro E w8 ⟨rfl, r8⟩; obtain ⟨vA8, vP8, vd8, s8, o8⟩ := Z7.out.step r8; dsimp only; rw [HG.out, HM.out]
                 have Z8 : Hid (Vl W d s8v vA8 vP8 dd vd8 s8z w8) := by rw [Hid, ← HV.out.1, ← HV.out.2]; exact s8
                 have B8 := Lib.hid (Z7.out.box B7.out o8); have t0 := B8.out.cell_ (i := 0) rfl; have t1 := B8.out.cell_ (i := 1) rfl; clear r8 s8 o8)
              | (go_at_call 14; refine (vs_isA W.heap.size d s8v vA8 vP8 dd vd8 s8z ap w8 Z8.out.vs).mono ?_; rintro E w9 ⟨rfl, o9⟩; dsimp only; rw [F1.out]; have Z9 := Lib.hid (Z8.out.keep o9); have B9 := Lib.hid (B8.out.only o9 (fun e => e)); have t1 := B9.out.cell_ (i := 1) rfl; clear o9))
            go_roundw
            case rel => exact ⟨j + 1, _, _, _, _, _, by omega, by go_num, Z9.out⟩
            case measure => simp [intOf]; omega
        | false =>
          have HM := Lib.hid hm
          have e1 : g = -1 := by rw [← hg, rsG, hm]; rfl
          subst e1
          have f1 : decide (ap ∈ s8v.act) = was := by rw [← hv8, rsV, hm]; exact HWAS.out
          have F1 := Lib.hid f1
          clear hg hv8 hz8 hm f1
          go_wp2_with (first
            | (go_at_call 14; have _t := tokA; clear tokA; refine (C1.out _ Z0.out).mono ?_; rintro E w5 ⟨rfl, o5⟩; have Z5 := Lib.hid (Z0.out.keep o5); have B5 := Lib.hid (BX.out.only o5 (fun e => e)); clear o5)
            | (go_at_call 22; refine (C2.out _ Z5.out).mono ?_; rintro E w6 ⟨rfl, o6⟩; have Z6 := Lib.hid (Z5.out.keep o6); have B6 := Lib.hid (B5.out.only o6 (fun e => e)); clear o6)
            | (go_at_call 20; have _t := tokB; clear tokB; refine (vs_active W.heap.size d s vA vP dd vd1 zs w6 Z6.out.vs).mono ?_; rintro E w7 ⟨v7, rfl, n7, o7⟩; obtain ⟨A7, m7, c7, e7⟩ := own_sl n7; subst e7; have e8 : la = m7 := HLA.out.symm.trans (own_len n7).symm; subst e8
               have Z7 := Lib.hid (Z6.out.keep o7); have B7 := Lib.hid (B6.out.only o7 (fun e => e)); have t0 := B7.out.cell_ (i := 0) rfl; have t1 := B7.out.cell_ (i := 1) rfl; clear n7 o7)
            | (go_at_call 16; refine (vs_raise W.heap.size d s vA vP dd vd1 zs ap w7 Z7.out.vs (hB.out _ Z7.out.ho)).mono ?_; rintro E w8 ⟨rfl, r8⟩; obtain ⟨vA8, vP8, vd8, s8, o8⟩ := Z7.out.step r8; dsimp only; rw [HG.out, HM.out]
               have Z8 : Hid (Vl W d s8v vA8 vP8 dd vd8 s8z w8) := by rw [Hid, ← HV.out.1, ← HV.out.2]; exact s8
               have B8 := Lib.hid (Z7.out.box B7.out o8); have t0 := B8.out.cell_ (i := 0) rfl; have t1 := B8.out.cell_ (i := 1) rfl; clear r8 s8 o8)
            | (go_at_call 14; refine (vs_isA W.heap.size d s8v vA8 vP8 dd vd8 s8z ap w8 Z8.out.vs).mono ?_; rintro E w9 ⟨rfl, o9⟩; dsimp only; rw [F1.out]; have Z9 := Lib.hid (Z8.out.keep o9); have B9 := Lib.hid (B8.out.only o9 (fun e => e)); have t1 := B9.out.cell_ (i := 1) rfl; clear o9))
          go_roundw
          case rel => exact ⟨j + 1, _, _, _, _, _, by omega, by go_num, Z9.out⟩
          case measure => simp [intOf]; omega
      · by_cases q1 : ak = 1
        · subst q1
          obtain ⟨s8v, hv8⟩ : ∃ y, loV s ap zs = y := ⟨_, rfl⟩
          obtain ⟨s8z, hz8⟩ : ∃ y, loZ s ap zs = y := ⟨_, rfl⟩
          have HV : Hid (loV s ap zs = s8v ∧ loZ s ap zs = s8z) := ⟨hv8, hz8⟩
          by_cases hm : ap ∈ s.act
          · obtain ⟨f1, f2, f3⟩ := mv_lower (zs := zs) HVO.out hm
            have e1 : was = true := by rw [← HWAS.out]; simpa using hm
            subst e1
            rw [hv8] at f1 f2 f3
            rw [HLA.out] at f3
            obtain ⟨lb, hlb⟩ : ∃ y, s8v.act.length = y := ⟨_, rfl⟩
            rw [hlb] at f3
            have HLB := Lib.hid hlb
            have F1 := Lib.hid f1
            have F2 := Lib.hid f2
            have hw : IntKind.i64.wrap ((la : Int) - 1) = (lb : Int) := by rw [IntWalk.i64_in _ (by omega)]; omega
            clear hv8 hz8 hm f1 f2 f3 hlb
            go_wp2_with (first
              | (go_at_call 14; have _t := tokA; clear tokA; refine (C1.out _ Z0.out).mono ?_; rintro E w5 ⟨rfl, o5⟩; have Z5 := Lib.hid (Z0.out.keep o5); have B5 := Lib.hid (BX.out.only o5 (fun e => e)); clear o5)
              | (go_at_call 22; refine (C2.out _ Z5.out).mono ?_; rintro E w6 ⟨rfl, o6⟩; have Z6 := Lib.hid (Z5.out.keep o6); have B6 := Lib.hid (B5.out.only o6 (fun e => e)); clear o6)
              | (go_at_call 20; have _t := tokB; clear tokB; refine (vs_active W.heap.size d s vA vP dd vd1 zs w6 Z6.out.vs).mono ?_; rintro E w7 ⟨v7, rfl, n7, o7⟩; obtain ⟨A7, m7, c7, e7⟩ := own_sl n7; subst e7; have e8 : la = m7 := HLA.out.symm.trans (own_len n7).symm; subst e8
                 have Z7 := Lib.hid (Z6.out.keep o7); have B7 := Lib.hid (B6.out.only o7 (fun e => e)); have t0 := B7.out.cell_ (i := 0) rfl; have t1 := B7.out.cell_ (i := 1) rfl; clear n7 o7)
              | (go_at_call 17; refine (vs_lower W.heap.size d s vA vP dd vd1 zs ap w7 Z7.out.vs (hB.out _ Z7.out.ho)).mono ?_; rintro E w8 ⟨rfl, r8⟩; obtain ⟨vA8, vP8, vd8, s8, o8⟩ := Z7.out.step r8; dsimp only; rw [HWAS.out]
                 have Z8 : Hid (Vl W d s8v vA8 vP8 dd vd8 s8z w8) := by rw [Hid, ← HV.out.1, ← HV.out.2]; exact s8
                 have B8 := Lib.hid (Z7.out.box B7.out o8); have t0 := B8.out.cell_ (i := 0) rfl; have t1 := B8.out.cell_ (i := 1) rfl; clear r8 s8 o8)
              | (go_at_call 14; refine (vs_isA W.heap.size d s8v vA8 vP8 dd vd8 s8z ap w8 Z8.out.vs).mono ?_; rintro E w9 ⟨rfl, o9⟩; dsimp only; rw [F1.out]; have Z9 := Lib.hid (Z8.out.keep o9); have B9 := Lib.hid (B8.out.only o9 (fun e => e)); have t1 := B9.out.cell_ (i := 1) rfl; clear o9)
              | (go_at_call 15; refine (vs_isP W.heap.size d s8v vA8 vP8 dd vd8 s8z ap w9 Z9.out.vs).mono ?_; rintro E w10 ⟨rfl, o10⟩; dsimp only; rw [F2.out]; have Z10 := Lib.hid (Z9.out.keep o10); have B10 := Lib.hid (B9.out.only o10 (fun e => e)); have t1 := B10.out.cell_ (i := 1) rfl; clear o10)
              | (go_at_call 20; refine (vs_active W.heap.size d s8v vA8 vP8 dd vd8 s8z w10 Z10.out.vs).mono ?_; rintro E w11 ⟨v11, rfl, n11, o11⟩; obtain ⟨A11, m11, c11, e11⟩ := own_sl n11; subst e11; have e8 : lb = m11 := HLB.out.symm.trans (own_len n11).symm; subst e8
                 have Z11 := Lib.hid (Z10.out.keep o11); clear n11 o11))
            go_roundw
            case rel => exact ⟨j + 1, _, _, _, _, _, by omega, by go_num, Z11.out⟩
            case measure => simp [intOf]; omega
          · have e1 : was = false := by rw [← HWAS.out]; simpa using hm
            subst e1
            have f1 : decide (ap ∈ s8v.act) = false := by rw [← hv8, loV, if_neg hm]; exact HWAS.out
            have F1 := Lib.hid f1
            clear hv8 hz8 hm f1
            go_wp2_with (first
              | (go_at_call 14; have _t := tokA; clear tokA; refine (C1.out _ Z0.out).mono ?_; rintro E w5 ⟨rfl, o5⟩; have Z5 := Lib.hid (Z0.out.keep o5); have B5 := Lib.hid (BX.out.only o5 (fun e => e)); clear o5)
              | (go_at_call 22; refine (C2.out _ Z5.out).mono ?_; rintro E w6 ⟨rfl, o6⟩; have Z6 := Lib.hid (Z5.out.keep o6); have B6 := Lib.hid (B5.out.only o6 (fun e => e)); clear o6)
              | (go_at_call 20; have _t := tokB; clear tokB; refine (vs_active W.heap.size d s vA vP dd vd1 zs w6 Z6.out.vs).mono ?_; rintro E w7 ⟨v7, rfl, n7, o7⟩; obtain ⟨A7, m7, c7, e7⟩ := own_sl n7; subst e7; have e8 : la = m7 := HLA.out.symm.trans (own_len n7).symm; subst e8
                 have Z7 := Lib.hid (Z6.out.keep o7); have B7 := Lib.hid (B6.out.only o7 (fun e => e)); have t0 := B7.out.cell_ (i := 0) rfl; have t1 := B7.out.cell_ (i := 1) rfl; clear n7 o7)
              | (go_at_call 17; refine (vs_lower W.heap.size d s vA vP dd vd1 zs ap w7 Z7.out.vs (hB.out _ Z7.out.ho)).mono ?_; rintro E w8 ⟨rfl, r8⟩; obtain ⟨vA8, vP8, vd8, s8, o8⟩ := Z7.out.step r8; dsimp only; rw [HWAS.out]
                 have Z8 : Hid (Vl W d s8v vA8 vP8 dd vd8 s8z w8) := by rw [Hid, ← HV.out.1, ← HV.out.2]; exact s8
                 have B8 := Lib.hid (Z7.out.box B7.out o8); have t0 := B8.out.cell_ (i := 0) rfl; have t1 := B8.out.cell_ (i := 1) rfl; clear r8 s8 o8)
              | (go_at_call 14; refine (vs_isA W.heap.size d s8v vA8 vP8 dd vd8 s8z ap w8 Z8.out.vs).mono ?_; rintro E w9 ⟨rfl, o9⟩; dsimp only; rw [F1.out]; have Z9 := Lib.hid (Z8.out.keep o9); have B9 := Lib.hid (B8.out.only o9 (fun e => e)); have t1 := B9.out.cell_ (i := 1) rfl; clear o9))
            go_roundw
            case rel => exact ⟨j + 1, _, _, _, _, _, by omega, by go_num, Z9.out⟩
            case measure => simp [intOf]; omega
        · obtain ⟨s8v, hv8⟩ : ∃ y, leV s ap zs = y := ⟨_, rfl⟩
          obtain ⟨s8z, hz8⟩ : ∃ y, leZ s ap zs = y := ⟨_, rfl⟩
          have HV : Hid (leV s ap zs = s8v ∧ leZ s ap zs = s8z) := ⟨hv8, hz8⟩
          obtain ⟨f1, f2⟩ := mv_learn (p := ap) (zs := zs) HVO.out
          rw [hv8] at f1 f2
          have f3 : decide (ap ∈ s8v.act) = was := by rw [f2]; exact HWAS.out
          have HLB : Hid (s8v.act.length = la) := by rw [Hid, f2]; exact HLA.out
          have F3 := Lib.hid f3
          cases hm : leOk s ap with
          | true =>
            have HM := Lib.hid hm
            have F1 := Lib.hid (f1 hm)
            clear hv8 hz8 hm f1 f2 f3
            go_wp2_with (first
              | (go_at_call 14; have _t := tokA; clear tokA; refine (C1.out _ Z0.out).mono ?_; rintro E w5 ⟨rfl, o5⟩; have Z5 := Lib.hid (Z0.out.keep o5); have B5 := Lib.hid (BX.out.only o5 (fun e => e)); clear o5)
              | (go_at_call 22; refine (C2.out _ Z5.out).mono ?_; rintro E w6 ⟨rfl, o6⟩; have Z6 := Lib.hid (Z5.out.keep o6); have B6 := Lib.hid (B5.out.only o6 (fun e => e)); clear o6)
              | (go_at_call 20; have _t := tokB; clear tokB; refine (vs_active W.heap.size d s vA vP dd vd1 zs w6 Z6.out.vs).mono ?_; rintro E w7 ⟨v7, rfl, n7, o7⟩; obtain ⟨A7, m7, c7, e7⟩ := own_sl n7; subst e7; have e8 : la = m7 := HLA.out.symm.trans (own_len n7).symm; subst e8
                 have Z7 := Lib.hid (Z6.out.keep o7); have B7 := Lib.hid (B6.out.only o7 (fun e => e)); have t0 := B7.out.cell_ (i := 0) rfl; have t1 := B7.out.cell_ (i := 1) rfl; clear n7 o7)
              | (go_at_call 18; refine (vs_learn W.heap.size d s vA vP dd vd1 zs ap w7 Z7.out.vs (hB.out _ Z7.out.ho)).mono ?_; rintro E w8 ⟨rfl, r8⟩; obtain ⟨vA8, vP8, vd8, s8, o8⟩ := Z7.out.step r8; dsimp only; rw [HM.out]
                 have Z8 : Hid (Vl W d s8v vA8 vP8 dd vd8 s8z w8) := by rw [Hid, ← HV.out.1, ← HV.out.2]; exact s8
                 have B8 := Lib.hid (Z7.out.box B7.out o8); have t0 := B8.out.cell_ (i := 0) rfl; have t1 := B8.out.cell_ (i := 1) rfl; clear r8 s8 o8)
              | (go_at_call 15; refine (vs_isP W.heap.size d s8v vA8 vP8 dd vd8 s8z ap w8 Z8.out.vs).mono ?_; rintro E w9 ⟨rfl, o9⟩; dsimp only; rw [F1.out]; have Z9 := Lib.hid (Z8.out.keep o9); have B9 := Lib.hid (B8.out.only o9 (fun e => e)); have t1 := B9.out.cell_ (i := 1) rfl; clear o9)
              | (go_at_call 14; refine (vs_isA W.heap.size d s8v vA8 vP8 dd vd8 s8z ap w9 Z9.out.vs).mono ?_; rintro E w10 ⟨rfl, o10⟩; dsimp only; rw [F3.out]; have Z10 := Lib.hid (Z9.out.keep o10); have B10 := Lib.hid (B9.out.only o10 (fun e => e)); have t1 := B10.out.cell_ (i := 1) rfl; clear o10)
              | (go_at_call 20; refine (vs_active W.heap.size d s8v vA8 vP8 dd vd8 s8z w10 Z10.out.vs).mono ?_; rintro E w11 ⟨v11, rfl, n11, o11⟩; obtain ⟨A11, m11, c11, e11⟩ := own_sl n11; subst e11; have e8 : la = m11 := HLB.out.symm.trans (own_len n11).symm; subst e8
                 have Z11 := Lib.hid (Z10.out.keep o11); clear n11 o11))
            go_roundw
            case rel => exact ⟨j + 1, _, _, _, _, _, by omega, by go_num, Z11.out⟩
            case measure => simp [intOf]; omega
          | false =>
            have HM := Lib.hid hm
            clear hv8 hz8 hm f1 f2 f3
            go_wp2_with (first
              | (go_at_call 14; have _t := tokA; clear tokA; refine (C1.out _ Z0.out).mono ?_; rintro E w5 ⟨rfl, o5⟩; have Z5 := Lib.hid (Z0.out.keep o5); have B5 := Lib.hid (BX.out.only o5 (fun e => e)); clear o5)
              | (go_at_call 22; refine (C2.out _ Z5.out).mono ?_; rintro E w6 ⟨rfl, o6⟩; have Z6 := Lib.hid (Z5.out.keep o6); have B6 := Lib.hid (B5.out.only o6 (fun e => e)); clear o6)
              | (go_at_call 20; have _t := tokB; clear tokB; refine (vs_active W.heap.size d s vA vP dd vd1 zs w6 Z6.out.vs).mono ?_; rintro E w7 ⟨v7, rfl, n7, o7⟩; obtain ⟨A7, m7, c7, e7⟩ := own_sl n7; subst e7; have e8 : la = m7 := HLA.out.symm.trans (own_len n7).symm; subst e8
                 have Z7 := Lib.hid (Z6.out.keep o7); have B7 := Lib.hid (B6.out.only o7 (fun e => e)); have t0 := B7.out.cell_ (i := 0) rfl; have t1 := B7.out.cell_ (i := 1) rfl; clear n7 o7)
              | (go_at_call 18; refine (vs_learn W.heap.size d s vA vP dd vd1 zs ap w7 Z7.out.vs (hB.out _ Z7.out.ho)).mono ?_; rintro E w8 ⟨rfl, r8⟩; obtain ⟨vA8, vP8, vd8, s8, o8⟩ := Z7.out.step r8; dsimp only; rw [HM.out]
                 have Z8 : Hid (Vl W d s8v vA8 vP8 dd vd8 s8z w8) := by rw [Hid, ← HV.out.1, ← HV.out.2]; exact s8
                 have B8 := Lib.hid (Z7.out.box B7.out o8); have t0 := B8.out.cell_ (i := 0) rfl; have t1 := B8.out.cell_ (i := 1) rfl; clear r8 s8 o8)
              | (go_at_call 14; refine (vs_isA W.heap.size d s8v vA8 vP8 dd vd8 s8z ap w8 Z8.out.vs).mono ?_; rintro E w9 ⟨rfl, o9⟩; dsimp only; rw [F3.out]; have Z9 := Lib.hid (Z8.out.keep o9); have B9 := Lib.hid (B8.out.only o9 (fun e => e)); have t1 := B9.out.cell_ (i := 1) rfl; clear o9)
              | (go_at_call 20; refine (vs_active W.heap.size d s8v vA8 vP8 dd vd8 s8z w9 Z9.out.vs).mono ?_; rintro E w10 ⟨v10, rfl, n10, o10⟩; obtain ⟨A10, m10, c10, e10⟩ := own_sl n10; subst e10; have e8 : la = m10 := HLB.out.symm.trans (own_len n10).symm; subst e8
                 have Z10 := Lib.hid (Z9.out.keep o10); clear n10 o10))
            go_roundw
            case rel => exact ⟨j + 1, _, _, _, _, _, by omega, by go_num, Z10.out⟩
            case measure => simp [intOf]; omega
    · obtain rfl : j = L := by omega
      go_wp2_with fail
      go_ret
      exact ⟨rfl, HS.out.ho⟩
end Go.Proofs.Ytiigebdmkibnbaa
