/- What the call of ViewsKeep comes to. No statement of the seat is proved here. -/
import Derived.Test.YtiigebdmkibnbaaVwJ
import Derived.LoopTactic
import Derived.Deep.DeepCutAuto
import Derived.Deep.CutBlock
namespace Go.Proofs.Ytiigebdmkibnbaa
open Go.RowKit
set_option linter.all false
set_option maxRecDepth 100000

set_option maxHeartbeats 1600000 in
theorem rv_node (p : Int) (w : World) :
    Calls Try.prog 11 #[.int .i64 p] w fun e w' => e = .returned (.bool (nodeB p)) ∧ w = w' := by
  by_cases h1 : 0 ≤ p
  · have e1 : decide (0 ≤ p) = true := by simpa using h1
    have e2 : nodeB p = decide (p < 12) := by simp [nodeB, h1]
    rw [e2]
    go_enter Try.func11, Try.ntmps11
    go_wp2_with fail
    go_ret
    exact ⟨rfl, rfl⟩
  · have e1 : decide (0 ≤ p) = false := by simpa using h1
    have e2 : nodeB p = false := by simp [nodeB, h1]
    rw [e2]
    go_enter Try.func11, Try.ntmps11
    go_wp2_with fail
    go_ret
    exact ⟨rfl, rfl⟩
theorem vkn0 (self : Int) (a p : Nat) : vkn (vm0 self a p) = [] := by simp [vkn, vm0]
/-- Views, dice and who was known, between two acts. -/
structure Vk (W : World) (d : Nat) (s : Vm) (vA vP : Value) (dd : Nat) (vd : Value) (zs : List Int) (v16 : Value) (was : List Int) (w : World) : Prop where
  vl : Vl W d s vA vP dd vd zs w
  nm : Nm w (fun b => ¬ vsb d vA vP dd vd b) v16 was
theorem Vk.keep {W w w' : World} {d : Nat} {s : Vm} {vA vP : Value} {dd : Nat} {vd : Value} {zs : List Int} {v16 : Value} {was : List Int} (h : Vk W d s vA vP dd vd zs v16 was w) (o : Only none_ w w') : Vk W d s vA vP dd vd zs v16 was w' := ⟨h.vl.keep o, h.nm.keep o⟩
theorem Vk.step {W w w' : World} {d : Nat} {s s' : Vm} {vA vP : Value} {dd : Nat} {vd : Value} {zs zs' : List Int} {v16 : Value} {was : List Int} (h : Vk W d s vA vP dd vd zs v16 was w) (r : VsR W.heap.size d vA vP dd vd s' zs' w w') :
    ∃ vA' vP' vd', Vk W d s' vA' vP' dd vd' zs' v16 was w' := by
  obtain ⟨vA', vP', vd', h1, h2, h3⟩ := r
  refine ⟨vA', vP', vd', ⟨h1, h.vl.ho.trans' h2 (fun k hk e => by have := (h.vl.vs.foot e).1; omega)⟩, ?_⟩
  have h4 : Nm w (fun b => ¬ vsb d vA vP dd vd b ∧ b < w.heap.size) v16 was := h.nm.mono (fun b hb h => ⟨h, hb⟩)
  exact (h4.only h2 (fun b hb => hb.1)).mono (fun b _ hb e => by
    rcases h3 b e with e | e
    · exact hb.1 e
    · have := hb.2; omega)
/-- Behind an act. -/
def Kc (W : World) (d dd : Nat) (self : Int) (na np : Nat) (v16 : Value) (was : List Int) (w : World) : Prop :=
  ∃ s vA vP vd zs, Vk W d s vA vP dd vd zs v16 was w ∧ s.self = self ∧ s.a = na ∧ s.p = np ∧ (np = 11 → ∀ z ∈ was, z ∈ vkn s)
theorem vkn_at {l : List Int} (h : l.Pairwise (· < ·)) {k : Nat} {z y : Int} (hz : l[k + 1]? = some z) (hy : l[k]? = some y) : y < z := by
  obtain ⟨h1, e1⟩ := List.getElem?_eq_some_iff.1 hz
  obtain ⟨h2, e2⟩ := List.getElem?_eq_some_iff.1 hy
  rw [← e1, ← e2]
  exact List.pairwise_iff_getElem.1 h _ _ h2 h1 (by omega)
theorem mem_take_succ {l : List Int} {j : Nat} {y z : Int} (hy : l[j]? = some y) : decide (z ∈ l.take (j + 1)) = (decide (z ∈ l.take j) || (y == z)) := by
  obtain ⟨h1, e1⟩ := List.getElem?_eq_some_iff.1 hy
  rw [List.take_succ_eq_append_getElem h1, e1, Bool.eq_iff_iff]
  simp only [List.mem_append, List.mem_singleton, decide_eq_true_eq, Bool.or_eq_true, beq_iff_eq]
  constructor
  · rintro (h | h)
    · exact .inl h
    · exact .inr h.symm
  · rintro (h | h)
    · exact .inl h
    · exact .inr h.symm
set_option maxHeartbeats 3200000 in
theorem vkeep_long (x0 x1 x2 : Int) (A0 : Option Addr) (L0 c0 : Nat) (A : Option Addr) (L c : Nat) (W : World) (hf : ¬ (L ≤ 60 ∧ L0 ≤ 100)) :
    Calls Try.prog 4 #[.int .u8 x0, .int .u8 x1, .int .u8 x2, .slice A0 L0 c0, .slice A L c] W fun e w' => e = .returned (.bool true) ∧ Only none_ W w' := by
  have tok1 : True := trivial
  by_cases h1 : L ≤ 60
  · have g1 : ¬ ((60 : Int) < (L : Int)) := by omega
    have g2 : ((100 : Int) < (L0 : Int)) := by omega
    clear hf h1
    go_enter Try.func4, Try.ntmps4
    go_wp2_with (first
      | (go_at_call 6; have _t := tok1; clear tok1; refine (vw_speaks _).mono ?_; rintro E w1 ⟨rfl, o1⟩; have O1 := Lib.hid o1; clear o1)
      | (go_at_call 6; refine (vw_speaks _).mono ?_; rintro E w2 ⟨rfl, o2⟩; have O2 := Lib.hid (O1.out.trans o2); clear o2))
    go_ret
    exact ⟨rfl, O2.out⟩
  · have g1 : ((60 : Int) < (L : Int)) := by omega
    clear hf h1
    go_enter Try.func4, Try.ntmps4
    go_wp2_with (first
      | (go_at_call 6; have _t := tok1; clear tok1; refine (vw_speaks _).mono ?_; rintro E w1 ⟨rfl, o1⟩; have O1 := Lib.hid o1; clear o1)
      | (go_at_call 6; refine (vw_speaks _).mono ?_; rintro E w2 ⟨rfl, o2⟩; have O2 := Lib.hid (O1.out.trans o2); clear o2))
    go_ret
    exact ⟨rfl, O2.out⟩

set_option maxHeartbeats 51200000 in
theorem vkeep_short (x0 x1 x2 : Int) (h0 : 0 ≤ x0 ∧ x0 < 256) (h1 : 0 ≤ x1 ∧ x1 < 256) (h2 : 0 ≤ x2 ∧ x2 < 256) (A0 : Option Addr) (L0 c0 : Nat) (A : Option Addr) (L c : Nat) (a : List Int) (l : List Va) (W : World) (hx0 : Nm W (fun b => b < W.heap.size) (.slice A0 L0 c0) a) (hx : Cel W (fun b => b < W.heap.size) (.slice A L c) L 3 (l.flatMap vaRow)) (hL : L = l.length) (hf : L ≤ 60 ∧ L0 ≤ 100) :
    Calls Try.prog 4 #[.int .u8 x0, .int .u8 x1, .int .u8 x2, .slice A0 L0 c0, .slice A L c] W fun e w' => e = .returned (.bool true) ∧ Only none_ W w' := by
  obtain ⟨r0, r0a, r0b⟩ := rem_u8 (n := 12) h0.1 h0.2 (by omega)
  obtain ⟨r1, r1a, r1b⟩ := rem_u8 (n := 11) h1.1 h1.2 (by omega)
  obtain ⟨r2, r2a, r2b⟩ := rem_u8 (n := 11) h2.1 h2.2 (by omega)
  have w0 : IntKind.i64.wrap x0 = x0 := IntWalk.i64_in _ (by omega)
  have w1 : IntKind.i64.wrap x1 = x1 := IntWalk.i64_in _ (by omega)
  have w2 : IntKind.i64.wrap x2 = x2 := IntWalk.i64_in _ (by omega)
  obtain ⟨self, hself⟩ : ∃ y, x0 % 12 = y := ⟨_, rfl⟩
  obtain ⟨na, hna⟩ : ∃ y : Nat, 1 + x1 % 11 = y := ⟨(1 + x1 % 11).toNat, by omega⟩
  obtain ⟨np, hnp⟩ : ∃ y : Nat, 1 + x2 % 11 = y := ⟨(1 + x2 % 11).toNat, by omega⟩
  have hok : newOk self na np = true := by simp [newOk, nodeB, sizeB]; omega
  rw [hself] at r0
  have HSE : Hid (IntKind.i64.wrap x0 = x0 ∧ Int.tmod x0 12 = self) := ⟨w0, r0⟩
  have wa : IntKind.i64.wrap (1 + x1 % 11) = (na : Int) := by rw [IntWalk.i64_in _ (by omega), hna]
  have wp : IntKind.i64.wrap (1 + x2 % 11) = (np : Int) := by rw [IntWalk.i64_in _ (by omega), hnp]
  have g1 : ¬ ((60 : Int) < (L : Int)) := by omega
  have g2 : ¬ ((100 : Int) < (L0 : Int)) := by omega
  have HOK := Lib.hid hok
  have HX0 := Lib.hid hx0
  have HX := Lib.hid hx
  have HL := Lib.hid hL
  have hal : a.length ≤ 100 := by have := hx0.len; omega
  have HAL := Lib.hid hal
  have hL6 : L ≤ 60 := hf.1
  clear hok hx0 hx hL hal hself hna hnp h0 h1 h2 r0a r0b r1a r1b r2a r2b hf
  have tok1 : True := trivial
  go_enter Try.func4, Try.ntmps4
  go_wp2_with (first
    | (go_at_call 6; refine (vw_speaks _).mono ?_; rintro E w3 ⟨rfl, o3⟩; have O1 := Lib.hid o3; clear o3)
    | (go_at_call 7; refine (vs_new_ok self na np _ HOK.out).mono ?_; rintro E w4 ⟨rfl, b4, o4⟩; have H1 := Lib.hid (show _ ∧ _ ∧ _ from ⟨b4, O1.out.trans o4, O1.out.size⟩); clear b4 o4)
    | (go_at_call 9; refine (dc_new _ a _ _ (HX0.out.keep H1.out.2.1) (by have := HAL.out; omega)).mono ?_; rintro E w5 ⟨dd, vd, rfl, d5, o5⟩
       have H2 : Hid (Vl W w3.heap.size (vm0 self na np) (.slice none 0 0) (.slice none 0 0) dd vd a w5) := ⟨vs_made (H1.out.1.only o5 (fun e => e)) H1.out.2.2 (d5.base H1.out.2.1.size) HOK.out, H1.out.2.1.trans o5⟩
       clear d5 o5))
  generalize w3.heap.size = d at *
  clear O1 H1 HX0 r0 r1 r2 w0 w1 w2 wa wp
  go_loopw [67, 16] (fun i v16 wr => ∃ (j : Nat) (s : Vm) (vA vP vd : Value) (zs : List Int) (x16 : Value), j ≤ L ∧ i = .int .i64 (j : Int) ∧ x16 = v16 ∧ Vk W d s vA vP dd vd zs x16 (vkn s) wr ∧ s.self = self ∧ s.a = na ∧ s.p = np) (fun i _ _ => L - (intOf i).toNat)
  case atStart => exact ⟨0, _, _, _, vd, a, _, Nat.zero_le _, rfl, rfl, ⟨H2.out, by rw [vkn0]; exact Nm.nil _ _⟩, rfl, rfl, rfl⟩
  case round =>
    obtain ⟨j, s, vA, vP, vd1, zs, v16, hj, rfl, rfl, hs, hse, hsa, hsp⟩ := hrel
    have HS := Lib.hid hs
    clear hs H2
    by_cases hlt : j < L
    · have hji : (j : Int) < (L : Int) := by omega
      obtain ⟨a1, ha⟩ : ∃ a1, l[j]? = some a1 := ⟨l[j]'(by have := HL.out; omega), List.getElem?_eq_getElem _⟩
      obtain ⟨b, off, hA, k0, k1, k2⟩ := va_at HX.out ha HL.out HS.out.vl.ho
      subst hA
      obtain ⟨ak, ap, aq⟩ := a1
      simp only at k0 k1 k2
      have hob2 : Hid (Only none_ wr (wr.alloc (.cells #[.int .i64 ak, .int .i64 ap, .int .i64 aq] 37))) := (Only.refl none_ wr).alloc _
      have BX : Hid (Blk (wr.alloc (.cells #[.int .i64 ak, .int .i64 ap, .int .i64 aq] 37)) wr.heap.size 37 #[.int .i64 ak, .int .i64 ap, .int .i64 aq]) := Blk.new wr _ _
      have Z0 := Lib.hid (HS.out.keep hob2.out)
      have HQ : Hid (s.self = self ∧ s.a = na ∧ s.p = np) := ⟨hse, hsa, hsp⟩
      have hB : Hid (∀ w', Only none_ W w' → W.heap.size ≤ w'.heap.size) := fun w' o => o.size
      obtain ⟨was, hwas⟩ : ∃ y, vkn s = y := ⟨_, rfl⟩
      rw [hwas] at Z0
      have HW := Lib.hid hwas
      clear ha hwas hse hsa hsp HS
      go_upto_block 2 with fail
      generalize wr.alloc (.cells #[.int .i64 ak, .int .i64 ap, .int .i64 aq] 37) = W4 at *
      generalize wr.heap.size = b8 at *
      clear k0 k1 k2 hob2
      go_cut [] (fun X => Kc W d dd self na np v16 was X)
      case first =>
        by_cases q0 : ak = 0
        · subst q0
          have t0 := BX.out.cell_ (i := 0) rfl
          have t1 := BX.out.cell_ (i := 1) rfl
          go_wp2_with (first
            | (go_at_call 16; refine (vs_raise W.heap.size d s vA vP dd vd1 zs ap W4 Z0.out.vl.vs (hB.out _ Z0.out.vl.ho)).mono ?_; rintro E w8 ⟨rfl, r8⟩
               obtain ⟨vA8, vP8, vd8, z8⟩ := Z0.out.step r8
               have HK : Hid (Kc W d dd self na np v16 was w8) := by
                 obtain ⟨p1, p2, p3⟩ := rs_p s ap zs
                 refine ⟨_, vA8, vP8, vd8, _, z8, p3.trans HQ.out.1, p2.trans HQ.out.2.1, p1.trans HQ.out.2.2, fun h11 z hz => ?_⟩
                 rw [← HW.out, vkn_mem] at hz
                 rw [vkn_mem]
                 exact rs_kept Z0.out.vl.vs.ok (HQ.out.2.2.trans h11) hz
               clear r8 z8))
          go_meet
          exact HK.out
        · by_cases q1 : ak = 1
          · subst q1
            have t0 := BX.out.cell_ (i := 0) rfl
            have t1 := BX.out.cell_ (i := 1) rfl
            go_wp2_with (first
              | (go_at_call 17; refine (vs_lower W.heap.size d s vA vP dd vd1 zs ap W4 Z0.out.vl.vs (hB.out _ Z0.out.vl.ho)).mono ?_; rintro E w8 ⟨rfl, r8⟩
                 obtain ⟨vA8, vP8, vd8, z8⟩ := Z0.out.step r8
                 have HK : Hid (Kc W d dd self na np v16 was w8) := by
                   obtain ⟨p1, p2, p3⟩ := lo_p s ap zs
                   refine ⟨_, vA8, vP8, vd8, _, z8, p3.trans HQ.out.1, p2.trans HQ.out.2.1, p1.trans HQ.out.2.2, fun h11 z hz => ?_⟩
                   rw [← HW.out, vkn_mem] at hz
                   rw [vkn_mem]
                   exact lo_kept Z0.out.vl.vs.ok (HQ.out.2.2.trans h11) hz
                 clear r8 z8))
            go_meet
            exact HK.out
          · skip
            have t0 := BX.out.cell_ (i := 0) rfl
            have t1 := BX.out.cell_ (i := 1) rfl
            go_wp2_with (first
              | (go_at_call 18; refine (vs_learn W.heap.size d s vA vP dd vd1 zs ap W4 Z0.out.vl.vs (hB.out _ Z0.out.vl.ho)).mono ?_; rintro E w8 ⟨rfl, r8⟩
                 obtain ⟨vA8, vP8, vd8, z8⟩ := Z0.out.step r8
                 have HK : Hid (Kc W d dd self na np v16 was w8) := by
                   obtain ⟨p1, p2, p3⟩ := le_p s ap zs
                   refine ⟨_, vA8, vP8, vd8, _, z8, p3.trans HQ.out.1, p2.trans HQ.out.2.1, p1.trans HQ.out.2.2, fun h11 z hz => ?_⟩
                   rw [← HW.out, vkn_mem] at hz
                   rw [vkn_mem]
                   exact le_kept Z0.out.vl.vs.ok (HQ.out.2.2.trans h11) hz
                 clear r8 z8))
            go_meet
            exact HK.out
      case rest =>
        obtain ⟨s8, vA8, vP8, vd8, zs8, hz8, hs1, hs2, hs3, hkp⟩ := hcut
        have Z8 := Lib.hid hz8
        have HQ8 : Hid (s8.self = self ∧ s8.a = na ∧ s8.p = np) := ⟨hs1, hs2, hs3⟩
        have HKP := Lib.hid hkp
        have HV8 := Lib.hid hz8.vl.vs.ok
        have WB : Hid (∀ b, vsb d vA8 vP8 dd vd8 b → b < wc.heap.size) := fun b hb => (hz8.vl.vs.foot hb).2
        obtain ⟨la, hla⟩ : ∃ y, s8.act.length = y := ⟨_, rfl⟩
        obtain ⟨lp, hlp⟩ : ∃ y, s8.pas.length = y := ⟨_, rfl⟩
        have HLA : Hid (s8.act.length = la ∧ s8.pas.length = lp) := ⟨hla, hlp⟩
        have hl1 : la ≤ na := by rw [← hla, ← hs2]; exact hz8.vl.vs.ok.la
        have hl2 : lp ≤ np := by rw [← hlp, ← hs3]; exact hz8.vl.vs.ok.lp
        have hl3 : la ≤ 12 ∧ lp ≤ 12 := ⟨by rw [← hla]; exact rl_le hz8.vl.vs.ok.ua, by rw [← hlp]; exact rl_le hz8.vl.vs.ok.up⟩
        have hl4 := hl3.1
        have hl5 := hl3.2
        have g1 : decide ((na : Int) < (la : Int)) = false := by rw [decide_eq_false_iff_not]; omega
        have g2 : decide ((np : Int) < (lp : Int)) = false := by rw [decide_eq_false_iff_not]; omega
        have g3 : decide (na < la) = false := by rw [decide_eq_false_iff_not]; omega
        have g4 : decide (np < lp) = false := by rw [decide_eq_false_iff_not]; omega
        have hw5 : IntKind.i64.wrap ((la : Int) + (lp : Int)) = ((la + lp : Nat) : Int) := by rw [IntWalk.i64_in _ (by omega)]; omega
        obtain ⟨N, hN⟩ : ∃ y, la + lp = y := ⟨_, rfl⟩
        rw [hN] at hw5
        have HN : Hid ((vkn s8).length = N) := by rw [Hid, vkn_len, hla, hlp, hN]
        have hN24 : N ≤ 24 := by omega
        obtain ⟨A6, n6, c6, e6⟩ : ∃ A n c, v16 = .slice A n c := by obtain ⟨A, c, e⟩ := hz8.nm.shape; exact ⟨A, _, c, e⟩
        subst e6
        obtain ⟨M, hM⟩ : ∃ y, was.length = y := ⟨_, rfl⟩
        have e7 : M = n6 := hM.symm.trans hz8.nm.len.symm
        subst e7
        have hM24 : M ≤ 24 := by
          rw [← hM, ← HW.out, vkn_len]
          have h1 := rl_le Z0.out.vl.vs.ok.ua
          have h2 := rl_le Z0.out.vl.vs.ok.up
          omega
        have HM := Lib.hid hM
        clear hz8 hs1 hs2 hs3 hkp hla hlp hl1 hl2 hl3 Z0 BX HQ hB HW hN hM
        have tokA : True := trivial
        have tokP : True := trivial
        go_wp2_with (first
          | (go_at_call 19; refine (vs_known W.heap.size d s8 vA8 vP8 dd vd8 zs8 _ Z8.out.vl.vs).mono ?_; rintro E w9 ⟨v9, rfl, n9, o9⟩; obtain ⟨A9, m9, c9, e9⟩ := own_sl n9; subst e9
             have e8 : N = m9 := HN.out.symm.trans (own_len n9).symm
             subst e8
             have N9 : Hid (Nm w9 (fun b => wc.heap.size ≤ b) (.slice A9 N c9) (vkn s8)) := (Cel.of_own n9).mono (fun b _ hb => (n9.lt b hb).1)
             have Z9 := Lib.hid (Z8.out.keep o9); clear n9 o9)
          | (go_at_call 20; have _t := tokA; clear tokA; refine (vs_active W.heap.size d s8 vA8 vP8 dd vd8 zs8 w9 Z9.out.vl.vs).mono ?_; rintro E w10 ⟨v9, rfl, n9, o9⟩; obtain ⟨A10, m9, c10, e9⟩ := own_sl n9; subst e9
             have e8 : la = m9 := HLA.out.1.symm.trans (own_len n9).symm
             subst e8
             have N10 := Lib.hid (N9.out.keep o9)
             have Z10 := Lib.hid (Z9.out.keep o9); clear n9 o9)
          | (go_at_call 21; have _t := tokP; clear tokP; refine (vs_passive W.heap.size d s8 vA8 vP8 dd vd8 zs8 w10 Z10.out.vl.vs).mono ?_; rintro E w11 ⟨v9, rfl, n9, o9⟩; obtain ⟨A11, m9, c11, e9⟩ := own_sl n9; subst e9
             have e8 : lp = m9 := HLA.out.2.symm.trans (own_len n9).symm
             subst e8
             have N11 := Lib.hid (N10.out.keep o9)
             have Z11 := Lib.hid (Z10.out.keep o9); clear n9 o9)
          | (go_at_call 20; refine (vs_active W.heap.size d s8 vA8 vP8 dd vd8 zs8 w11 Z11.out.vl.vs).mono ?_; rintro E w12 ⟨v9, rfl, n9, o9⟩; obtain ⟨A12, m9, c12, e9⟩ := own_sl n9; subst e9
             have e8 : la = m9 := HLA.out.1.symm.trans (own_len n9).symm
             subst e8
             have N12 := Lib.hid (N11.out.keep o9)
             have Z12 := Lib.hid (Z11.out.keep o9); clear n9 o9)
          | (go_at_call 21; refine (vs_passive W.heap.size d s8 vA8 vP8 dd vd8 zs8 w12 Z12.out.vl.vs).mono ?_; rintro E w13 ⟨v9, rfl, n9, o9⟩; obtain ⟨A13, m9, c13, e9⟩ := own_sl n9; subst e9
             have e8 : lp = m9 := HLA.out.2.symm.trans (own_len n9).symm
             subst e8
             have N13 := Lib.hid (N12.out.keep o9)
             have Z13 := Lib.hid (Z12.out.keep o9); clear n9 o9))
        clear N9 N10 N11 N12 Z8 Z9 Z10 Z11 Z12
        go_loopw [120] (fun i wr => ∃ k : Nat, k ≤ N ∧ i = .int .i64 (k : Int) ∧ Only none_ w13 wr) (fun i _ => N - (intOf i).toNat)
        case atStart => exact ⟨0, Nat.zero_le _, rfl, Only.refl _ _⟩
        case round =>
          obtain ⟨k, hk, rfl, ho⟩ := hrel
          have ZR := Lib.hid (Z13.out.keep ho)
          have NR := Lib.hid (N13.out.keep ho)
          have HO := Lib.hid ho
          clear ho
          by_cases hkl : k < N
          · have hki : (k : Int) < (N : Int) := by omega
            obtain ⟨z, hz⟩ : ∃ z, (vkn s8)[k]? = some z := ⟨(vkn s8)[k]'(by have := HN.out; omega), List.getElem?_eq_getElem _⟩
            obtain ⟨bb, oo, e1, _, _, hcz⟩ := nm_at NR.out hz
            subst e1
            have hmz : z ∈ s8.act ∨ z ∈ s8.pas := (vkn_mem z).1 (List.mem_of_getElem? hz)
            have hrz := (vkn_rl HV8.out).2 z (List.mem_of_getElem? hz)
            have hns : (z == self) = false := by
              rw [beq_eq_false_iff_ne]
              rintro rfl
              rcases hmz with h | h
              · exact HV8.out.na (HQ8.out.1 ▸ h)
              · exact HV8.out.np (HQ8.out.1 ▸ h)
            have hnode : nodeB z = true := by simp [nodeB]; omega
            obtain ⟨ba, hba⟩ : ∃ y, decide (z ∈ s8.act) = y := ⟨_, rfl⟩
            have hbp : decide (z ∈ s8.pas) = !ba := by
              rw [← hba]
              by_cases h : z ∈ s8.act
              · simp [h, HV8.out.ds z h]
              · have := hmz.resolve_left h
                simp [h, this]
            have CA : Hid (∀ w', Vk W d s8 vA8 vP8 dd vd8 zs8 (.slice A6 M c6) was w' → Calls Try.prog 14 #[.pointer (some ⟨d, 0, none⟩), .int .i64 z] w' fun e w'' => e = .returned (.bool ba) ∧ Only none_ w' w'') := fun w' h => by rw [← hba]; exact vs_isA W.heap.size d s8 vA8 vP8 dd vd8 zs8 z w' h.vl.vs
            have CP : Hid (∀ w', Vk W d s8 vA8 vP8 dd vd8 zs8 (.slice A6 M c6) was w' → Calls Try.prog 15 #[.pointer (some ⟨d, 0, none⟩), .int .i64 z] w' fun e w'' => e = .returned (.bool (!ba)) ∧ Only none_ w' w'') := fun w' h => by rw [← hbp]; exact vs_isP W.heap.size d s8 vA8 vP8 dd vd8 zs8 z w' h.vl.vs
            have hw0 := HSE.out.1
            have hr0 := HSE.out.2
            have HND : Hid (nodeB z = true) := hnode
            clear hmz hrz hba hbp hnode
            rcases Nat.eq_zero_or_pos k with e0 | e0
            · subst e0
              rw [Nat.add_zero] at hcz
              clear hz
              cases ba with
              | true =>
                go_wp2_with (first
                  | (go_at_call 11; refine (rv_node z _).mono ?_; rw [HND.out]; rintro E w14 ⟨rfl, rfl⟩)
                  | (go_at_call 14; refine (CA.out _ ZR.out).mono ?_; rintro E w15 ⟨rfl, o15⟩; have ZA := Lib.hid (ZR.out.keep o15); have OA := Lib.hid (HO.out.trans o15); clear o15)
                  | (go_at_call 15; refine (CP.out _ ZA.out).mono ?_; rintro E w16 ⟨rfl, o16⟩; have OB := Lib.hid (OA.out.trans o16); clear o16))
                go_roundw
                case rel => exact ⟨0 + 1, by omega, by go_num, OB.out⟩
                case measure => simp [intOf]; omega
              | false =>
                go_wp2_with (first
                  | (go_at_call 11; refine (rv_node z _).mono ?_; rw [HND.out]; rintro E w14 ⟨rfl, rfl⟩)
                  | (go_at_call 14; refine (CA.out _ ZR.out).mono ?_; rintro E w15 ⟨rfl, o15⟩; have ZA := Lib.hid (ZR.out.keep o15); have OA := Lib.hid (HO.out.trans o15); clear o15)
                  | (go_at_call 15; refine (CP.out _ ZA.out).mono ?_; rintro E w16 ⟨rfl, o16⟩; have OB := Lib.hid (OA.out.trans o16); clear o16))
                go_roundw
                case rel => exact ⟨0 + 1, by omega, by go_num, OB.out⟩
                case measure => simp [intOf]; omega
            · obtain ⟨k', rfl⟩ : ∃ k', k = k' + 1 := ⟨k - 1, by omega⟩
              obtain ⟨y, hy⟩ : ∃ y, (vkn s8)[k']? = some y := ⟨(vkn s8)[k']'(by have := HN.out; omega), List.getElem?_eq_getElem _⟩
              obtain ⟨bb2, oo2, e1, _, _, hcy⟩ := nm_at NR.out hy
              injection e1 with e1
              injection e1 with e1 e2 e3
              subst e1 e2
              have hyz := vkn_at (vkn_up HV8.out) hz hy
              have hge : decide (z ≤ y) = false := by rw [decide_eq_false_iff_not]; omega
              obtain ⟨k, hk2⟩ : ∃ k, k = k' + 1 := ⟨_, rfl⟩
              have hwk : IntKind.i64.wrap ((k : Int) - 1) = (k' : Int) := by rw [IntWalk.i64_in _ (by omega)]; omega
              have hk0 : decide ((0 : Int) < (k : Int)) = true := by rw [decide_eq_true_eq]; omega
              have hk'N : (k' : Int) < (N : Int) := by omega
              have hk0' : (0 : Int) ≤ (k' : Int) := by omega
              have hk'N2 : k' < N := by omega
              rw [← hk2] at hk hkl hki hcz e0 ⊢
              clear hk2 hz hy hyz
              cases ba with
              | true =>
                go_wp2_with (first
                  | (go_at_call 11; refine (rv_node z _).mono ?_; rw [HND.out]; rintro E w14 ⟨rfl, rfl⟩)
                  | (go_at_call 14; refine (CA.out _ ZR.out).mono ?_; rintro E w15 ⟨rfl, o15⟩; have ZA := Lib.hid (ZR.out.keep o15); have OA := Lib.hid (HO.out.trans o15); clear o15)
                  | (go_at_call 15; refine (CP.out _ ZA.out).mono ?_; rintro E w16 ⟨rfl, o16⟩; have OB := Lib.hid (OA.out.trans o16); clear o16))
                go_roundw
                case rel => exact ⟨k + 1, by omega, by go_num, OB.out⟩
                case measure => simp [intOf]; omega
              | false =>
                go_wp2_with (first
                  | (go_at_call 11; refine (rv_node z _).mono ?_; rw [HND.out]; rintro E w14 ⟨rfl, rfl⟩)
                  | (go_at_call 14; refine (CA.out _ ZR.out).mono ?_; rintro E w15 ⟨rfl, o15⟩; have ZA := Lib.hid (ZR.out.keep o15); have OA := Lib.hid (HO.out.trans o15); clear o15)
                  | (go_at_call 15; refine (CP.out _ ZA.out).mono ?_; rintro E w16 ⟨rfl, o16⟩; have OB := Lib.hid (OA.out.trans o16); clear o16))
                go_roundw
                case rel => exact ⟨k + 1, by omega, by go_num, OB.out⟩
                case measure => simp [intOf]; omega
          · obtain rfl : N = k := by omega
            clear Z13 N13
            generalize wr = w20 at *
            go_wp2_with fail
            go_loopw [160] (fun i wr => ∃ q : Nat, q ≤ M ∧ i = .int .i64 (q : Int) ∧ Only none_ w20 wr) (fun i _ => M - (intOf i).toNat)
            case atStart => exact ⟨0, Nat.zero_le _, rfl, Only.refl _ _⟩
            case round =>
              obtain ⟨q, hq, rfl, ho2⟩ := hrel
              have ZQ := Lib.hid (ZR.out.keep ho2)
              have NQ := Lib.hid (NR.out.keep ho2)
              have HO2 := Lib.hid ho2
              clear ho2
              by_cases hql : q < M
              · have hqi : (q : Int) < (M : Int) := by omega
                obtain ⟨z, hz⟩ : ∃ z, was[q]? = some z := ⟨was[q]'(by have := HM.out; omega), List.getElem?_eq_getElem _⟩
                obtain ⟨bb, oo, e1, _, _, hcz⟩ := nm_at ZQ.out.nm hz
                subst e1
                have HKZ : Hid (np = 11 → z ∈ vkn s8) := fun h => HKP.out h z (List.mem_of_getElem? hz)
                clear hz
                generalize wr = w21 at *
                go_wp2_with fail
                go_loopw [24, 166] (fun v24 i wr => ∃ k : Nat, k ≤ N ∧ i = .int .i64 (k : Int) ∧ v24 = .bool (decide (z ∈ (vkn s8).take k)) ∧ Only none_ w21 wr) (fun _ i _ => N - (intOf i).toNat)
                case atStart => exact ⟨0, Nat.zero_le _, rfl, by simp, Only.refl _ _⟩
                case round =>
                  obtain ⟨k, hk, rfl, rfl, ho3⟩ := hrel
                  have NS := Lib.hid (NQ.out.keep ho3)
                  have HO3 := Lib.hid ho3
                  clear ho3
                  by_cases hkl : k < N
                  · have hki : (k : Int) < (N : Int) := by omega
                    obtain ⟨y, hy⟩ : ∃ y, (vkn s8)[k]? = some y := ⟨(vkn s8)[k]'(by have := HN.out; omega), List.getElem?_eq_getElem _⟩
                    obtain ⟨bb2, oo2, e1, _, _, hcy⟩ := nm_at NS.out hy
                    have HMS := Lib.hid (mem_take_succ (z := z) hy)
                    subst e1
                    obtain ⟨bin, hbin⟩ : ∃ x, decide (z ∈ (vkn s8).take k) = x := ⟨_, rfl⟩
                    rw [hbin] at HMS ⊢
                    clear hbin hy
                    obtain ⟨byz, hbyz⟩ : ∃ x, (y == z) = x := ⟨_, rfl⟩
                    rw [hbyz] at HMS
                    cases bin with
                    | true =>
                      go_wp2_with fail
                      go_roundw
                      case rel => exact ⟨k + 1, by omega, by go_num, by rw [HMS.out]; rfl, HO3.out⟩
                      case measure => simp [intOf]; omega
                    | false =>
                      go_wp2_with fail
                      go_roundw
                      case rel => exact ⟨k + 1, by omega, by go_num, by rw [HMS.out, ← hbyz]; rfl, HO3.out⟩
                      case measure => simp [intOf]; omega
                  · obtain rfl : N = k := by omega
                    have htk : (vkn s8).take N = vkn s8 := List.take_of_length_le (by have := HN.out; omega)
                    rw [htk]
                    have HFIN := Lib.hid (HO2.out.trans HO3.out)
                    clear htk
                    by_cases h11 : np = 11
                    · have hin : decide (z ∈ vkn s8) = true := by rw [decide_eq_true_eq]; exact HKZ.out h11
                      rw [hin]
                      clear hin
                      go_wp2_with fail
                      go_roundw
                      case rel => exact ⟨q + 1, by omega, by go_num, HFIN.out⟩
                      case measure => simp [intOf]; omega
                    · have hnp : ((np : Int) == 11) = false := by rw [beq_eq_false_iff_ne]; omega
                      generalize decide (z ∈ vkn s8) = bin
                      clear h11
                      go_wp2_with fail
                      go_roundw
                      case rel => exact ⟨q + 1, by omega, by go_num, HFIN.out⟩
                      case measure => simp [intOf]; omega
              · obtain rfl : M = q := by omega
                have FZ := Lib.hid ZQ.out.vl
                have FN := Lib.hid NQ.out
                go_wp2_with fail
                go_roundw
                case rel => exact ⟨j + 1, s8, vA8, vP8, vd8, zs8, _, by omega, by go_num, rfl, ⟨FZ.out, FN.out.mono (fun b _ hb e => by have := (WB.out b e); omega)⟩, HQ8.out.1, HQ8.out.2.1, HQ8.out.2.2⟩
                case measure => simp [intOf]; omega
    · obtain rfl : j = L := by omega
      go_wp2_with fail
      go_ret
      exact ⟨rfl, HS.out.vl.ho⟩
end Go.Proofs.Ytiigebdmkibnbaa
