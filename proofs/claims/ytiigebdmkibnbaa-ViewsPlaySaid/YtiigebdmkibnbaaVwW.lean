/- What the call of ViewsPlay comes to. No statement of the seat is proved here. -/
import Derived.Test.YtiigebdmkibnbaaVwV
import Derived.Test.YtiigebdmkibnbaaVwU
namespace Go.Proofs.Ytiigebdmkibnbaa
open Go.RowKit
set_option linter.all false
set_option maxRecDepth 100000

set_option maxHeartbeats 3200000 in
theorem vplay_long (x0 x1 x2 : Int) (A0 : Option Addr) (L0 c0 : Nat) (A : Option Addr) (L c : Nat) (W : World) (hf : ¬ (L ≤ 60 ∧ L0 ≤ 100)) :
    Calls Try.prog 3 #[.int .i64 x0, .int .i64 x1, .int .i64 x2, .slice A0 L0 c0, .slice A L c] W fun e w' => e = .returned (.bool true) ∧ Only none_ W w' := by
  have tok1 : True := trivial
  by_cases h1 : L ≤ 60
  · have g1 : ¬ ((60 : Int) < (L : Int)) := by omega
    have g2 : ((100 : Int) < (L0 : Int)) := by omega
    clear hf h1
    go_enter Try.func3, Try.ntmps3
    go_wp2_with (first
      | (go_at_call 6; have _t := tok1; clear tok1; refine (vw_speaks _).mono ?_; rintro E w1 ⟨rfl, o1⟩; have O1 := Lib.hid o1; clear o1)
      | (go_at_call 6; refine (vw_speaks _).mono ?_; rintro E w2 ⟨rfl, o2⟩; have O2 := Lib.hid (O1.out.trans o2); clear o2))
    go_ret
    exact ⟨rfl, O2.out⟩
  · have g1 : ((60 : Int) < (L : Int)) := by omega
    clear hf h1
    go_enter Try.func3, Try.ntmps3
    go_wp2_with (first
      | (go_at_call 6; have _t := tok1; clear tok1; refine (vw_speaks _).mono ?_; rintro E w1 ⟨rfl, o1⟩; have O1 := Lib.hid o1; clear o1)
      | (go_at_call 6; refine (vw_speaks _).mono ?_; rintro E w2 ⟨rfl, o2⟩; have O2 := Lib.hid (O1.out.trans o2); clear o2))
    go_ret
    exact ⟨rfl, O2.out⟩

set_option maxHeartbeats 6400000 in
theorem vplay_bad (x0 x1 x2 : Int) (A0 : Option Addr) (L0 c0 : Nat) (A : Option Addr) (L c : Nat) (W : World) (hf : L ≤ 60 ∧ L0 ≤ 100) (hok : newOk x0 x1 x2 = false) :
    Calls Try.prog 3 #[.int .i64 x0, .int .i64 x1, .int .i64 x2, .slice A0 L0 c0, .slice A L c] W fun e w' => e = .returned (.bool true) ∧ Only none_ W w' := by
  have g1 : ¬ ((60 : Int) < (L : Int)) := by omega
  have g2 : ¬ ((100 : Int) < (L0 : Int)) := by omega
  have HOK := Lib.hid hok
  clear hok hf
  go_enter Try.func3, Try.ntmps3
  go_wp2_with (first
    | (go_at_call 6; refine (vw_speaks _).mono ?_; rintro E w1 ⟨rfl, o1⟩; have O1 := Lib.hid o1; clear o1)
    | (go_at_call 7; refine (vs_new_bad x0 x1 x2 _ HOK.out).mono ?_; rintro E w2 ⟨rfl, o2⟩; have O2 := Lib.hid (O1.out.trans o2); clear o2)
    | (go_at_call 8; refine (rv_new x0 x1 x2 _).mono ?_; rintro E w3 ⟨_, e3, o3⟩; have e3 := e3 HOK.out; subst e3; have O3 := Lib.hid ((O2.out.trans o3).alloc (.cells #[.int .i64 0, .bool false, .bool false, .bool false, .bool false, .bool false, .bool false, .bool false, .bool false, .bool false, .bool false, .bool false, .bool false, .bool false, .bool false, .bool false, .bool false, .bool false, .bool false, .bool false, .bool false, .bool false, .bool false, .bool false, .bool false, .int .i64 0, .int .i64 0] 31)); clear o3)
    | (with_reducible refine wpl_new rfl rfl 31 rfl _ _ rfl #[.int .i64 0, .bool false, .bool false, .bool false, .bool false, .bool false, .bool false, .bool false, .bool false, .bool false, .bool false, .bool false, .bool false, .bool false, .bool false, .bool false, .bool false, .bool false, .bool false, .bool false, .bool false, .bool false, .bool false, .bool false, .bool false, .int .i64 0, .int .i64 0] rfl rfl (by kernel_rfl) (by simp [Value.oneCell']) ?_))
  go_ret
  exact ⟨rfl, O3.out⟩

theorem vq_load_if {P : Program} {ops : Array Oper} {Q : Exit → Act → World → Prop} {rest : List Oper} {o : Oper} {a : Act} {w : World} (hw : Region.wanted o (yielded ops a.tmps) = true) (ty : TypeId) (x : Operand) (ho : o.op = .load ty x)
    (g : Nat) (hx : a.eval x = .pointer (some ⟨g, 0, none⟩)) (t : TypeId) (cs : Array Value) (d : TypeDesc) (hg : Blk w g t cs)
    (hu : P.underlying ty = some d) (hd : (match d with | .struct _ | .array _ _ => true | _ => false) = true) (hi : (P.info? ty).map (·.size) = some cs.size)
    (h : wpList P ops Q rest (a.put o.dst (.agg cs)) w) : wpList P ops Q (o :: rest) a w := by
  show (if Region.wanted o (yielded ops a.tmps) then o.wp P a w (wpList P ops Q rest) Q ∨ _ else _)
  rw [if_pos hw]
  exact .inl (wp_load_row ty x ho g hx t cs (0, 0) d hg hu hd hi h)
/-- Views, dice, the document's views and numbers, between two acts. -/
structure Vp (W : World) (d : Nat) (s : Vm) (vA vP : Value) (dd : Nat) (vd : Value) (zs : List Int) (bm : Nat) (v16 : Value) (w : World) : Prop where
  vl : Vl W d s vA vP dd vd zs w
  bk : Blk w bm 31 (drow s)
  nm : Nm w (fun b => b < W.heap.size) v16 zs
  ge : W.heap.size ≤ bm
theorem Vp.keep {W w w' : World} {d : Nat} {s : Vm} {vA vP : Value} {dd : Nat} {vd : Value} {zs : List Int} {bm : Nat} {v16 : Value} (h : Vp W d s vA vP dd vd zs bm v16 w) (o : Only none_ w w') : Vp W d s vA vP dd vd zs bm v16 w' := ⟨h.vl.keep o, h.bk.only o (fun e => e), h.nm.keep o, h.ge⟩
set_option maxHeartbeats 51200000 in
theorem vplay_short (x0 : Int) (na np : Nat) (A0 : Option Addr) (L0 c0 : Nat) (A : Option Addr) (L c : Nat) (a : List Int) (l : List Va) (W : World) (hx0 : Nm W (fun b => b < W.heap.size) (.slice A0 L0 c0) a) (hx : Cel W (fun b => b < W.heap.size) (.slice A L c) L 3 (l.flatMap vaRow)) (hL : L = l.length) (hf : L ≤ 60 ∧ L0 ≤ 100) (hok : newOk x0 na np = true) :
    Calls Try.prog 3 #[.int .i64 x0, .int .i64 (na : Int), .int .i64 (np : Int), .slice A0 L0 c0, .slice A L c] W fun e w' => e = .returned (.bool true) ∧ Only none_ W w' := by
  have g1 : ¬ ((60 : Int) < (L : Int)) := by omega
  have g2 : ¬ ((100 : Int) < (L0 : Int)) := by omega
  have HOK := Lib.hid hok
  have HX0 := Lib.hid hx0
  have HX := Lib.hid hx
  have HL := Lib.hid hL
  have hal : a.length ≤ 100 := by have := hx0.len; omega
  have HAL := Lib.hid hal
  have hL6 : L ≤ 60 := hf.1
  clear hok hx0 hx hL hal hf
  go_enter Try.func3, Try.ntmps3
  go_wp2_with (first
    | (go_at_call 6; refine (vw_speaks _).mono ?_; rintro E w1 ⟨rfl, o1⟩; have O1 := Lib.hid o1; clear o1)
    | (go_at_call 7; refine (vs_new_ok x0 na np _ HOK.out).mono ?_; rintro E w2 ⟨rfl, b2, o2⟩; have H2 := Lib.hid (show _ ∧ _ ∧ _ from ⟨b2, O1.out.trans o2, O1.out.size⟩); clear b2 o2)
    | (go_at_call 8; refine (rv_new x0 na np _).mono ?_; rintro E w3 ⟨e3, _, o3⟩; have e3 := e3 HOK.out; subst e3
       rw [← drow_vm0]
       have H3 : Hid (Blk (w3.alloc (.cells (drow (vm0 x0 na np)) 31)) w1.heap.size 52 (vcs (vm0 x0 na np) (.slice none 0 0) (.slice none 0 0)) ∧ Only none_ W (w3.alloc (.cells (drow (vm0 x0 na np)) 31)) ∧ W.heap.size ≤ w1.heap.size ∧ Blk (w3.alloc (.cells (drow (vm0 x0 na np)) 31)) w3.heap.size 31 (drow (vm0 x0 na np)) ∧ W.heap.size ≤ w3.heap.size) := ⟨(H2.out.1.only o3 (fun e => e)).alloc _, (H2.out.2.1.trans o3).alloc _, H2.out.2.2, Blk.new _ _ _, (H2.out.2.1.trans o3).size⟩
       clear o3)
    | (with_reducible refine wpl_new rfl rfl 31 rfl _ _ rfl (drow (vm0 x0 na np)) rfl rfl (by kernel_rfl) (drow_one _) ?_)
    | (go_at_call 9; refine (dc_new _ a _ _ (HX0.out.keep H3.out.2.1) (by have := HAL.out; omega)).mono ?_; rintro E w5 ⟨dd, vd, rfl, d5, o5⟩
       have Z5 : Hid (Vp W w1.heap.size (vm0 x0 na np) (.slice none 0 0) (.slice none 0 0) dd vd a w3.heap.size (.slice A0 L0 c0) w5) := ⟨⟨vs_made (H3.out.1.only o5 (fun e => e)) H3.out.2.2.1 (d5.base H3.out.2.1.size) HOK.out, H3.out.2.1.trans o5⟩, H3.out.2.2.2.1.only o5 (fun e => e), HX0.out.keep (H3.out.2.1.trans o5), H3.out.2.2.2.2⟩
       clear d5 o5))
  generalize w1.heap.size = d at *
  generalize w3.heap.size = bm at *
  clear O1 H2 H3 HX0
  go_loopw [67, 16] (fun i v16 wr => ∃ (j : Nat) (s : Vm) (vA vP vd : Value) (zs : List Int) (A6 : Option Addr) (n6 c6 : Nat), j ≤ L ∧ i = .int .i64 (j : Int) ∧ .slice A6 n6 c6 = v16 ∧ Vp W d s vA vP dd vd zs bm (.slice A6 n6 c6) wr) (fun i _ _ => L - (intOf i).toNat)
  case atStart => exact ⟨0, _, _, _, vd, a, _, _, _, Nat.zero_le _, rfl, rfl, Z5.out⟩
  case round =>
    obtain ⟨j, s, vA, vP, vd1, zs, A6, n6, c6, hj, rfl, rfl, hs⟩ := hrel
    have HS := Lib.hid hs
    clear hs Z5
    by_cases hlt : j < L
    · have hji : (j : Int) < (L : Int) := by omega
      obtain ⟨a1, ha⟩ : ∃ a1, l[j]? = some a1 := ⟨l[j]'(by have := HL.out; omega), List.getElem?_eq_getElem _⟩
      obtain ⟨b, off, hA, k0, k1, k2⟩ := va_at HX.out ha HL.out HS.out.vl.ho
      subst hA
      obtain ⟨ak, ap, aq⟩ := a1
      simp only at k0 k1 k2
      obtain ⟨s1, hs1⟩ : ∃ y, actV s ak ap zs = y := ⟨_, rfl⟩
      obtain ⟨z1, hz1⟩ : ∃ y, actZ s ak ap zs = y := ⟨_, rfl⟩
      have hob2 : Hid (Only none_ wr (wr.alloc (.cells #[.int .i64 ak, .int .i64 ap, .int .i64 aq] 37))) := (Only.refl none_ wr).alloc _
      have BX : Hid (Blk (wr.alloc (.cells #[.int .i64 ak, .int .i64 ap, .int .i64 aq] 37)) wr.heap.size 37 #[.int .i64 ak, .int .i64 ap, .int .i64 aq]) := Blk.new wr _ _
      have Z1 := Lib.hid (HS.out.keep hob2.out)
      have HDO : Hid (∀ w' X, Vl W d s vA vP dd vd1 zs w' → Nm w' (fun b => b < W.heap.size) X zs → Calls Try.prog 10 #[.pointer (some ⟨d, 0, none⟩), .pointer (some ⟨dd, 0, none⟩), .agg (drow s), X, .agg #[.int .i64 ak, .int .i64 ap, .int .i64 aq]] w' fun e w'' => ∃ A n c vA' vP' vd', e = .returned (.tuple #[.agg (drow s1), .slice A n c, .bool true]) ∧ Vl W d s1 vA' vP' dd vd' z1 w'' ∧ Nm w'' (fun b => b < W.heap.size) (.slice A n c) z1 ∧ Only (vsb d vA vP dd vd1) w' w'') := fun w' X h1 h2 => by
        have := rv_do W d s vA vP dd vd1 zs X ak ap aq w' h1 h2
        rw [hs1, hz1] at this
        exact this
      have hbw : bm < wr.heap.size := HS.out.bk.lt
      clear ha hs1 hz1 hob2
      cases hnb : nodeB aq with
      | false =>
        have HNB : Hid (nodeB aq = false) := hnb
        have hnm : ∀ l, Rl l → decide (aq ∈ l) = false := fun l hl => by
          rw [decide_eq_false_iff_not]; intro e
          rw [node_of hl e] at hnb; cases hnb
        have HA : Hid (Vok s1 → decide (aq ∈ s1.act) = false) := fun h => hnm _ h.ua
        have HP : Hid (Vok s1 → decide (aq ∈ s1.pas) = false) := fun h => hnm _ h.up
        clear hnb hnm
        go_wp2_with (first
          | (with_reducible refine vq_load rfl 31 _ rfl bm rfl _ (drow s) _ Z1.out.bk Try.underlying31 rfl (by kernel_rfl) ?_)
          | (with_reducible refine vq_load rfl 37 _ rfl wr.heap.size rfl _ #[.int .i64 ak, .int .i64 ap, .int .i64 aq] _ BX.out Try.underlying37 rfl (by kernel_rfl) ?_)
          | (go_at_call 10; refine (HDO.out _ _ Z1.out.vl Z1.out.nm).mono ?_; rintro E w4 ⟨A4, n4, c4, vA4, vP4, vd4, rfl, v4, m4, o4⟩
             have V5 : Hid (Vl W d s1 vA4 vP4 dd vd4 z1 (w4.alloc (.cells (drow s1) 31))) := v4.keep ((Only.refl none_ w4).alloc _)
             have M5 : Hid (Nm (w4.alloc (.cells (drow s1) 31)) (fun b => b < W.heap.size) (.slice A4 n4 c4) z1) := m4.keep ((Only.refl none_ w4).alloc _)
             have B5 : Hid (Blk (w4.alloc (.cells (drow s1) 31)) bm 31 (drow s)) := (Z1.out.bk.only o4 (Z1.out.vl.vs.far Z1.out.bk (by decide) (by decide) (by decide))).alloc _
             have C5 : Hid (Blk (w4.alloc (.cells (drow s1) 31)) w4.heap.size 31 (drow s1)) := Blk.new _ _ _
             have Y5 : Hid (Blk (w4.alloc (.cells (drow s1) 31)) wr.heap.size 37 #[.int .i64 ak, .int .i64 ap, .int .i64 aq]) := (Z1.out.vl.box BX.out o4).alloc _
             have o6 : Only (one bm) (w4.alloc (.cells (drow s1) 31)) ((w4.alloc (.cells (drow s1) 31)).setRow bm (drow s1)) := (Only.refl (one bm) _).setRow (.inl (show one bm bm from rfl)) _
             have Z6 : Hid (Vp W d s1 vA4 vP4 dd vd4 z1 bm (.slice A4 n4 c4) ((w4.alloc (.cells (drow s1) 31)).setRow bm (drow s1))) :=
               ⟨⟨V5.out.vs.only o6 (fun y hy e => by have e' : y = bm := e; subst e'; exact V5.out.vs.far B5.out (by decide) (by decide) (by decide) hy), V5.out.ho.trans' o6 (fun y hy e => by have e' : y = bm := e; have := HS.out.ge; omega)⟩, B5.out.setRow _, nm_far M5.out HS.out.ge o6 (fun y e => by have e' : y = bm := e; omega), HS.out.ge⟩
             have Y6 : Hid (Blk ((w4.alloc (.cells (drow s1) 31)).setRow bm (drow s1)) wr.heap.size 37 #[.int .i64 ak, .int .i64 ap, .int .i64 aq]) := Y5.out.only o6 (fun e => by have e' : wr.heap.size = bm := e; omega)
             have t2 := Y6.out.cell_ (i := 2) rfl
             have HN4 := Lib.hid m4.len
             clear v4 m4 o4 o6)
          | (with_reducible refine wpl_new rfl rfl 31 rfl _ _ rfl (drow s1) rfl rfl (by kernel_rfl) (drow_one s1) ?_)
          | (with_reducible refine vq_load rfl 31 _ rfl w4.heap.size rfl _ (drow s1) _ C5.out Try.underlying31 rfl (by kernel_rfl) ?_)
          | (with_reducible refine vq_store_all rfl 31 _ _ rfl bm (drow s1) rfl rfl _ _ B5.out (by kernel_rfl) (by kernel_rfl) (drow_one s1) ?_)
          | (go_at_call 11; refine (rv_node aq _).mono ?_; rw [HNB.out]; rintro E w7 ⟨rfl, rfl⟩)
          | (with_reducible refine vq_load_if (by simp [Region.wanted, yielded]) 31 _ rfl bm rfl _ (drow s1) _ Z6.out.bk Try.underlying31 rfl (by kernel_rfl) ?_)
          | (go_at_call 12; refine (vs_is W.heap.size d s1 vA4 vP4 dd vd4 z1 _ Z6.out.vl.vs).mono ?_; rintro E w8 ⟨rfl, o8⟩; have Z8 := Lib.hid (Z6.out.keep o8); have t3 := (Y6.out.only o8 (fun e => e)).cell_ (i := 2) rfl; have Y8 := Lib.hid (Y6.out.only o8 (fun e => e)); clear o8)
          | (go_at_call 13; refine (dc_left W.heap.size dd vd4 z1 _ Z8.out.vl.vs.dc).mono ?_; rw [← HN4.out]; rintro E w9 ⟨rfl, rfl⟩)
          | (go_at_call 14; refine (vs_isA W.heap.size d s1 vA4 vP4 dd vd4 z1 aq _ Z8.out.vl.vs).mono ?_; rintro E w10 ⟨rfl, o10⟩; dsimp only; rw [HA.out Z8.out.vl.vs.ok]; have Z10 := Lib.hid (Z8.out.keep o10); have t4 := (Y8.out.only o10 (fun e => e)).cell_ (i := 2) rfl; have Z10o := Lib.hid o10; clear o10)
          | (go_at_call 15; refine (vs_isP W.heap.size d s1 vA4 vP4 dd vd4 z1 aq _ Z10.out.vl.vs).mono ?_; rintro E w11 ⟨rfl, o11⟩; dsimp only; rw [HP.out Z10.out.vl.vs.ok]; have Z11 := Lib.hid (Z10.out.keep o11); have t5 := ((Y8.out.only (Z10o.out) (fun e => e)).only o11 (fun e => e)).cell_ (i := 2) rfl; clear o11))
        go_roundw
        case rel => exact ⟨j + 1, s1, vA4, vP4, vd4, z1, _, _, _, by omega, by go_num, rfl, Z11.out⟩
        case measure => simp [intOf]; omega
      | true =>
        have HNB : Hid (nodeB aq = true) := hnb
        have hr : 0 ≤ aq ∧ aq < 12 := by simpa [nodeB] using hnb
        obtain ⟨q, hq⟩ : ∃ q : Nat, (q : Int) = aq := ⟨aq.toNat, by omega⟩
        have hq12 : q < 12 := by omega
        have hqi : (q : Int) < 12 := by omega
        subst hq
        have hmx : ∀ ts t w, (Builtin.max_ ts t #[.int .i64 (q : Int), .int .i64 0]).run Try.prog w = .ok (.int .i64 (q : Int)) w := fun ts t w => by rw [run_max_int2, if_neg (by omega)]
        have hmn : ∀ ts t w, (Builtin.min_ ts t #[.int .i64 (q : Int), .int .i64 11]).run Try.prog w = .ok (.int .i64 (q : Int)) w := fun ts t w => by rw [run_min_int2, if_neg (by omega)]
        obtain ⟨ba, hba⟩ : ∃ y, decide ((q : Int) ∈ s1.act) = y := ⟨_, rfl⟩
        obtain ⟨bp, hbp⟩ : ∃ y, decide ((q : Int) ∈ s1.pas) = y := ⟨_, rfl⟩
        have HA := Lib.hid hba
        have HP := Lib.hid hbp
        clear hnb hr hba hbp
        go_wp2_with (first
          | (with_reducible refine vq_load rfl 31 _ rfl bm rfl _ (drow s) _ Z1.out.bk Try.underlying31 rfl (by kernel_rfl) ?_)
          | (with_reducible refine vq_load rfl 37 _ rfl wr.heap.size rfl _ #[.int .i64 ak, .int .i64 ap, .int .i64 (q : Int)] _ BX.out Try.underlying37 rfl (by kernel_rfl) ?_)
          | (go_at_call 10; refine (HDO.out _ _ Z1.out.vl Z1.out.nm).mono ?_; rintro E w4 ⟨A4, n4, c4, vA4, vP4, vd4, rfl, v4, m4, o4⟩
             have V5 : Hid (Vl W d s1 vA4 vP4 dd vd4 z1 (w4.alloc (.cells (drow s1) 31))) := v4.keep ((Only.refl none_ w4).alloc _)
             have M5 : Hid (Nm (w4.alloc (.cells (drow s1) 31)) (fun b => b < W.heap.size) (.slice A4 n4 c4) z1) := m4.keep ((Only.refl none_ w4).alloc _)
             have B5 : Hid (Blk (w4.alloc (.cells (drow s1) 31)) bm 31 (drow s)) := (Z1.out.bk.only o4 (Z1.out.vl.vs.far Z1.out.bk (by decide) (by decide) (by decide))).alloc _
             have C5 : Hid (Blk (w4.alloc (.cells (drow s1) 31)) w4.heap.size 31 (drow s1)) := Blk.new _ _ _
             have Y5 : Hid (Blk (w4.alloc (.cells (drow s1) 31)) wr.heap.size 37 #[.int .i64 ak, .int .i64 ap, .int .i64 (q : Int)]) := (Z1.out.vl.box BX.out o4).alloc _
             have o6 : Only (one bm) (w4.alloc (.cells (drow s1) 31)) ((w4.alloc (.cells (drow s1) 31)).setRow bm (drow s1)) := (Only.refl (one bm) _).setRow (.inl (show one bm bm from rfl)) _
             have Z6 : Hid (Vp W d s1 vA4 vP4 dd vd4 z1 bm (.slice A4 n4 c4) ((w4.alloc (.cells (drow s1) 31)).setRow bm (drow s1))) :=
               ⟨⟨V5.out.vs.only o6 (fun y hy e => by have e' : y = bm := e; subst e'; exact V5.out.vs.far B5.out (by decide) (by decide) (by decide) hy), V5.out.ho.trans' o6 (fun y hy e => by have e' : y = bm := e; have := HS.out.ge; omega)⟩, B5.out.setRow _, nm_far M5.out HS.out.ge o6 (fun y e => by have e' : y = bm := e; omega), HS.out.ge⟩
             have Y6 : Hid (Blk ((w4.alloc (.cells (drow s1) 31)).setRow bm (drow s1)) wr.heap.size 37 #[.int .i64 ak, .int .i64 ap, .int .i64 (q : Int)]) := Y5.out.only o6 (fun e => by have e' : wr.heap.size = bm := e; omega)
             have t2 := Y6.out.cell_ (i := 2) rfl
             have HN4 := Lib.hid m4.len
             clear v4 m4 o4 o6)
          | (with_reducible refine wpl_new rfl rfl 31 rfl _ _ rfl (drow s1) rfl rfl (by kernel_rfl) (drow_one s1) ?_)
          | (with_reducible refine vq_load rfl 31 _ rfl w4.heap.size rfl _ (drow s1) _ C5.out Try.underlying31 rfl (by kernel_rfl) ?_)
          | (with_reducible refine vq_store_all rfl 31 _ _ rfl bm (drow s1) rfl rfl _ _ B5.out (by kernel_rfl) (by kernel_rfl) (drow_one s1) ?_)
          | (go_at_call 11; refine (rv_node (q : Int) _).mono ?_; rw [HNB.out]; rintro E w7 ⟨rfl, rfl⟩)
          | (with_reducible refine vq_load_if (by simp [Region.wanted, yielded]) 31 _ rfl bm rfl _ (drow s1) _ Z6.out.bk Try.underlying31 rfl (by kernel_rfl) ?_)
          | (go_at_call 12; refine (vs_is W.heap.size d s1 vA4 vP4 dd vd4 z1 _ Z6.out.vl.vs).mono ?_; rintro E w8 ⟨rfl, o8⟩; have Z8 := Lib.hid (Z6.out.keep o8); have t3 := (Y6.out.only o8 (fun e => e)).cell_ (i := 2) rfl; have Y8 := Lib.hid (Y6.out.only o8 (fun e => e)); clear o8)
          | (go_at_call 13; refine (dc_left W.heap.size dd vd4 z1 _ Z8.out.vl.vs.dc).mono ?_; rw [← HN4.out]; rintro E w9 ⟨rfl, rfl⟩)
          | (go_at_call 14; refine (vs_isA W.heap.size d s1 vA4 vP4 dd vd4 z1 (q : Int) _ Z8.out.vl.vs).mono ?_; rintro E w10 ⟨rfl, o10⟩; dsimp only; rw [HA.out]; have Z10 := Lib.hid (Z8.out.keep o10); have t4 := (Y8.out.only o10 (fun e => e)).cell_ (i := 2) rfl; have Z10o := Lib.hid o10; have m1 := Z10.out.bk.cell_ (vrw_A (self := s1.self) (f := fb s1.act) (g := fb s1.pas) (a := s1.a) (p := s1.p) hq12); rw [fb_mem, HA.out] at m1; clear o10)
          | (go_at_call 15; refine (vs_isP W.heap.size d s1 vA4 vP4 dd vd4 z1 (q : Int) _ Z10.out.vl.vs).mono ?_; rintro E w11 ⟨rfl, o11⟩; dsimp only; rw [HP.out]; have Z11 := Lib.hid (Z10.out.keep o11); have t5 := ((Y8.out.only (Z10o.out) (fun e => e)).only o11 (fun e => e)).cell_ (i := 2) rfl; have m2 := Z11.out.bk.cell_ (vrw_P (self := s1.self) (f := fb s1.act) (g := fb s1.pas) (a := s1.a) (p := s1.p) hq12); rw [fb_mem, HP.out] at m2; clear o11))
        go_roundw
        case rel => exact ⟨j + 1, s1, vA4, vP4, vd4, z1, _, _, _, by omega, by go_num, rfl, Z11.out⟩
        case measure => simp [intOf]; omega
    · obtain rfl : j = L := by omega
      go_wp2_with fail
      go_ret
      exact ⟨rfl, HS.out.vl.ho⟩
end Go.Proofs.Ytiigebdmkibnbaa
