/- What the statements' do comes to: an act with views, and with the document's. No statement of the seat is proved here. -/
import Derived.Test.YtiigebdmkibnbaaVwT
import Derived.Deep.RegionLaw
namespace Go.Proofs.Ytiigebdmkibnbaa
open Go.RowKit
set_option linter.all false
set_option maxRecDepth 100000

theorem step_load_row {P : Program} {ops : Array Oper} {a : Act} {w : World} {Q : Exit → Act → World → Prop} {o : Oper} {K : Act → World → Prop} {E : Prop} (hwd : Region.wanted o (yielded ops a.tmps) = true) (ty : TypeId) (x : Operand) (ho : o.op = .load ty x)
    (g : Nat) (hx : a.eval x = .pointer (some ⟨g, 0, none⟩)) (t : TypeId) (cs : Array Value) (d : TypeDesc) (hg : Blk w g t cs)
    (hu : P.underlying ty = some d) (hd : (match d with | .struct _ | .array _ _ => true | _ => false) = true) (hi : (P.info? ty).map (·.size) = some cs.size)
    (h : K (a.put o.dst (.agg cs)) w) : if Region.wanted o (yielded ops a.tmps) = true then Oper.wp P o a w K Q else E := by
  rw [if_pos hwd]
  exact wp_load_row ty x ho g hx t cs (0, 0) d hg hu hd hi h
theorem step_store_all {P : Program} {ops : Array Oper} {a : Act} {w : World} {Q : Exit → Act → World → Prop} {o : Oper} {K : Act → World → Prop} {E : Prop} (hwd : Region.wanted o (yielded ops a.tmps) = true) (ty : TypeId) (x y : Operand) (ho : o.op = .store ty x y)
    (g : Nat) (cells : Array Value) (hx : a.eval x = .pointer (some ⟨g, 0, none⟩)) (hy : a.eval y = .agg cells) (t : TypeId) (old : Array Value) (hg : Blk w g t old) (hi : (P.info? ty).map (·.size) = some cells.size)
    (hold : old.size = cells.size) (h1 : cells.all (·.oneCell') = true) (h : K (a.put o.dst undef) (w.setRow g cells)) : if Region.wanted o (yielded ops a.tmps) = true then Oper.wp P o a w K Q else E := by
  rw [if_pos hwd]
  exact wp_store_row ty x y ho g cells hx hy t old hg hi hold h1 h
theorem step_callv {P : Program} {ops : Array Oper} {o : Oper} {a : Act} {w : World} {K : Act → World → Prop} {Q : Exit → Act → World → Prop} {E : Prop} (hwd : Region.wanted o (yielded ops a.tmps) = true) (f : FuncId) (args : Array Value)
    (hrun : (execOp a.eval o).run P w = .ok (.enter f args) w) (h : Calls P f args w fun e w' => ∃ v, e = .returned v ∧ K (a.put o.dst v) w') :
    if Region.wanted o (yielded ops a.tmps) = true then Oper.wp P o a w K Q else E := by
  rw [if_pos hwd]
  unfold Oper.wp
  rw [hrun]
  exact h.mono fun e w'' ⟨v, he, hk⟩ => by subst he; exact hk
section
variable {P : Program} {md : Region.Mode} {ops : Array Oper} {Q : Exit → Act → World → Prop} {fuel : Nat} {listed : Array Bool} {a : Act} {w : World} {oi : Oper} {v : Value}
theorem wpAny_comes2 (i d : Nat) (hi : ops[i]? = some oi) (hd : oi.dst = some d) (hg : oi.guard = none)
    (hs : Region.noSelect ops = true) (hf : Region.free md ops listed i = true) (hr : (Region.ready md ops listed).contains i = true)
    (hv : ∀ w, (execOp a.eval oi).run P w = .ok (.value v) w) (hQ : ∀ c a v w, Q (.panic c) (a.put (some d) v) w → Q (.panic c) a w)
    (h : wpAny P md ops Q fuel (listed.setIfInBounds i true) (a.put (some d) v) w) : wpAny P md ops Q (fuel + 1) listed a w :=
  wpAny_take hi hs hf hr (by rw [hd]; exact fun c a w => hQ c a _ w) (.inl ⟨by rw [Region.wanted, hg], hv⟩) (by rw [hd]; exact h)
end
theorem drow_one (s : Vm) : (drow s).all (·.oneCell') = true := vrw_one
def actV (s : Vm) (k p : Int) (zs : List Int) : Vm := if k = 0 then rsV s p zs else if k = 1 then loV s p zs else leV s p zs
def actZ (s : Vm) (k p : Int) (zs : List Int) : List Int := if k = 0 then rsZ s p zs else if k = 1 then loZ s p zs else leZ s p zs
/-- The boxes of the call: the document's views, the act, what is told. -/
structure Db (b : Nat) (s : Vm) (k p q : Int) (X : World) : Prop where
  x : Blk X b 31 (drow s)
  y : Blk X (b + 1) 37 #[.int .i64 k, .int .i64 p, .int .i64 q]
  z : Blk X (b + 1 + 1) 31 #[.int .i64 0, .bool false, .bool false, .bool false, .bool false, .bool false, .bool false, .bool false, .bool false, .bool false, .bool false, .bool false, .bool false, .bool false, .bool false, .bool false, .bool false, .bool false, .bool false, .bool false, .bool false, .bool false, .bool false, .bool false, .bool false, .int .i64 0, .int .i64 0]
theorem Db.only {b : Nat} {s : Vm} {k p q : Int} {X X' : World} {S : Nat → Prop} (h : Db b s k p q X) (o : Only S X X') (h1 : ¬ S b) (h2 : ¬ S (b + 1)) (h3 : ¬ S (b + 1 + 1)) : Db b s k p q X' := ⟨h.x.only o h1, h.y.only o h2, h.z.only o h3⟩
theorem Db.keep {b : Nat} {s : Vm} {k p q : Int} {X X' : World} (h : Db b s k p q X) (o : Only none_ X X') : Db b s k p q X' := h.only o (fun e => e) (fun e => e) (fun e => e)
theorem Db.mk0 (w : World) (s : Vm) (k p q : Int) : Db w.heap.size s k p q (((w.alloc (.cells (drow s) 31)).alloc (.cells #[.int .i64 k, .int .i64 p, .int .i64 q] 37)).alloc (.cells #[.int .i64 0, .bool false, .bool false, .bool false, .bool false, .bool false, .bool false, .bool false, .bool false, .bool false, .bool false, .bool false, .bool false, .bool false, .bool false, .bool false, .bool false, .bool false, .bool false, .bool false, .bool false, .bool false, .bool false, .bool false, .bool false, .int .i64 0, .int .i64 0] 31)) := by
  refine ⟨((Blk.new w _ _).alloc _).alloc _, ?_, ?_⟩
  · have := (Blk.new (w.alloc (.cells (drow s) 31)) 37 #[.int .i64 k, .int .i64 p, .int .i64 q]).alloc (.cells #[.int .i64 0, .bool false, .bool false, .bool false, .bool false, .bool false, .bool false, .bool false, .bool false, .bool false, .bool false, .bool false, .bool false, .bool false, .bool false, .bool false, .bool false, .bool false, .bool false, .bool false, .bool false, .bool false, .bool false, .bool false, .bool false, .int .i64 0, .int .i64 0] 31)
    rwa [World.size_alloc] at this
  · have := Blk.new ((w.alloc (.cells (drow s) 31)).alloc (.cells #[.int .i64 k, .int .i64 p, .int .i64 q] 37)) 31 #[.int .i64 0, .bool false, .bool false, .bool false, .bool false, .bool false, .bool false, .bool false, .bool false, .bool false, .bool false, .bool false, .bool false, .bool false, .bool false, .bool false, .bool false, .bool false, .bool false, .bool false, .bool false, .bool false, .bool false, .bool false, .bool false, .int .i64 0, .int .i64 0]
    rw [World.size_alloc, World.size_alloc] at this
    exact this
/-- Views, the document's numbers, boxes. -/
structure Dqx (W : World) (d : Nat) (s : Vm) (vA vP : Value) (dd : Nat) (vd : Value) (zs : List Int) (w : World) (X : World) : Prop where
  vl : Vl W d s vA vP dd vd zs X
theorem Vl.drew {W w : World} {d : Nat} {s : Vm} {vA vP : Value} {dd : Nat} {vd : Value} {zs : List Int} (h : Vl W d s vA vP dd vd zs w) : Vl W d s vA vP dd vd zs w.drew := h.keep (Only.refl none_ w).drew
theorem vs_db {W X X' : World} {d : Nat} {s s0 : Vm} {vA vP : Value} {dd : Nat} {vd : Value} {zs : List Int} {b : Nat} {k p q : Int} (h : Vl W d s vA vP dd vd zs X) (hb : Db b s0 k p q X) (o : Only (vsb d vA vP dd vd) X X') : Db b s0 k p q X' :=
  hb.only o (h.vs.far hb.x (by decide) (by decide) (by decide)) (h.vs.far hb.y (by decide) (by decide) (by decide)) (h.vs.far hb.z (by decide) (by decide) (by decide))
theorem nm_vsb {W X X' : World} {d : Nat} {s : Vm} {vA vP : Value} {dd : Nat} {vd : Value} {zs : List Int} {v : Value} {ys : List Int} (h : Vl W d s vA vP dd vd zs X) (hn : Nm X (fun b => b < W.heap.size) v ys) (o : Only (vsb d vA vP dd vd) X X') : Nm X' (fun b => b < W.heap.size) v ys :=
  hn.only o (fun y hy e => by have := (h.vs.foot e).1; omega)

set_option maxHeartbeats 25600000 in
theorem rv_do (W : World) (d : Nat) (s : Vm) (vA vP : Value) (dd : Nat) (vd : Value) (zs : List Int) (X : Value) (k p q : Int) (w : World) (h : Vl W d s vA vP dd vd zs w) (hX : Nm w (fun b => b < W.heap.size) X zs) :
    Calls Try.prog 10 #[.pointer (some ⟨d, 0, none⟩), .pointer (some ⟨dd, 0, none⟩), .agg (drow s), X, .agg #[.int .i64 k, .int .i64 p, .int .i64 q]] w fun e w' => ∃ A n c vA' vP' vd', e = .returned (.tuple #[.agg (drow (actV s k p zs)), .slice A n c, .bool true]) ∧ Vl W d (actV s k p zs) vA' vP' dd vd' (actZ s k p zs) w' ∧ Nm w' (fun b => b < W.heap.size) (.slice A n c) (actZ s k p zs) ∧ Only (vsb d vA vP dd vd) w w' := by
  obtain ⟨w3, hw3⟩ : ∃ x, ((w.alloc (.cells (drow s) 31)).alloc (.cells #[.int .i64 k, .int .i64 p, .int .i64 q] 37)).alloc (.cells #[.int .i64 0, .bool false, .bool false, .bool false, .bool false, .bool false, .bool false, .bool false, .bool false, .bool false, .bool false, .bool false, .bool false, .bool false, .bool false, .bool false, .bool false, .bool false, .bool false, .bool false, .bool false, .bool false, .bool false, .bool false, .bool false, .int .i64 0, .int .i64 0] 31) = x := ⟨_, rfl⟩
  obtain ⟨b0, hb0⟩ : ∃ x, w.heap.size = x := ⟨_, rfl⟩
  have O3 : Hid (Only none_ w w3) := by rw [← hw3]; exact (((Only.refl none_ w).alloc _).alloc _).alloc _
  have D3 : Hid (Db b0 s k p q w3) := by rw [← hw3, ← hb0]; exact Db.mk0 w s k p q
  have HW3 := Lib.hid hw3
  have HB0 := Lib.hid hb0
  have V3 := Lib.hid (h.keep O3.out)
  have HBW : Hid (W.heap.size ≤ b0) := by rw [← hb0]; exact h.ho.size
  have X3 := Lib.hid (hX.keep O3.out)
  obtain ⟨AX, cX, eX⟩ := hX.shape
  subst eX
  obtain ⟨nX, hnX⟩ : ∃ y, zs.length = y := ⟨_, rfl⟩
  rw [hnX] at X3 ⊢
  have y0 := D3.out.y.cell_ (i := 0) rfl
  have y1 := D3.out.y.cell_ (i := 1) rfl
  have HW0 : Hid (W.heap.size ≤ w3.heap.size) := V3.out.ho.size
  have HFT : Hid (∀ y, vsb d vA vP dd vd y → y < b0) := fun y hy => by rw [← hb0]; exact (h.vs.foot hy).2
  obtain ⟨s1, hs1⟩ : ∃ y, actV s k p zs = y := ⟨_, rfl⟩
  obtain ⟨z1, hz1⟩ : ∃ y, actZ s k p zs = y := ⟨_, rfl⟩
  rw [hs1, hz1]
  clear hw3 hb0 h hX hnX
  by_cases k0 : k = 0
  · subst k0
    have hv1 : rsV s p zs = s1 := by rw [← hs1, actV, if_pos rfl]
    have hz2 : rsZ s p zs = z1 := by rw [← hz1, actZ, if_pos rfl]
    have HS : Hid (rsV s p zs = s1 ∧ rsZ s p zs = z1) := ⟨hv1, hz2⟩
    have HV1 := Lib.hid hv1
    obtain ⟨g, hg⟩ : ∃ y, rsG s p zs = y := ⟨_, rfl⟩
    obtain ⟨m, hm⟩ : ∃ y, rsOk s p = y := ⟨_, rfl⟩
    have HG := Lib.hid hg
    have HM := Lib.hid hm
    clear hs1 hz1 hv1 hz2 hg hm
    go_enter Try.func10, Try.ntmps10
    go_upto_region 1 with fail
    rw [HW3.out, HB0.out]
    go_wp2_with (first
      | (with_reducible refine vq_load rfl 31 _ rfl b0 rfl _ (drow s) _ D3.out.x Try.underlying31 rfl (by kernel_rfl) ?_)
      | (go_at_call 26; refine (rv_raise s p _ zs W.heap.size w3 HW0.out V3.out.vs.ok X3.out).mono ?_; rintro E w4 ⟨A4, n4, c4, rfl, m4, o4⟩
         dsimp only
         rw [HS.out.1, HG.out, HM.out]
         have o5 : Only none_ w3 (w4.alloc (.cells (drow s1) 31)) := o4.alloc _
         have V5 := Lib.hid (V3.out.keep o5)
         have D5 := Lib.hid (D3.out.keep o5)
         have B5 : Hid (Blk (w4.alloc (.cells (drow s1) 31)) w4.heap.size 31 (drow s1)) := Blk.new _ _ _
         have M5 : Hid (Nm (w4.alloc (.cells (drow s1) 31)) (fun b => b < W.heap.size) (.slice A4 n4 c4) z1) := by rw [Hid, ← HS.out.2]; exact m4.keep ((Only.refl none_ w4).alloc _)
         have O5 := Lib.hid (O3.out.trans o5)
         have HG5 : Hid (b0 + 1 + 1 < w4.heap.size) := (D3.out.keep o4).z.lt
         have HW5 : Hid (W.heap.size ≤ (w4.alloc (.cells (drow s1) 31)).heap.size) := V5.out.ho.size
         have u1 := D5.out.y.cell_ (i := 1) rfl
         clear m4 o4 o5)
      | (with_reducible refine wpl_new rfl rfl 31 rfl _ _ rfl (drow s1) rfl rfl (by kernel_rfl) (drow_one s1) ?_)
      | (go_at_call 16; refine (vs_raise W.heap.size d s vA vP dd vd zs p _ V5.out.vs HW5.out).mono ?_; rintro E w7 ⟨rfl, r7⟩; obtain ⟨vA7, vP7, vd7, v7, o7⟩ := V5.out.step r7; dsimp only; rw [HG.out, HM.out]
         rw [HV1.out, HS.out.2] at v7
         have V7 := Lib.hid v7
         have D7 := Lib.hid (vs_db V5.out D5.out o7)
         have B7 := Lib.hid (B5.out.only o7 (V5.out.vs.far B5.out (by decide) (by decide) (by decide)))
         have M7 := Lib.hid (nm_vsb V5.out M5.out o7)
         have OF : Hid (Only (one (b0 + 1 + 1)) w7 (w7.setRow (b0 + 1 + 1) (drow s1))) := (Only.refl (one (b0 + 1 + 1)) w7).setRow (.inl (show one (b0 + 1 + 1) (b0 + 1 + 1) from rfl)) _
         have FB : Hid (Blk (w7.setRow (b0 + 1 + 1) (drow s1)) (b0 + 1 + 1) 31 (drow s1)) := D7.out.z.setRow _
         have FV : Hid (Vl W d s1 vA7 vP7 dd vd7 z1 (w7.setRow (b0 + 1 + 1) (drow s1))) := ⟨V7.out.vs.only OF.out (fun y hy e => by have e' : y = b0 + 1 + 1 := e; subst e'; exact V7.out.vs.far D7.out.z (by decide) (by decide) (by decide) hy), V7.out.ho.trans' OF.out (fun y hy e => by have e' : y = b0 + 1 + 1 := e; have := HBW.out; omega)⟩
         have FM : Hid (Nm (w7.setRow (b0 + 1 + 1) (drow s1)) (fun b => b < W.heap.size) (.slice A4 n4 c4) z1) := nm_far M7.out HBW.out OF.out (fun y e => by have e' : y = b0 + 1 + 1 := e; omega)
         have FO : Hid (Only (vsb d vA vP dd vd) w (w7.setRow (b0 + 1 + 1) (drow s1))) := (O5.out.of_none.trans o7).trans' OF.out (fun y hy e => by have e' : y = b0 + 1 + 1 := e; have h3 := HB0.out; omega)
         clear r7 v7 o7)
      | (with_reducible refine vq_load rfl 31 _ rfl w4.heap.size rfl _ (drow s1) _ B7.out Try.underlying31 rfl (by kernel_rfl) ?_)
      | (with_reducible refine vq_store_all rfl 31 _ _ rfl (b0 + 1 + 1) (drow s1) rfl rfl _ _ D7.out.z (by kernel_rfl) (by kernel_rfl) (drow_one s1) ?_))
    refine bodyPost_ret (results_cell_tmp2 rfl _ _ (b0 + 1 + 1) 31 (drow s1) _ rfl FB.out Try.underlying31 rfl (by kernel_rfl) _ rfl _ rfl) rfl ?_
    exact ⟨_, _, _, _, _, _, rfl, FV.out, FM.out, FO.out⟩
  · by_cases k1 : k = 1
    · subst k1
      have hv1 : loV s p zs = s1 := by rw [← hs1, actV, if_neg (by decide), if_pos rfl]
      have hz2 : loZ s p zs = z1 := by rw [← hz1, actZ, if_neg (by decide), if_pos rfl]
      have HS : Hid (loV s p zs = s1 ∧ loZ s p zs = z1) := ⟨hv1, hz2⟩
      have HV1 := Lib.hid hv1
      obtain ⟨m, hm⟩ : ∃ y, decide (p ∈ s.act) = y := ⟨_, rfl⟩
      have HM := Lib.hid hm
      clear hs1 hz1 hv1 hz2 hm
      go_enter Try.func10, Try.ntmps10
      go_upto_region 1 with fail
      rw [HW3.out, HB0.out]
      go_wp2_with (first
        | (with_reducible refine vq_load rfl 31 _ rfl b0 rfl _ (drow s) _ D3.out.x Try.underlying31 rfl (by kernel_rfl) ?_)
        | (go_at_call 27; refine (rv_lower s p _ zs W.heap.size w3 HW0.out V3.out.vs.ok X3.out).mono ?_; rintro E w4 ⟨A4, n4, c4, rfl, m4, o4⟩
           dsimp only
           rw [HS.out.1, HM.out]
           have o5 : Only none_ w3 (w4.alloc (.cells (drow s1) 31)) := o4.alloc _
           have V5 := Lib.hid (V3.out.keep o5)
           have D5 := Lib.hid (D3.out.keep o5)
           have B5 : Hid (Blk (w4.alloc (.cells (drow s1) 31)) w4.heap.size 31 (drow s1)) := Blk.new _ _ _
           have M5 : Hid (Nm (w4.alloc (.cells (drow s1) 31)) (fun b => b < W.heap.size) (.slice A4 n4 c4) z1) := by rw [Hid, ← HS.out.2]; exact m4.keep ((Only.refl none_ w4).alloc _)
           have O5 := Lib.hid (O3.out.trans o5)
           have HG5 : Hid (b0 + 1 + 1 < w4.heap.size) := (D3.out.keep o4).z.lt
           have HW5 : Hid (W.heap.size ≤ (w4.alloc (.cells (drow s1) 31)).heap.size) := V5.out.ho.size
           have u1 := D5.out.y.cell_ (i := 1) rfl
           clear m4 o4 o5)
        | (with_reducible refine wpl_new rfl rfl 31 rfl _ _ rfl (drow s1) rfl rfl (by kernel_rfl) (drow_one s1) ?_))
      refine wp_region_any (by kernel_rfl) ?_
      try (change wpAny _ _ _ _ _ _ _ (World.drew _))
      refine wpAny_comes2 (v := .slice A4 n4 c4) 1 69 rfl rfl rfl (by kernel_rfl) (by kernel_rfl) (by kernel_rfl) (fun w => by go_simp) (fun _ _ _ _ h => h) ?_
      try simp only [Act.put, List.setIfInBounds_toArray, List.set_cons_zero, List.set_cons_succ]
      refine wpAny_comes2 (v := .pointer (some ⟨d, 0, none⟩)) 2 70 rfl rfl rfl (by kernel_rfl) (by kernel_rfl) (by kernel_rfl) (fun w => by go_simp) (fun _ _ _ _ h => h) ?_
      try simp only [Act.put, List.setIfInBounds_toArray, List.set_cons_zero, List.set_cons_succ]
      refine wpAny_comes2 (v := .pointer (some ⟨b0 + 1, 1, none⟩)) 3 71 rfl rfl rfl (by kernel_rfl) (by kernel_rfl) (by kernel_rfl) (fun w => by go_simp) (fun _ _ _ _ h => h) ?_
      try simp only [Act.put, List.setIfInBounds_toArray, List.set_cons_zero, List.set_cons_succ]
      refine wpAny_comes2 (v := .pointer (some ⟨dd, 0, none⟩)) 5 73 rfl rfl rfl (by kernel_rfl) (by kernel_rfl) (by kernel_rfl) (fun w => by go_simp) (fun _ _ _ _ h => h) ?_
      try simp only [Act.put, List.setIfInBounds_toArray, List.set_cons_zero, List.set_cons_succ]
      refine wpAny_comes2 (v := .bool m) 7 75 rfl rfl rfl (by kernel_rfl) (by kernel_rfl) (by kernel_rfl) (fun w => by go_simp) (fun _ _ _ _ h => h) ?_
      try simp only [Act.put, List.setIfInBounds_toArray, List.set_cons_zero, List.set_cons_succ]
      refine wpAny_ready (rs := [0, 4]) (by decide +kernel) (by simp) ?_
      refine AllReady.cons rfl (fun K hK => ?_) ?_
      · refine step_load_row (by simp [Region.wanted]) 31 _ rfl w4.heap.size rfl 31 (drow s1) _ B5.out.drew Try.underlying31 rfl (by kernel_rfl) ?_
        refine hK _ _ ?_
        clear hK K
        try simp only [Act.put, List.setIfInBounds_toArray, List.set_cons_zero, List.set_cons_succ]
        refine wpAny_ready (rs := [4]) (by decide +kernel) (by simp) ?_
        refine AllReady.cons rfl (fun K hK => ?_) AllReady.nil
        have t1 := (D5.out.y.drew).cell_ (i := 1) rfl
        go_simp
        refine hK _ _ ?_
        clear hK K
        try simp only [Act.put, List.setIfInBounds_toArray, List.set_cons_zero, List.set_cons_succ]
        refine wpAny_ready (rs := [6]) (by decide +kernel) (by simp) ?_
        refine AllReady.cons rfl (fun K hK => ?_) AllReady.nil
        refine step_callv (by simp [Region.wanted]) 17 #[.pointer (some ⟨d, 0, none⟩), .int .i64 p, .pointer (some ⟨dd, 0, none⟩)] (by go_simp; try (with_reducible rfl)) ?_
        refine (vs_lower W.heap.size d s vA vP dd vd zs p _ V5.out.drew.vs HW5.out).mono ?_
        rintro E w7 ⟨rfl, r7⟩
        obtain ⟨vA7, vP7, vd7, v7, o7⟩ := V5.out.drew.step r7
        have o7 := o7.undrew
        refine ⟨_, rfl, ?_⟩
        rw [HM.out]
        rw [HV1.out, HS.out.2] at v7
        have V7 := Lib.hid v7
        have D7 := Lib.hid (vs_db V5.out D5.out o7)
        have B7 := Lib.hid (B5.out.only o7 (V5.out.vs.far B5.out (by decide) (by decide) (by decide)))
        have M7 := Lib.hid (nm_vsb V5.out M5.out o7)
        have OF : Hid (Only (one (b0 + 1 + 1)) w7 (w7.setRow (b0 + 1 + 1) (drow s1))) := (Only.refl (one (b0 + 1 + 1)) w7).setRow (.inl (show one (b0 + 1 + 1) (b0 + 1 + 1) from rfl)) _
        have FB : Hid (Blk (w7.setRow (b0 + 1 + 1) (drow s1)) (b0 + 1 + 1) 31 (drow s1)) := D7.out.z.setRow _
        have FV : Hid (Vl W d s1 vA7 vP7 dd vd7 z1 (w7.setRow (b0 + 1 + 1) (drow s1))) := ⟨V7.out.vs.only OF.out (fun y hy e => by have e' : y = b0 + 1 + 1 := e; subst e'; exact V7.out.vs.far D7.out.z (by decide) (by decide) (by decide) hy), V7.out.ho.trans' OF.out (fun y hy e => by have e' : y = b0 + 1 + 1 := e; have := HBW.out; omega)⟩
        have FM : Hid (Nm (w7.setRow (b0 + 1 + 1) (drow s1)) (fun b => b < W.heap.size) (.slice A4 n4 c4) z1) := nm_far M7.out HBW.out OF.out (fun y e => by have e' : y = b0 + 1 + 1 := e; omega)
        have FO : Hid (Only (vsb d vA vP dd vd) w (w7.setRow (b0 + 1 + 1) (drow s1))) := (O5.out.of_none.trans o7).trans' OF.out (fun y hy e => by have e' : y = b0 + 1 + 1 := e; have h3 := HB0.out; omega)
        clear r7 v7 o7
        refine hK _ _ ?_
        clear hK K
        try simp only [Act.put, List.setIfInBounds_toArray, List.set_cons_zero, List.set_cons_succ]
        refine wpAny_comes2 (v := .bool true) 8 76 rfl rfl rfl (by kernel_rfl) (by kernel_rfl) (by kernel_rfl) (fun w => by go_simp) (fun _ _ _ _ h => h) ?_
        try simp only [Act.put, List.setIfInBounds_toArray, List.set_cons_zero, List.set_cons_succ]
        refine wpAny_ready (rs := [9]) (by decide +kernel) (by simp) ?_
        refine AllReady.cons rfl (fun K hK => ?_) AllReady.nil
        refine step_store_all (by simp [Region.wanted]) 31 _ _ rfl (b0 + 1 + 1) (drow s1) rfl rfl 31 _ D7.out.z (by kernel_rfl) (by kernel_rfl) (drow_one s1) ?_
        refine hK _ _ ?_
        clear hK K
        try simp only [Act.put, List.setIfInBounds_toArray, List.set_cons_zero, List.set_cons_succ]
        refine wpAny_ready (rs := [10]) (by decide +kernel) (by simp) ?_
        refine AllReady.cons rfl (fun K hK => ?_) AllReady.nil
        go_simp
        refine hK _ _ ?_
        clear hK K
        try simp only [Act.put, List.setIfInBounds_toArray, List.set_cons_zero, List.set_cons_succ]
        refine wpAny_ready (rs := [11]) (by decide +kernel) (by simp) ?_
        refine AllReady.cons rfl (fun K hK => ?_) AllReady.nil
        go_simp
        refine hK _ _ ?_
        clear hK K
        try simp only [Act.put, List.setIfInBounds_toArray, List.set_cons_zero, List.set_cons_succ]
        refine wpAny_done (by kernel_rfl) ?_ _
        go_wp2_with fail
        refine bodyPost_ret (results_cell_tmp2 rfl _ _ (b0 + 1 + 1) 31 (drow s1) _ rfl FB.out Try.underlying31 rfl (by kernel_rfl) _ rfl _ rfl) rfl ?_
        exact ⟨_, _, _, _, _, _, rfl, FV.out, FM.out, FO.out⟩
      refine AllReady.cons rfl (fun K hK => ?_) AllReady.nil
      have t1 := (D5.out.y.drew).cell_ (i := 1) rfl
      go_simp
      refine hK _ _ ?_
      clear hK K
      try simp only [Act.put, List.setIfInBounds_toArray, List.set_cons_zero, List.set_cons_succ]
      refine wpAny_ready (rs := [0, 6]) (by decide +kernel) (by simp) ?_
      refine AllReady.cons rfl (fun K hK => ?_) ?_
      · refine step_load_row (by simp [Region.wanted]) 31 _ rfl w4.heap.size rfl 31 (drow s1) _ B5.out.drew Try.underlying31 rfl (by kernel_rfl) ?_
        refine hK _ _ ?_
        clear hK K
        try simp only [Act.put, List.setIfInBounds_toArray, List.set_cons_zero, List.set_cons_succ]
        refine wpAny_ready (rs := [6]) (by decide +kernel) (by simp) ?_
        refine AllReady.cons rfl (fun K hK => ?_) AllReady.nil
        refine step_callv (by simp [Region.wanted]) 17 #[.pointer (some ⟨d, 0, none⟩), .int .i64 p, .pointer (some ⟨dd, 0, none⟩)] (by go_simp; try (with_reducible rfl)) ?_
        refine (vs_lower W.heap.size d s vA vP dd vd zs p _ V5.out.drew.vs HW5.out).mono ?_
        rintro E w7 ⟨rfl, r7⟩
        obtain ⟨vA7, vP7, vd7, v7, o7⟩ := V5.out.drew.step r7
        have o7 := o7.undrew
        refine ⟨_, rfl, ?_⟩
        rw [HM.out]
        rw [HV1.out, HS.out.2] at v7
        have V7 := Lib.hid v7
        have D7 := Lib.hid (vs_db V5.out D5.out o7)
        have B7 := Lib.hid (B5.out.only o7 (V5.out.vs.far B5.out (by decide) (by decide) (by decide)))
        have M7 := Lib.hid (nm_vsb V5.out M5.out o7)
        have OF : Hid (Only (one (b0 + 1 + 1)) w7 (w7.setRow (b0 + 1 + 1) (drow s1))) := (Only.refl (one (b0 + 1 + 1)) w7).setRow (.inl (show one (b0 + 1 + 1) (b0 + 1 + 1) from rfl)) _
        have FB : Hid (Blk (w7.setRow (b0 + 1 + 1) (drow s1)) (b0 + 1 + 1) 31 (drow s1)) := D7.out.z.setRow _
        have FV : Hid (Vl W d s1 vA7 vP7 dd vd7 z1 (w7.setRow (b0 + 1 + 1) (drow s1))) := ⟨V7.out.vs.only OF.out (fun y hy e => by have e' : y = b0 + 1 + 1 := e; subst e'; exact V7.out.vs.far D7.out.z (by decide) (by decide) (by decide) hy), V7.out.ho.trans' OF.out (fun y hy e => by have e' : y = b0 + 1 + 1 := e; have := HBW.out; omega)⟩
        have FM : Hid (Nm (w7.setRow (b0 + 1 + 1) (drow s1)) (fun b => b < W.heap.size) (.slice A4 n4 c4) z1) := nm_far M7.out HBW.out OF.out (fun y e => by have e' : y = b0 + 1 + 1 := e; omega)
        have FO : Hid (Only (vsb d vA vP dd vd) w (w7.setRow (b0 + 1 + 1) (drow s1))) := (O5.out.of_none.trans o7).trans' OF.out (fun y hy e => by have e' : y = b0 + 1 + 1 := e; have h3 := HB0.out; omega)
        clear r7 v7 o7
        refine hK _ _ ?_
        clear hK K
        try simp only [Act.put, List.setIfInBounds_toArray, List.set_cons_zero, List.set_cons_succ]
        refine wpAny_comes2 (v := .bool true) 8 76 rfl rfl rfl (by kernel_rfl) (by kernel_rfl) (by kernel_rfl) (fun w => by go_simp) (fun _ _ _ _ h => h) ?_
        try simp only [Act.put, List.setIfInBounds_toArray, List.set_cons_zero, List.set_cons_succ]
        refine wpAny_ready (rs := [9]) (by decide +kernel) (by simp) ?_
        refine AllReady.cons rfl (fun K hK => ?_) AllReady.nil
        refine step_store_all (by simp [Region.wanted]) 31 _ _ rfl (b0 + 1 + 1) (drow s1) rfl rfl 31 _ D7.out.z (by kernel_rfl) (by kernel_rfl) (drow_one s1) ?_
        refine hK _ _ ?_
        clear hK K
        try simp only [Act.put, List.setIfInBounds_toArray, List.set_cons_zero, List.set_cons_succ]
        refine wpAny_ready (rs := [10]) (by decide +kernel) (by simp) ?_
        refine AllReady.cons rfl (fun K hK => ?_) AllReady.nil
        go_simp
        refine hK _ _ ?_
        clear hK K
        try simp only [Act.put, List.setIfInBounds_toArray, List.set_cons_zero, List.set_cons_succ]
        refine wpAny_ready (rs := [11]) (by decide +kernel) (by simp) ?_
        refine AllReady.cons rfl (fun K hK => ?_) AllReady.nil
        go_simp
        refine hK _ _ ?_
        clear hK K
        try simp only [Act.put, List.setIfInBounds_toArray, List.set_cons_zero, List.set_cons_succ]
        refine wpAny_done (by kernel_rfl) ?_ _
        go_wp2_with fail
        refine bodyPost_ret (results_cell_tmp2 rfl _ _ (b0 + 1 + 1) 31 (drow s1) _ rfl FB.out Try.underlying31 rfl (by kernel_rfl) _ rfl _ rfl) rfl ?_
        exact ⟨_, _, _, _, _, _, rfl, FV.out, FM.out, FO.out⟩
      refine AllReady.cons rfl (fun K hK => ?_) AllReady.nil
      refine step_callv (by simp [Region.wanted]) 17 #[.pointer (some ⟨d, 0, none⟩), .int .i64 p, .pointer (some ⟨dd, 0, none⟩)] (by go_simp; try (with_reducible rfl)) ?_
      refine (vs_lower W.heap.size d s vA vP dd vd zs p _ V5.out.drew.vs HW5.out).mono ?_
      rintro E w7 ⟨rfl, r7⟩
      obtain ⟨vA7, vP7, vd7, v7, o7⟩ := V5.out.drew.step r7
      have o7 := o7.undrew
      refine ⟨_, rfl, ?_⟩
      rw [HM.out]
      rw [HV1.out, HS.out.2] at v7
      have V7 := Lib.hid v7
      have D7 := Lib.hid (vs_db V5.out D5.out o7)
      have B7 := Lib.hid (B5.out.only o7 (V5.out.vs.far B5.out (by decide) (by decide) (by decide)))
      have M7 := Lib.hid (nm_vsb V5.out M5.out o7)
      have OF : Hid (Only (one (b0 + 1 + 1)) w7 (w7.setRow (b0 + 1 + 1) (drow s1))) := (Only.refl (one (b0 + 1 + 1)) w7).setRow (.inl (show one (b0 + 1 + 1) (b0 + 1 + 1) from rfl)) _
      have FB : Hid (Blk (w7.setRow (b0 + 1 + 1) (drow s1)) (b0 + 1 + 1) 31 (drow s1)) := D7.out.z.setRow _
      have FV : Hid (Vl W d s1 vA7 vP7 dd vd7 z1 (w7.setRow (b0 + 1 + 1) (drow s1))) := ⟨V7.out.vs.only OF.out (fun y hy e => by have e' : y = b0 + 1 + 1 := e; subst e'; exact V7.out.vs.far D7.out.z (by decide) (by decide) (by decide) hy), V7.out.ho.trans' OF.out (fun y hy e => by have e' : y = b0 + 1 + 1 := e; have := HBW.out; omega)⟩
      have FM : Hid (Nm (w7.setRow (b0 + 1 + 1) (drow s1)) (fun b => b < W.heap.size) (.slice A4 n4 c4) z1) := nm_far M7.out HBW.out OF.out (fun y e => by have e' : y = b0 + 1 + 1 := e; omega)
      have FO : Hid (Only (vsb d vA vP dd vd) w (w7.setRow (b0 + 1 + 1) (drow s1))) := (O5.out.of_none.trans o7).trans' OF.out (fun y hy e => by have e' : y = b0 + 1 + 1 := e; have h3 := HB0.out; omega)
      clear r7 v7 o7
      refine hK _ _ ?_
      clear hK K
      try simp only [Act.put, List.setIfInBounds_toArray, List.set_cons_zero, List.set_cons_succ]
      refine wpAny_comes2 (v := .bool true) 8 76 rfl rfl rfl (by kernel_rfl) (by kernel_rfl) (by kernel_rfl) (fun w => by go_simp) (fun _ _ _ _ h => h) ?_
      try simp only [Act.put, List.setIfInBounds_toArray, List.set_cons_zero, List.set_cons_succ]
      refine wpAny_ready (rs := [0]) (by decide +kernel) (by simp) ?_
      refine AllReady.cons rfl (fun K hK => ?_) AllReady.nil
      refine step_load_row (by simp [Region.wanted]) 31 _ rfl w4.heap.size rfl 31 (drow s1) _ B7.out Try.underlying31 rfl (by kernel_rfl) ?_
      refine hK _ _ ?_
      clear hK K
      try simp only [Act.put, List.setIfInBounds_toArray, List.set_cons_zero, List.set_cons_succ]
      refine wpAny_ready (rs := [9]) (by decide +kernel) (by simp) ?_
      refine AllReady.cons rfl (fun K hK => ?_) AllReady.nil
      refine step_store_all (by simp [Region.wanted]) 31 _ _ rfl (b0 + 1 + 1) (drow s1) rfl rfl 31 _ D7.out.z (by kernel_rfl) (by kernel_rfl) (drow_one s1) ?_
      refine hK _ _ ?_
      clear hK K
      try simp only [Act.put, List.setIfInBounds_toArray, List.set_cons_zero, List.set_cons_succ]
      refine wpAny_ready (rs := [10]) (by decide +kernel) (by simp) ?_
      refine AllReady.cons rfl (fun K hK => ?_) AllReady.nil
      go_simp
      refine hK _ _ ?_
      clear hK K
      try simp only [Act.put, List.setIfInBounds_toArray, List.set_cons_zero, List.set_cons_succ]
      refine wpAny_ready (rs := [11]) (by decide +kernel) (by simp) ?_
      refine AllReady.cons rfl (fun K hK => ?_) AllReady.nil
      go_simp
      refine hK _ _ ?_
      clear hK K
      try simp only [Act.put, List.setIfInBounds_toArray, List.set_cons_zero, List.set_cons_succ]
      refine wpAny_done (by kernel_rfl) ?_ _
      go_wp2_with fail
      refine bodyPost_ret (results_cell_tmp2 rfl _ _ (b0 + 1 + 1) 31 (drow s1) _ rfl FB.out Try.underlying31 rfl (by kernel_rfl) _ rfl _ rfl) rfl ?_
      exact ⟨_, _, _, _, _, _, rfl, FV.out, FM.out, FO.out⟩
    · skip
      have hv1 : leV s p zs = s1 := by rw [← hs1, actV, if_neg k0, if_neg k1]
      have hz2 : leZ s p zs = z1 := by rw [← hz1, actZ, if_neg k0, if_neg k1]
      have HS : Hid (leV s p zs = s1 ∧ leZ s p zs = z1) := ⟨hv1, hz2⟩
      have HV1 := Lib.hid hv1
      obtain ⟨m, hm⟩ : ∃ y, leOk s p = y := ⟨_, rfl⟩
      have HM := Lib.hid hm
      clear hs1 hz1 hv1 hz2 hm
      go_enter Try.func10, Try.ntmps10
      go_upto_region 1 with fail
      rw [HW3.out, HB0.out]
      go_wp2_with (first
        | (with_reducible refine vq_load rfl 31 _ rfl b0 rfl _ (drow s) _ D3.out.x Try.underlying31 rfl (by kernel_rfl) ?_)
        | (go_at_call 28; refine (rv_learn s p _ zs W.heap.size w3 HW0.out V3.out.vs.ok X3.out).mono ?_; rintro E w4 ⟨A4, n4, c4, rfl, m4, o4⟩
           dsimp only
           rw [HS.out.1, HM.out]
           have o5 : Only none_ w3 (w4.alloc (.cells (drow s1) 31)) := o4.alloc _
           have V5 := Lib.hid (V3.out.keep o5)
           have D5 := Lib.hid (D3.out.keep o5)
           have B5 : Hid (Blk (w4.alloc (.cells (drow s1) 31)) w4.heap.size 31 (drow s1)) := Blk.new _ _ _
           have M5 : Hid (Nm (w4.alloc (.cells (drow s1) 31)) (fun b => b < W.heap.size) (.slice A4 n4 c4) z1) := by rw [Hid, ← HS.out.2]; exact m4.keep ((Only.refl none_ w4).alloc _)
           have O5 := Lib.hid (O3.out.trans o5)
           have HG5 : Hid (b0 + 1 + 1 < w4.heap.size) := (D3.out.keep o4).z.lt
           have HW5 : Hid (W.heap.size ≤ (w4.alloc (.cells (drow s1) 31)).heap.size) := V5.out.ho.size
           have u1 := D5.out.y.cell_ (i := 1) rfl
           clear m4 o4 o5)
        | (with_reducible refine wpl_new rfl rfl 31 rfl _ _ rfl (drow s1) rfl rfl (by kernel_rfl) (drow_one s1) ?_))
      refine wp_region_any (by kernel_rfl) ?_
      try (change wpAny _ _ _ _ _ _ _ (World.drew _))
      refine wpAny_comes2 (v := .slice A4 n4 c4) 1 87 rfl rfl rfl (by kernel_rfl) (by kernel_rfl) (by kernel_rfl) (fun w => by go_simp) (fun _ _ _ _ h => h) ?_
      try simp only [Act.put, List.setIfInBounds_toArray, List.set_cons_zero, List.set_cons_succ]
      refine wpAny_comes2 (v := .pointer (some ⟨d, 0, none⟩)) 2 88 rfl rfl rfl (by kernel_rfl) (by kernel_rfl) (by kernel_rfl) (fun w => by go_simp) (fun _ _ _ _ h => h) ?_
      try simp only [Act.put, List.setIfInBounds_toArray, List.set_cons_zero, List.set_cons_succ]
      refine wpAny_comes2 (v := .pointer (some ⟨b0 + 1, 1, none⟩)) 3 89 rfl rfl rfl (by kernel_rfl) (by kernel_rfl) (by kernel_rfl) (fun w => by go_simp) (fun _ _ _ _ h => h) ?_
      try simp only [Act.put, List.setIfInBounds_toArray, List.set_cons_zero, List.set_cons_succ]
      refine wpAny_comes2 (v := .pointer (some ⟨dd, 0, none⟩)) 5 91 rfl rfl rfl (by kernel_rfl) (by kernel_rfl) (by kernel_rfl) (fun w => by go_simp) (fun _ _ _ _ h => h) ?_
      try simp only [Act.put, List.setIfInBounds_toArray, List.set_cons_zero, List.set_cons_succ]
      refine wpAny_comes2 (v := .bool m) 7 93 rfl rfl rfl (by kernel_rfl) (by kernel_rfl) (by kernel_rfl) (fun w => by go_simp) (fun _ _ _ _ h => h) ?_
      try simp only [Act.put, List.setIfInBounds_toArray, List.set_cons_zero, List.set_cons_succ]
      refine wpAny_ready (rs := [0, 4]) (by decide +kernel) (by simp) ?_
      refine AllReady.cons rfl (fun K hK => ?_) ?_
      · refine step_load_row (by simp [Region.wanted]) 31 _ rfl w4.heap.size rfl 31 (drow s1) _ B5.out.drew Try.underlying31 rfl (by kernel_rfl) ?_
        refine hK _ _ ?_
        clear hK K
        try simp only [Act.put, List.setIfInBounds_toArray, List.set_cons_zero, List.set_cons_succ]
        refine wpAny_ready (rs := [4]) (by decide +kernel) (by simp) ?_
        refine AllReady.cons rfl (fun K hK => ?_) AllReady.nil
        have t1 := (D5.out.y.drew).cell_ (i := 1) rfl
        go_simp
        refine hK _ _ ?_
        clear hK K
        try simp only [Act.put, List.setIfInBounds_toArray, List.set_cons_zero, List.set_cons_succ]
        refine wpAny_ready (rs := [6]) (by decide +kernel) (by simp) ?_
        refine AllReady.cons rfl (fun K hK => ?_) AllReady.nil
        refine step_callv (by simp [Region.wanted]) 18 #[.pointer (some ⟨d, 0, none⟩), .int .i64 p, .pointer (some ⟨dd, 0, none⟩)] (by go_simp; try (with_reducible rfl)) ?_
        refine (vs_learn W.heap.size d s vA vP dd vd zs p _ V5.out.drew.vs HW5.out).mono ?_
        rintro E w7 ⟨rfl, r7⟩
        obtain ⟨vA7, vP7, vd7, v7, o7⟩ := V5.out.drew.step r7
        have o7 := o7.undrew
        refine ⟨_, rfl, ?_⟩
        rw [HM.out]
        rw [HV1.out, HS.out.2] at v7
        have V7 := Lib.hid v7
        have D7 := Lib.hid (vs_db V5.out D5.out o7)
        have B7 := Lib.hid (B5.out.only o7 (V5.out.vs.far B5.out (by decide) (by decide) (by decide)))
        have M7 := Lib.hid (nm_vsb V5.out M5.out o7)
        have OF : Hid (Only (one (b0 + 1 + 1)) w7 (w7.setRow (b0 + 1 + 1) (drow s1))) := (Only.refl (one (b0 + 1 + 1)) w7).setRow (.inl (show one (b0 + 1 + 1) (b0 + 1 + 1) from rfl)) _
        have FB : Hid (Blk (w7.setRow (b0 + 1 + 1) (drow s1)) (b0 + 1 + 1) 31 (drow s1)) := D7.out.z.setRow _
        have FV : Hid (Vl W d s1 vA7 vP7 dd vd7 z1 (w7.setRow (b0 + 1 + 1) (drow s1))) := ⟨V7.out.vs.only OF.out (fun y hy e => by have e' : y = b0 + 1 + 1 := e; subst e'; exact V7.out.vs.far D7.out.z (by decide) (by decide) (by decide) hy), V7.out.ho.trans' OF.out (fun y hy e => by have e' : y = b0 + 1 + 1 := e; have := HBW.out; omega)⟩
        have FM : Hid (Nm (w7.setRow (b0 + 1 + 1) (drow s1)) (fun b => b < W.heap.size) (.slice A4 n4 c4) z1) := nm_far M7.out HBW.out OF.out (fun y e => by have e' : y = b0 + 1 + 1 := e; omega)
        have FO : Hid (Only (vsb d vA vP dd vd) w (w7.setRow (b0 + 1 + 1) (drow s1))) := (O5.out.of_none.trans o7).trans' OF.out (fun y hy e => by have e' : y = b0 + 1 + 1 := e; have h3 := HB0.out; omega)
        clear r7 v7 o7
        refine hK _ _ ?_
        clear hK K
        try simp only [Act.put, List.setIfInBounds_toArray, List.set_cons_zero, List.set_cons_succ]
        refine wpAny_comes2 (v := .bool true) 8 94 rfl rfl rfl (by kernel_rfl) (by kernel_rfl) (by kernel_rfl) (fun w => by go_simp) (fun _ _ _ _ h => h) ?_
        try simp only [Act.put, List.setIfInBounds_toArray, List.set_cons_zero, List.set_cons_succ]
        refine wpAny_ready (rs := [9]) (by decide +kernel) (by simp) ?_
        refine AllReady.cons rfl (fun K hK => ?_) AllReady.nil
        refine step_store_all (by simp [Region.wanted]) 31 _ _ rfl (b0 + 1 + 1) (drow s1) rfl rfl 31 _ D7.out.z (by kernel_rfl) (by kernel_rfl) (drow_one s1) ?_
        refine hK _ _ ?_
        clear hK K
        try simp only [Act.put, List.setIfInBounds_toArray, List.set_cons_zero, List.set_cons_succ]
        refine wpAny_ready (rs := [10]) (by decide +kernel) (by simp) ?_
        refine AllReady.cons rfl (fun K hK => ?_) AllReady.nil
        go_simp
        refine hK _ _ ?_
        clear hK K
        try simp only [Act.put, List.setIfInBounds_toArray, List.set_cons_zero, List.set_cons_succ]
        refine wpAny_ready (rs := [11]) (by decide +kernel) (by simp) ?_
        refine AllReady.cons rfl (fun K hK => ?_) AllReady.nil
        go_simp
        refine hK _ _ ?_
        clear hK K
        try simp only [Act.put, List.setIfInBounds_toArray, List.set_cons_zero, List.set_cons_succ]
        refine wpAny_done (by kernel_rfl) ?_ _
        go_wp2_with fail
        refine bodyPost_ret (results_cell_tmp2 rfl _ _ (b0 + 1 + 1) 31 (drow s1) _ rfl FB.out Try.underlying31 rfl (by kernel_rfl) _ rfl _ rfl) rfl ?_
        exact ⟨_, _, _, _, _, _, rfl, FV.out, FM.out, FO.out⟩
      refine AllReady.cons rfl (fun K hK => ?_) AllReady.nil
      have t1 := (D5.out.y.drew).cell_ (i := 1) rfl
      go_simp
      refine hK _ _ ?_
      clear hK K
      try simp only [Act.put, List.setIfInBounds_toArray, List.set_cons_zero, List.set_cons_succ]
      refine wpAny_ready (rs := [0, 6]) (by decide +kernel) (by simp) ?_
      refine AllReady.cons rfl (fun K hK => ?_) ?_
      · refine step_load_row (by simp [Region.wanted]) 31 _ rfl w4.heap.size rfl 31 (drow s1) _ B5.out.drew Try.underlying31 rfl (by kernel_rfl) ?_
        refine hK _ _ ?_
        clear hK K
        try simp only [Act.put, List.setIfInBounds_toArray, List.set_cons_zero, List.set_cons_succ]
        refine wpAny_ready (rs := [6]) (by decide +kernel) (by simp) ?_
        refine AllReady.cons rfl (fun K hK => ?_) AllReady.nil
        refine step_callv (by simp [Region.wanted]) 18 #[.pointer (some ⟨d, 0, none⟩), .int .i64 p, .pointer (some ⟨dd, 0, none⟩)] (by go_simp; try (with_reducible rfl)) ?_
        refine (vs_learn W.heap.size d s vA vP dd vd zs p _ V5.out.drew.vs HW5.out).mono ?_
        rintro E w7 ⟨rfl, r7⟩
        obtain ⟨vA7, vP7, vd7, v7, o7⟩ := V5.out.drew.step r7
        have o7 := o7.undrew
        refine ⟨_, rfl, ?_⟩
        rw [HM.out]
        rw [HV1.out, HS.out.2] at v7
        have V7 := Lib.hid v7
        have D7 := Lib.hid (vs_db V5.out D5.out o7)
        have B7 := Lib.hid (B5.out.only o7 (V5.out.vs.far B5.out (by decide) (by decide) (by decide)))
        have M7 := Lib.hid (nm_vsb V5.out M5.out o7)
        have OF : Hid (Only (one (b0 + 1 + 1)) w7 (w7.setRow (b0 + 1 + 1) (drow s1))) := (Only.refl (one (b0 + 1 + 1)) w7).setRow (.inl (show one (b0 + 1 + 1) (b0 + 1 + 1) from rfl)) _
        have FB : Hid (Blk (w7.setRow (b0 + 1 + 1) (drow s1)) (b0 + 1 + 1) 31 (drow s1)) := D7.out.z.setRow _
        have FV : Hid (Vl W d s1 vA7 vP7 dd vd7 z1 (w7.setRow (b0 + 1 + 1) (drow s1))) := ⟨V7.out.vs.only OF.out (fun y hy e => by have e' : y = b0 + 1 + 1 := e; subst e'; exact V7.out.vs.far D7.out.z (by decide) (by decide) (by decide) hy), V7.out.ho.trans' OF.out (fun y hy e => by have e' : y = b0 + 1 + 1 := e; have := HBW.out; omega)⟩
        have FM : Hid (Nm (w7.setRow (b0 + 1 + 1) (drow s1)) (fun b => b < W.heap.size) (.slice A4 n4 c4) z1) := nm_far M7.out HBW.out OF.out (fun y e => by have e' : y = b0 + 1 + 1 := e; omega)
        have FO : Hid (Only (vsb d vA vP dd vd) w (w7.setRow (b0 + 1 + 1) (drow s1))) := (O5.out.of_none.trans o7).trans' OF.out (fun y hy e => by have e' : y = b0 + 1 + 1 := e; have h3 := HB0.out; omega)
        clear r7 v7 o7
        refine hK _ _ ?_
        clear hK K
        try simp only [Act.put, List.setIfInBounds_toArray, List.set_cons_zero, List.set_cons_succ]
        refine wpAny_comes2 (v := .bool true) 8 94 rfl rfl rfl (by kernel_rfl) (by kernel_rfl) (by kernel_rfl) (fun w => by go_simp) (fun _ _ _ _ h => h) ?_
        try simp only [Act.put, List.setIfInBounds_toArray, List.set_cons_zero, List.set_cons_succ]
        refine wpAny_ready (rs := [9]) (by decide +kernel) (by simp) ?_
        refine AllReady.cons rfl (fun K hK => ?_) AllReady.nil
        refine step_store_all (by simp [Region.wanted]) 31 _ _ rfl (b0 + 1 + 1) (drow s1) rfl rfl 31 _ D7.out.z (by kernel_rfl) (by kernel_rfl) (drow_one s1) ?_
        refine hK _ _ ?_
        clear hK K
        try simp only [Act.put, List.setIfInBounds_toArray, List.set_cons_zero, List.set_cons_succ]
        refine wpAny_ready (rs := [10]) (by decide +kernel) (by simp) ?_
        refine AllReady.cons rfl (fun K hK => ?_) AllReady.nil
        go_simp
        refine hK _ _ ?_
        clear hK K
        try simp only [Act.put, List.setIfInBounds_toArray, List.set_cons_zero, List.set_cons_succ]
        refine wpAny_ready (rs := [11]) (by decide +kernel) (by simp) ?_
        refine AllReady.cons rfl (fun K hK => ?_) AllReady.nil
        go_simp
        refine hK _ _ ?_
        clear hK K
        try simp only [Act.put, List.setIfInBounds_toArray, List.set_cons_zero, List.set_cons_succ]
        refine wpAny_done (by kernel_rfl) ?_ _
        go_wp2_with fail
        refine bodyPost_ret (results_cell_tmp2 rfl _ _ (b0 + 1 + 1) 31 (drow s1) _ rfl FB.out Try.underlying31 rfl (by kernel_rfl) _ rfl _ rfl) rfl ?_
        exact ⟨_, _, _, _, _, _, rfl, FV.out, FM.out, FO.out⟩
      refine AllReady.cons rfl (fun K hK => ?_) AllReady.nil
      refine step_callv (by simp [Region.wanted]) 18 #[.pointer (some ⟨d, 0, none⟩), .int .i64 p, .pointer (some ⟨dd, 0, none⟩)] (by go_simp; try (with_reducible rfl)) ?_
      refine (vs_learn W.heap.size d s vA vP dd vd zs p _ V5.out.drew.vs HW5.out).mono ?_
      rintro E w7 ⟨rfl, r7⟩
      obtain ⟨vA7, vP7, vd7, v7, o7⟩ := V5.out.drew.step r7
      have o7 := o7.undrew
      refine ⟨_, rfl, ?_⟩
      rw [HM.out]
      rw [HV1.out, HS.out.2] at v7
      have V7 := Lib.hid v7
      have D7 := Lib.hid (vs_db V5.out D5.out o7)
      have B7 := Lib.hid (B5.out.only o7 (V5.out.vs.far B5.out (by decide) (by decide) (by decide)))
      have M7 := Lib.hid (nm_vsb V5.out M5.out o7)
      have OF : Hid (Only (one (b0 + 1 + 1)) w7 (w7.setRow (b0 + 1 + 1) (drow s1))) := (Only.refl (one (b0 + 1 + 1)) w7).setRow (.inl (show one (b0 + 1 + 1) (b0 + 1 + 1) from rfl)) _
      have FB : Hid (Blk (w7.setRow (b0 + 1 + 1) (drow s1)) (b0 + 1 + 1) 31 (drow s1)) := D7.out.z.setRow _
      have FV : Hid (Vl W d s1 vA7 vP7 dd vd7 z1 (w7.setRow (b0 + 1 + 1) (drow s1))) := ⟨V7.out.vs.only OF.out (fun y hy e => by have e' : y = b0 + 1 + 1 := e; subst e'; exact V7.out.vs.far D7.out.z (by decide) (by decide) (by decide) hy), V7.out.ho.trans' OF.out (fun y hy e => by have e' : y = b0 + 1 + 1 := e; have := HBW.out; omega)⟩
      have FM : Hid (Nm (w7.setRow (b0 + 1 + 1) (drow s1)) (fun b => b < W.heap.size) (.slice A4 n4 c4) z1) := nm_far M7.out HBW.out OF.out (fun y e => by have e' : y = b0 + 1 + 1 := e; omega)
      have FO : Hid (Only (vsb d vA vP dd vd) w (w7.setRow (b0 + 1 + 1) (drow s1))) := (O5.out.of_none.trans o7).trans' OF.out (fun y hy e => by have e' : y = b0 + 1 + 1 := e; have h3 := HB0.out; omega)
      clear r7 v7 o7
      refine hK _ _ ?_
      clear hK K
      try simp only [Act.put, List.setIfInBounds_toArray, List.set_cons_zero, List.set_cons_succ]
      refine wpAny_comes2 (v := .bool true) 8 94 rfl rfl rfl (by kernel_rfl) (by kernel_rfl) (by kernel_rfl) (fun w => by go_simp) (fun _ _ _ _ h => h) ?_
      try simp only [Act.put, List.setIfInBounds_toArray, List.set_cons_zero, List.set_cons_succ]
      refine wpAny_ready (rs := [0]) (by decide +kernel) (by simp) ?_
      refine AllReady.cons rfl (fun K hK => ?_) AllReady.nil
      refine step_load_row (by simp [Region.wanted]) 31 _ rfl w4.heap.size rfl 31 (drow s1) _ B7.out Try.underlying31 rfl (by kernel_rfl) ?_
      refine hK _ _ ?_
      clear hK K
      try simp only [Act.put, List.setIfInBounds_toArray, List.set_cons_zero, List.set_cons_succ]
      refine wpAny_ready (rs := [9]) (by decide +kernel) (by simp) ?_
      refine AllReady.cons rfl (fun K hK => ?_) AllReady.nil
      refine step_store_all (by simp [Region.wanted]) 31 _ _ rfl (b0 + 1 + 1) (drow s1) rfl rfl 31 _ D7.out.z (by kernel_rfl) (by kernel_rfl) (drow_one s1) ?_
      refine hK _ _ ?_
      clear hK K
      try simp only [Act.put, List.setIfInBounds_toArray, List.set_cons_zero, List.set_cons_succ]
      refine wpAny_ready (rs := [10]) (by decide +kernel) (by simp) ?_
      refine AllReady.cons rfl (fun K hK => ?_) AllReady.nil
      go_simp
      refine hK _ _ ?_
      clear hK K
      try simp only [Act.put, List.setIfInBounds_toArray, List.set_cons_zero, List.set_cons_succ]
      refine wpAny_ready (rs := [11]) (by decide +kernel) (by simp) ?_
      refine AllReady.cons rfl (fun K hK => ?_) AllReady.nil
      go_simp
      refine hK _ _ ?_
      clear hK K
      try simp only [Act.put, List.setIfInBounds_toArray, List.set_cons_zero, List.set_cons_succ]
      refine wpAny_done (by kernel_rfl) ?_ _
      go_wp2_with fail
      refine bodyPost_ret (results_cell_tmp2 rfl _ _ (b0 + 1 + 1) 31 (drow s1) _ rfl FB.out Try.underlying31 rfl (by kernel_rfl) _ rfl _ rfl) rfl ?_
      exact ⟨_, _, _, _, _, _, rfl, FV.out, FM.out, FO.out⟩
end Go.Proofs.Ytiigebdmkibnbaa
