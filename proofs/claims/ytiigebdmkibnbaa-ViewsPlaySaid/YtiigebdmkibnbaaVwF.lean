/- What Raise, Lower and Learn do. No statement of the seat is proved here. -/
import Derived.Test.YtiigebdmkibnbaaVwE
namespace Go.Proofs.Ytiigebdmkibnbaa
open Go.RowKit
set_option maxRecDepth 100000
set_option linter.all false

section
variable {w w1 w2 : World} {B d : Nat} {s : Vm} {vA vP : Value} {dd : Nat} {vd : Value} {zs : List Int}
theorem Vs.hjA (h : Vs w B d s vA vP dd vd zs) : ∀ k, vA.ownBlock = some k → ¬ dcb dd vd k := fun k hk e => by
  rcases e with e | e
  · exact own_blk_ne h.oa h.dc.bk (by decide) (by rw [hk, e])
  · exact h.da k hk e
theorem Vs.hjP (h : Vs w B d s vA vP dd vd zs) : ∀ k, vP.ownBlock = some k → ¬ dcb dd vd k := fun k hk e => by
  rcases e with e | e
  · exact own_blk_ne h.op h.dc.bk (by decide) (by rw [hk, e])
  · exact h.dp k hk e
/-- The active view was changed. -/
theorem Vs.setA (h : Vs w B d s vA vP dd vd zs) {vA' vd' : Value} {l : List Int} {zs' : List Int} {n : Nat} (hn : Nw w1 B d 1 ((vcs s vA vP).setIfInBounds 1 vA') vA' l n) (hd : Dc w1 B dd vd' zs')
    (o : Only (fun k => vwb d vA k ∨ k = dd) w w1) (m : Moved w vA vA') (md : ∀ k, vd'.ownBlock = some k → vd.ownBlock = some k) (ok : Vok { s with act := l }) :
    Vs w1 B d { s with act := l } vA' vP dd vd' zs' ∧ Only (vsb d vA vP dd vd) w w1 ∧ ∀ k, vsb d vA' vP dd vd' k → vsb d vA vP dd vd k ∨ w.heap.size ≤ k := by
  refine ⟨⟨hn.bk, hn.ow, owns_only h.op o (fun g hg e => ?_), hd, ok, fun k hk e => ?_, fun k hk e => ?_, fun k hk e => h.dp k hk (md k e), h.ge⟩, o.mono (fun k _ hk => ?_), fun k hk => ?_⟩
  · rcases e with (e | e) | e
    · exact own_blk_ne h.op h.bk (by decide) (by rw [hg, e])
    · exact h.dj g e hg
    · exact own_blk_ne h.op h.dc.bk (by decide) (by rw [hg, e])
  · rcases m k hk with h1 | h1
    · exact h.dj k h1 e
    · have := (h.op.lt k e).2; omega
  · rcases m k hk with h1 | h1
    · exact h.da k h1 (md k e)
    · have := (h.dc.nn.ge (md k e)).2; omega
  · rcases hk with (hk | hk) | hk
    · exact .inl hk
    · exact .inr (.inl hk)
    · exact .inr (.inr (.inr (.inl hk)))
  · rcases hk with hk | hk | hk | hk
    · exact .inl (.inl hk)
    · rcases m k hk with h1 | h1
      · exact .inl (.inr (.inl h1))
      · exact .inr h1
    · exact .inl (.inr (.inr (.inl hk)))
    · rcases hk with hk | hk
      · exact .inl (.inr (.inr (.inr (.inl hk))))
      · exact .inl (.inr (.inr (.inr (.inr (md k hk)))))
/-- The passive view was changed. -/
theorem Vs.setP (h : Vs w B d s vA vP dd vd zs) {vP' vd' : Value} {l : List Int} {zs' : List Int} {n : Nat} (hn : Nw w1 B d 3 ((vcs s vA vP).setIfInBounds 3 vP') vP' l n) (hd : Dc w1 B dd vd' zs')
    (o : Only (fun k => vwb d vP k ∨ k = dd) w w1) (m : Moved w vP vP') (md : ∀ k, vd'.ownBlock = some k → vd.ownBlock = some k) (ok : Vok { s with pas := l }) :
    Vs w1 B d { s with pas := l } vA vP' dd vd' zs' ∧ Only (vsb d vA vP dd vd) w w1 ∧ ∀ k, vsb d vA vP' dd vd' k → vsb d vA vP dd vd k ∨ w.heap.size ≤ k := by
  refine ⟨⟨hn.bk, owns_only h.oa o (fun g hg e => ?_), hn.ow, hd, ok, fun k hk e => ?_, fun k hk e => h.da k hk (md k e), fun k hk e => ?_, h.ge⟩, o.mono (fun k _ hk => ?_), fun k hk => ?_⟩
  · rcases e with (e | e) | e
    · exact own_blk_ne h.oa h.bk (by decide) (by rw [hg, e])
    · exact h.dj g hg e
    · exact own_blk_ne h.oa h.dc.bk (by decide) (by rw [hg, e])
  · rcases m k e with h1 | h1
    · exact h.dj k hk h1
    · have := (h.oa.lt k hk).2; omega
  · rcases m k hk with h1 | h1
    · exact h.dp k h1 (md k e)
    · have := (h.dc.nn.ge (md k e)).2; omega
  · rcases hk with (hk | hk) | hk
    · exact .inl hk
    · exact .inr (.inr (.inl hk))
    · exact .inr (.inr (.inr (.inl hk)))
  · rcases hk with hk | hk | hk | hk
    · exact .inl (.inl hk)
    · exact .inl (.inr (.inl hk))
    · rcases m k hk with h1 | h1
      · exact .inl (.inr (.inr (.inl h1)))
      · exact .inr h1
    · rcases hk with hk | hk
      · exact .inl (.inr (.inr (.inr (.inl hk))))
      · exact .inl (.inr (.inr (.inr (.inr (md k hk)))))
/-- One act behind another. -/
theorem vs_two {vA1 vP1 vd1 vA2 vP2 vd2 : Value} (o1 : Only (vsb d vA vP dd vd) w w1) (m1 : ∀ k, vsb d vA1 vP1 dd vd1 k → vsb d vA vP dd vd k ∨ w.heap.size ≤ k)
    (o2 : Only (vsb d vA1 vP1 dd vd1) w1 w2) (m2 : ∀ k, vsb d vA2 vP2 dd vd2 k → vsb d vA1 vP1 dd vd1 k ∨ w1.heap.size ≤ k) :
    Only (vsb d vA vP dd vd) w w2 ∧ ∀ k, vsb d vA2 vP2 dd vd2 k → vsb d vA vP dd vd k ∨ w.heap.size ≤ k :=
  ⟨o1.trans' o2 (fun k hk e => by
    rcases m1 k e with h | h
    · exact h
    · omega), fun k hk => by
    rcases m2 k hk with h | h
    · exact m1 k h
    · exact .inr (Nat.le_trans o1.size h)⟩
end
/-- A view without one: what holds of all views. -/
theorem vok_rmP {s : Vm} (h : Vok s) (p : Int) : Vok { s with pas := vrm s.pas p } :=
  ⟨h.me, h.ua, vrm_rl h.up p, h.na, fun e => h.np ((vrm_mem h.up.1 p _).1 e).1, fun z hz e => h.ds z hz ((vrm_mem h.up.1 p _).1 e).1, h.la, by have := vrm_len h.up.1 p; have := h.lp; show (vrm s.pas p).length ≤ s.p; omega, h.ra, h.rp⟩
theorem vok_rmA {s : Vm} (h : Vok s) (p : Int) : Vok { s with act := vrm s.act p } :=
  ⟨h.me, vrm_rl h.ua p, h.up, fun e => h.na ((vrm_mem h.ua.1 p _).1 e).1, h.np, fun z hz e => h.ds z ((vrm_mem h.ua.1 p _).1 hz).1 e, by have := vrm_len h.ua.1 p; have := h.la; show (vrm s.act p).length ≤ s.a; omega, h.lp, h.ra, h.rp⟩
theorem vok_putP {s : Vm} (h : Vok s) {p : Int} {zs : List Int} (hp : nodeB p = true) (h1 : p ∉ s.pas) (h2 : p ∉ s.act) (h3 : p ≠ s.self) : Vok { s with pas := vputL s.pas s.p p zs } := by
  obtain ⟨f1, f2, f3, _, _⟩ := vput_facts (zs := zs) h.up hp h1 h.lp h.rp.1
  refine ⟨h.me, h.ua, f1, h.na, fun e => ?_, fun z hz e => ?_, h.la, f2, h.ra, h.rp⟩
  · rcases (f3 _).1 e with h4 | h4
    · exact h.np h4.1
    · exact h3 (Eq.symm h4)
  · rcases (f3 _).1 e with h4 | h4
    · exact h.ds z hz h4.1
    · exact h2 (h4 ▸ hz)
theorem vok_putA {s : Vm} (h : Vok s) {p : Int} {zs : List Int} (hp : nodeB p = true) (h1 : p ∉ s.pas) (h2 : p ∉ s.act) (h3 : p ≠ s.self) : Vok { s with act := vputL s.act s.a p zs } := by
  obtain ⟨f1, f2, f3, _, _⟩ := vput_facts (zs := zs) h.ua hp h2 h.la h.ra.1
  refine ⟨h.me, f1, h.up, fun e => ?_, h.np, fun z hz e => ?_, f2, h.lp, h.ra, h.rp⟩
  · rcases (f3 _).1 e with h4 | h4
    · exact h.na h4.1
    · exact h3 (Eq.symm h4)
  · rcases (f3 _).1 hz with h4 | h4
    · exact h.ds z h4.1 e
    · exact h1 (h4 ▸ e)

/-- Contracts of the calls at one view, told of views. -/
theorem vs_dropP (B d : Nat) (s : Vm) (vA vP : Value) (dd : Nat) (vd : Value) (zs : List Int) (p : Int) (w : World) (h : Vs w B d s vA vP dd vd zs) :
    Calls Try.prog 36 #[.pointer (some ⟨d, 3, none⟩), .int .i64 p] w fun e w' => e = .returned (.bool (decide (p ∈ s.pas))) ∧ VsR B d vA vP dd vd { s with pas := vrm s.pas p } zs w w' := by
  refine (vw_drop B d 3 _ vP s.pas s.p p w h.nwP).mono ?_
  rintro e w' ⟨rfl, v', n1, o1, m1⟩
  have hdc : Dc w' B dd vd zs := h.dc.only o1 (fun k hk e => by
    rcases e with e | e
    · rcases hk with hk | hk
      · exact absurd (e.symm.trans hk) (Blk.ne_ h.bk h.dc.bk (by decide))
      · exact h.dc.nn.blk_ne h.bk (by decide) (by rw [hk, e])
    · exact h.hjP k e hk)
  obtain ⟨r1, r2, r3⟩ := h.setP n1 hdc (o1.mono (fun k _ hk => .inl hk)) (fun k hk => .inl (m1 k hk)) (fun k hk => hk) (vok_rmP h.ok p)
  exact ⟨rfl, vA, v', vd, r1, r2, r3⟩
theorem vs_dropA (B d : Nat) (s : Vm) (vA vP : Value) (dd : Nat) (vd : Value) (zs : List Int) (p : Int) (w : World) (h : Vs w B d s vA vP dd vd zs) :
    Calls Try.prog 36 #[.pointer (some ⟨d, 1, none⟩), .int .i64 p] w fun e w' => e = .returned (.bool (decide (p ∈ s.act))) ∧ VsR B d vA vP dd vd { s with act := vrm s.act p } zs w w' := by
  refine (vw_drop B d 1 _ vA s.act s.a p w h.nwA).mono ?_
  rintro e w' ⟨rfl, v', n1, o1, m1⟩
  have hdc : Dc w' B dd vd zs := h.dc.only o1 (fun k hk e => by
    rcases e with e | e
    · rcases hk with hk | hk
      · exact absurd (e.symm.trans hk) (Blk.ne_ h.bk h.dc.bk (by decide))
      · exact h.dc.nn.blk_ne h.bk (by decide) (by rw [hk, e])
    · exact h.hjA k e hk)
  obtain ⟨r1, r2, r3⟩ := h.setA n1 hdc (o1.mono (fun k _ hk => .inl hk)) (fun k hk => .inl (m1 k hk)) (fun k hk => hk) (vok_rmA h.ok p)
  exact ⟨rfl, v', vP, vd, r1, r2, r3⟩
theorem vs_putP (B d : Nat) (s : Vm) (vA vP : Value) (dd : Nat) (vd : Value) (zs : List Int) (p : Int) (w : World) (h : Vs w B d s vA vP dd vd zs) (hB : B ≤ w.heap.size) (hp : nodeB p = true) (h1 : p ∉ s.pas) (h2 : p ∉ s.act) (h3 : p ≠ s.self) :
    Calls Try.prog 37 #[.pointer (some ⟨d, 3, none⟩), .int .i64 p, .pointer (some ⟨dd, 0, none⟩)] w fun e w' => e = .returned (.int .i64 (vputG s.pas s.p zs)) ∧ VsR B d vA vP dd vd { s with pas := vputL s.pas s.p p zs } (vputZ s.pas s.p zs) w w' := by
  refine (vw_put B d 3 _ vP s.pas s.p dd vd zs p w h.nwP hB h.dc h.hjP hp h1 h.ok.rp.1).mono ?_
  rintro e w' ⟨rfl, v', vd', n1, d1, o1, m1, md⟩
  obtain ⟨r1, r2, r3⟩ := h.setP n1 d1 o1 m1 md (vok_putP h.ok hp h1 h2 h3)
  exact ⟨rfl, vA, v', vd', r1, r2, r3⟩
theorem vs_putA (B d : Nat) (s : Vm) (vA vP : Value) (dd : Nat) (vd : Value) (zs : List Int) (p : Int) (w : World) (h : Vs w B d s vA vP dd vd zs) (hB : B ≤ w.heap.size) (hp : nodeB p = true) (h1 : p ∉ s.pas) (h2 : p ∉ s.act) (h3 : p ≠ s.self) :
    Calls Try.prog 37 #[.pointer (some ⟨d, 1, none⟩), .int .i64 p, .pointer (some ⟨dd, 0, none⟩)] w fun e w' => e = .returned (.int .i64 (vputG s.act s.a zs)) ∧ VsR B d vA vP dd vd { s with act := vputL s.act s.a p zs } (vputZ s.act s.a zs) w w' := by
  refine (vw_put B d 1 _ vA s.act s.a dd vd zs p w h.nwA hB h.dc h.hjA hp h2 h.ok.ra.1).mono ?_
  rintro e w' ⟨rfl, v', vd', n1, d1, o1, m1, md⟩
  obtain ⟨r1, r2, r3⟩ := h.setA n1 d1 o1 m1 md (vok_putA h.ok hp h1 h2 h3)
  exact ⟨rfl, v', vP, vd', r1, r2, r3⟩
end Go.Proofs.Ytiigebdmkibnbaa
