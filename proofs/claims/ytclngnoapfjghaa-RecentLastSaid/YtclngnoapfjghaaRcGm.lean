/- Going down an index: plain facts, and what lies where. No statement of the seat is proved here. -/
import Derived.Test.YtclngnoapfjghaaRcA
namespace Go.Proofs.Ytclngnoapfjghaa
open Go.RowKit
set_option maxRecDepth 100000
set_option linter.all false

/-- The mark that one has come to. -/
def goAt (q : List Mk) (t : Nat) : Mk := if t = 0 then mkTop else q.getD (t - 1) mkTop
theorem goAt_succ (q : List Mk) (t : Nat) (h : t < q.length) : goAt q (t + 1) = q[t] := by
  unfold goAt
  rw [if_neg (by omega), Nat.add_sub_cancel, List.getD_eq_getElem?_getD, List.getElem?_eq_getElem h]
  rfl
theorem top_isTop : isTop mkTop = true := by rw [isTop_same]; exact (mkSame_iff _ _).2 rfl
theorem not_top {m : Mk} (h : 1 ≤ m.a.c) : isTop m = false := by
  cases e : isTop m with
  | false => rfl
  | true =>
    rw [isTop_same] at e
    have := (mkSame_iff _ _).1 e
    rw [this] at h
    exact absurd h (by decide)
theorem go_part {q : List Mk} (hix : Ixl q) (hpos : ∀ x ∈ q, 1 ≤ x.a.c) (t : Nat) (ht : t ≤ q.length) (k : Nat) : belM q (goAt q t) (k : Int) = (q.drop t).take k := by
  cases t with
  | zero =>
    have e : goAt q 0 = mkTop := rfl
    rw [e, bel_top top_isTop]; simp
  | succ t =>
    have hlt : t < q.length := by omega
    rw [goAt_succ q t hlt, bel_not hix.ds (not_top (hpos _ (List.getElem_mem hlt))), bh_mem hix.ds t hlt]
    simp
theorem put_pos {q : List Mk} {m : Mk} (h : ∀ x ∈ q, 1 ≤ x.a.c) (hm : 1 ≤ m.a.c) : ∀ x ∈ putM q m, 1 ≤ x.a.c := by
  intro x hx
  rcases (ins_mem m _ x).1 hx with rfl | hx
  · exact hm
  · exact h x ((drop_sub q m.k).subset hx)

structure Gs (W : World) (g mb g9 : Nat) (v : Value) (q : List Mk) (t : Nat) (av : Value) (w : World) : Prop where
  rc : Rc W.heap.size g mb q q v w
  rf : w.ownsRow W.heap.size 31 3 av t ((q.take t).flatMap mkI)
  x : Blk w g9 39 #[.int .i64 (goAt q t).a.c, .int .i64 (goAt q t).a.s, .string (goAt q t).k]
  nf : ¬ Ft g mb v g9
  gl : W.heap.size ≤ g9
  ho : Only none_ W w
section
variable {W w w' : World} {g mb g9 : Nat} {v av av' : Value} {q : List Mk} {t t' : Nat}
theorem Gs.keep (h : Gs W g mb g9 v q t av w) (o : Only none_ w w') : Gs W g mb g9 v q t av w' :=
  ⟨h.rc.keep o, owns_only h.rf o (fun _ _ h => h), h.x.only o (fun h => h), h.nf, h.gl, h.ho.trans o⟩
theorem Gs.shape (h : Gs W g mb g9 v q t av w) : ∃ A c, av = .slice A t c := by
  rcases h.rf.2 with ⟨rfl, h0⟩ | ⟨_, _, _, rfl, _⟩
  · exact ⟨none, 0, by rw [h0]⟩
  · exact ⟨_, _, rfl⟩
/-- Marks are appended; the box is not yet set. -/
structure Gt (W : World) (g mb g9 : Nat) (v : Value) (q : List Mk) (t t' : Nat) (av : Value) (w : World) : Prop where
  rc : Rc W.heap.size g mb q q v w
  rf : w.ownsRow W.heap.size 31 3 av t' ((q.take t').flatMap mkI)
  x : Blk w g9 39 #[.int .i64 (goAt q t).a.c, .int .i64 (goAt q t).a.s, .string (goAt q t).k]
  nf : ¬ Ft g mb v g9
  gl : W.heap.size ≤ g9
  ho : Only none_ W w
theorem Gs.app (h : Gs W g mb g9 v q t av w) (own : w'.ownsRow W.heap.size 31 3 av' t' ((q.take t').flatMap mkI)) (hg : w.grownBy w' av.ownBlock) : Gt W g mb g9 v q t t' av' w' := by
  have o : Only (ownb av) w w' := (Only.refl _ w).grown hg (fun k hk => .inl hk)
  have hne := h.rc.ne_row h.rf (by decide) (by decide)
  exact ⟨h.rc.far o (fun k hk e => hne k e hk), own, h.x.only o (fun e => own_blk_ne h.rf h.x (by decide) e), h.nf, h.gl, h.ho.trans' o (fun k hk e => by have := (h.rf.lt k e).1; omega)⟩
theorem Gt.set (h : Gt W g mb g9 v q t t' av w) {cs : Array Value} (hc : cs = #[.int .i64 (goAt q t').a.c, .int .i64 (goAt q t').a.s, .string (goAt q t').k]) : Gs W g mb g9 v q t' av (w.setRow g9 cs) := by
  subst hc
  have o : Only (one g9) w (w.setRow g9 #[.int .i64 (goAt q t').a.c, .int .i64 (goAt q t').a.s, .string (goAt q t').k]) := Only.setRow (S := one g9) (Only.refl _ w) (.inl rfl) _
  exact ⟨h.rc.far o (fun k hk e => h.nf ((show k = g9 from e) ▸ hk)), owns_only h.rf o (fun k hk e => own_blk_ne h.rf h.x (by decide) ((show k = g9 from e) ▸ hk)), h.x.setRow _, h.nf, h.gl, h.ho.trans' o (fun k hk e => by have := h.gl; have e : k = g9 := e; omega)⟩
theorem Gs.app_row (h : Gs W g mb g9 v q t av w) {M n : Nat} {A : Option Addr} {c : Nat} {xs : List Value} (own : w.ownsRow M 39 3 (.slice A n c) n xs) (hg : w.grownBy w' av.ownBlock) : w'.ownsRow M 39 3 (.slice A n c) n xs :=
  owns_only own ((Only.refl (ownb av) w).grown hg (fun k hk => .inl hk)) (fun k hk e => owns_apart own h.rf (by decide) k hk e)
end
theorem own_cell {w : World} {M n c : Nat} {e : TypeId} {A : Option Addr} {l : List Mk} (h : w.ownsRow M e 3 (.slice A n c) n (l.flatMap mkI)) (hn : l.length = n) {i : Nat} {m : Mk} (hm : l[i]? = some m) :
    ∃ b, A = some ⟨b, 0, none⟩ ∧ w.cell? ⟨b, i * 3, none⟩ = some (.int .i64 m.a.c) ∧ w.cell? ⟨b, i * 3 + 1, none⟩ = some (.int .i64 m.a.s) ∧ w.cell? ⟨b, i * 3 + 2, none⟩ = some (.string m.k) := by
  obtain ⟨hi, he⟩ := List.getElem?_eq_some_iff.1 hm
  rcases id h.2 with ⟨h1, h2⟩ | ⟨b, cap, cur, h1, hb, hh, hnc, hcm, hcs, htk⟩
  · omega
  · injection h1 with h1 h2 h3
    subst h1
    have f := fun j (hj : j < 3) => flat_at mkI mkI_len l i m hm j hj
    have c := fun j u (hu : (l.flatMap mkI)[j]? = some u) => h.cells (g := b) rfl j u hu
    have e1 : ∀ j : Nat, (⟨b, 0, none⟩ : Addr).add j = ⟨b, j, none⟩ := fun j => by unfold Addr.add; split <;> simp_all
    refine ⟨b, rfl, ?_, ?_, ?_⟩
    · have := c (i * 3) (.int .i64 m.a.c) (by have := f 0 (by decide); rw [Nat.add_zero] at this; rw [this]; rfl)
      rwa [e1] at this
    · have := c (i * 3 + 1) (.int .i64 m.a.s) (by rw [f 1 (by decide)]; rfl)
      rwa [e1] at this
    · have := c (i * 3 + 2) (.string m.k) (by rw [f 2 (by decide)]; rfl)
      rwa [e1] at this
end Go.Proofs.Ytclngnoapfjghaa
