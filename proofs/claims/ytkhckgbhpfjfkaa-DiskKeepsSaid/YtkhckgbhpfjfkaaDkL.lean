/- An act done with a disk and with the document's one: what lies where, and that both go on alike. No statement of the seat is proved here. -/
import Derived.Test.YtkhckgbhpfjfkaaDkK
namespace Go.Proofs.Ytkhckgbhpfjfkaa
open Go.RowKit
set_option maxRecDepth 100000

/-- A disk as the document has it: no fuse is -1. -/
def nf (d : Dv) : Dv := { d with fuse := max d.fuse (-1) }
theorem nf_zero (d : Dv) : ((nf d).fuse = 0) = (d.fuse = 0) := by simp only [nf, eq_iff_iff]; omega
theorem nf_burnt (d : Dv) : burnt (nf d) = nf (burnt d) := by
  obtain ⟨on, f, bs, s⟩ := d
  unfold burnt nf
  dsimp only
  by_cases h0 : f = 0
  · subst h0; rfl
  · rw [if_neg (by omega), if_neg h0]
    by_cases h1 : 0 < f
    · rw [if_pos (by omega), if_pos h1]
      dsimp only
      congr 1
      omega
    · rw [if_neg (by omega), if_neg h1]
theorem nf_code (d : Dv) (f : Int) : chCode (nf d) f = chCode d f := by
  unfold chCode
  simp only [nf_zero]
  rfl
theorem nf_d (d d' : Dv) (f : Int) : chD (nf d) f (nf d') = nf (chD d f d') := by
  unfold chD
  simp only [nf_zero]
  show (if d.on = false then nf d else if f ≠ 0 then nf d else if d.fuse = 0 then { nf d with on := false } else nf d') = _
  by_cases h1 : d.on = false
  · rw [if_pos h1, if_pos h1]
  · rw [if_neg h1, if_neg h1]
    by_cases h2 : f ≠ 0
    · rw [if_pos h2, if_pos h2]
    · rw [if_neg h2, if_neg h2]
      by_cases h3 : d.fuse = 0
      · rw [if_pos h3, if_pos h3]; rfl
      · rw [if_neg h3, if_neg h3]

/-- What lies where while an act is done: the disk, the boxes of the document's disk, of the act, of the result, the bytes of the document's disk and of the act. -/
structure Dq (B W : World) (g : Nat) (v0 : Value) (d : Dv) (v : Value) (x a y : Array Value) (mb : Value) (mbs : List UInt8) (X : Value) (ys : List UInt8) (w : World) : Prop where
  ds : Dsk B g d v w
  b1 : Blk w W.heap.size 74 x
  b2 : Blk w (W.heap.size + 1) 77 a
  b3 : Blk w (W.heap.size + 1 + 1) 74 y
  bm : Byt w (fun b => ¬ foot g v b ∧ (b < W.heap.size ∨ W.heap.size + 1 + 1 + 1 ≤ b)) mb mbs
  bx : Byt w (fun b => b < B.heap.size) X ys
  sz : W.heap.size + 1 + 1 + 1 ≤ w.heap.size
  bw : B.heap.size ≤ W.heap.size
  ho : Only (foot g v0) W w
  mv : Moved W v0 v
section
variable {B W w w' : World} {g : Nat} {v0 v : Value} {d d' : Dv} {x a y : Array Value} {mb X : Value} {mbs ys : List UInt8}
theorem Dq.new (h : Dsk B g d v W) (hm : Byt W (fun b => ¬ foot g v b) mb mbs) (hx : Byt W (fun b => b < B.heap.size) X ys) (x a y : Array Value) :
    Dq B W g v d v x a y mb mbs X ys (((W.alloc (.cells x 74)).alloc (.cells a 77)).alloc (.cells y 74)) := by
  have o : Only none_ W (((W.alloc (.cells x 74)).alloc (.cells a 77)).alloc (.cells y 74)) := (((Only.refl none_ W).alloc _).alloc _).alloc _
  refine ⟨h.keep o, ((Blk.new W _ x).alloc _).alloc _, ?_, ?_, (hm.mono (T := fun b => ¬ foot g v b ∧ (b < W.heap.size ∨ W.heap.size + 1 + 1 + 1 ≤ b)) (fun b hb hn => ⟨hn, .inl hb⟩)).only o (fun _ _ h => h), hx.only o (fun _ _ h => h), by simp, h.ho.size, o.of_none, Moved.refl _ _⟩
  · have := (Blk.new (W.alloc (.cells x 74)) 77 a).alloc (.cells y 74)
    rwa [World.size_alloc] at this
  · have := Blk.new ((W.alloc (.cells x 74)).alloc (.cells a 77)) 74 y
    rwa [World.size_alloc, World.size_alloc] at this
theorem Dq.keep (q : Dq B W g v0 d v x a y mb mbs X ys w) (o : Only none_ w w') : Dq B W g v0 d v x a y mb mbs X ys w' :=
  ⟨q.ds.keep o, q.b1.only o (fun h => h), q.b2.only o (fun h => h), q.b3.only o (fun h => h), q.bm.only o (fun _ _ h => h), q.bx.only o (fun _ _ h => h), Nat.le_trans q.sz o.size, q.bw, q.ho.trans o.of_none, q.mv⟩
theorem Dq.drewN (q : Dq B W g v0 d v x a y mb mbs X ys w) (n : Nat) : Dq B W g v0 d v x a y mb mbs X ys (w.drewN n) := q.keep ((Only.refl none_ w).drewN n)
theorem Dq.drew (q : Dq B W g v0 d v x a y mb mbs X ys w) : Dq B W g v0 d v x a y mb mbs X ys w.drew := q.keep (Only.refl none_ w).drew
theorem Dq.low (q : Dq B W g v0 d v x a y mb mbs X ys w) : ∀ k, foot g v k → foot g v0 k ∨ W.heap.size ≤ k := by
  rintro k (h | h)
  · exact .inl (.inl h)
  · rcases q.mv k h with h | h
    · exact .inl (.inr h)
    · exact .inr h
/-- The disk was worked on. -/
theorem Dq.disk (q : Dq B W g v0 d v x a y mb mbs X ys w) (l : Left_ B g v w d' w') : ∃ v', Dq B W g v0 d' v' x a y mb mbs X ys w' := by
  obtain ⟨v', s, o, m⟩ := l
  refine ⟨v', s, q.ds.box q.b1 o (by decide) (by decide), q.ds.box q.b2 o (by decide) (by decide), q.ds.box q.b3 o (by decide) (by decide), ?_, q.bx.only o (fun b hb hf => by have := (q.ds.foot_ge hf).1; omega), Nat.le_trans q.sz o.size, q.bw, q.ho.trans' o (fun k hk hf => (q.low k hf).elim id (fun h => by omega)), q.mv.trans m q.ho.size⟩
  have h1 : Byt w (fun b => b < w.heap.size ∧ ¬ foot g v b ∧ (b < W.heap.size ∨ W.heap.size + 1 + 1 + 1 ≤ b)) mb mbs := q.bm.mono (fun b hb h => ⟨hb, h⟩)
  refine (h1.only o (fun b hb hf => hb.2.1 hf)).mono (fun b _ hb => ⟨?_, hb.2.2⟩)
  rintro (h | h)
  · exact hb.2.1 (.inl h)
  · rcases m b h with h | h
    · exact hb.2.1 (.inr h)
    · omega
/-- The document's disk was worked on. -/
theorem Dq.ref {mb' : Value} {mbs' : List UInt8} (q : Dq B W g v0 d v x a y mb mbs X ys w) (o : Only none_ w w') (r : Byt w' (fun b => (¬ foot g v b ∧ (b < W.heap.size ∨ W.heap.size + 1 + 1 + 1 ≤ b)) ∨ w.heap.size ≤ b) mb' mbs') : Dq B W g v0 d v x a y mb' mbs' X ys w' := by
  have k := q.keep o
  refine ⟨k.ds, k.b1, k.b2, k.b3, r.mono (fun b _ hb => ?_), k.bx, k.sz, k.bw, k.ho, k.mv⟩
  rcases hb with h | h
  · exact h
  · exact ⟨fun hf => by have := (q.ds.foot_ge hf).2; omega, .inr (Nat.le_trans q.sz h)⟩
theorem Dq.away (q : Dq B W g v0 d v x a y mb mbs X ys w) (t : TypeId) {h : Nat} {cs : Array Value} (b : Blk w h t cs) (h1 : 5 ≠ t) (h2 : t ≠ 83) : ∀ k, foot g v k → ¬ one h k := by
  rintro k (rfl | hk) e
  · exact Blk.ne_ b q.ds.bk h2 (Eq.symm e)
  · have e' : k = h := e
    subst e'
    exact own_blk_ne q.ds.ow b h1 hk
theorem Dq.row1 (q : Dq B W g v0 d v x a y mb mbs X ys w) (z : Array Value) : Dq B W g v0 d v z a y mb mbs X ys (w.setRow W.heap.size z) := by
  have o : Only (one W.heap.size) w (w.setRow W.heap.size z) := (Only.refl (one W.heap.size) w).setRow (.inl (show one _ _ from rfl)) z
  refine ⟨q.ds.apart o (q.away _ q.b1 (by decide) (by decide)) (fun k e => by have e' : k = W.heap.size := e; have := q.bw; omega), q.b1.setRow z, q.b2.setRow_far (by omega) z, q.b3.setRow_far (by omega) z, q.bm.only o (fun b hb e => by have e' : b = W.heap.size := e; omega), q.bx.only o (fun b hb e => by have e' : b = W.heap.size := e; have := q.bw; omega), by have := q.sz; have := o.size; omega, q.bw, q.ho.trans' o (fun k hk e => by have e' : k = W.heap.size := e; omega), q.mv⟩
theorem Dq.set1 (q : Dq B W g v0 d v x a y mb mbs X ys w) (i : Nat) (u : Value) : Dq B W g v0 d v (x.setIfInBounds i u) a y mb mbs X ys (w.setCell ⟨W.heap.size, i, none⟩ u) := by
  have o : Only (one W.heap.size) w (w.setCell ⟨W.heap.size, i, none⟩ u) := only_put _ _ _ _
  refine ⟨q.ds.apart o (q.away _ q.b1 (by decide) (by decide)) (fun k e => by have e' : k = W.heap.size := e; have := q.bw; omega), q.b1.set_ i u, q.b2.far (p := ⟨W.heap.size, i, none⟩) (by show W.heap.size + 1 ≠ W.heap.size; omega) u, q.b3.far (p := ⟨W.heap.size, i, none⟩) (by show W.heap.size + 1 + 1 ≠ W.heap.size; omega) u, q.bm.only o (fun b hb e => by have e' : b = W.heap.size := e; omega), q.bx.only o (fun b hb e => by have e' : b = W.heap.size := e; have := q.bw; omega), by have := q.sz; have := o.size; omega, q.bw, q.ho.trans' o (fun k hk e => by have e' : k = W.heap.size := e; omega), q.mv⟩
theorem Dq.row3 (q : Dq B W g v0 d v x a y mb mbs X ys w) (z : Array Value) : Dq B W g v0 d v x a z mb mbs X ys (w.setRow (W.heap.size + 1 + 1) z) := by
  have o : Only (one (W.heap.size + 1 + 1)) w (w.setRow (W.heap.size + 1 + 1) z) := (Only.refl (one (W.heap.size + 1 + 1)) w).setRow (.inl (show one _ _ from rfl)) z
  refine ⟨q.ds.apart o (q.away _ q.b3 (by decide) (by decide)) (fun k e => by have e' : k = W.heap.size + 1 + 1 := e; have := q.bw; omega), q.b1.setRow_far (by omega) z, q.b2.setRow_far (by omega) z, q.b3.setRow z, q.bm.only o (fun b hb e => by have e' : b = W.heap.size + 1 + 1 := e; omega), q.bx.only o (fun b hb e => by have e' : b = W.heap.size + 1 + 1 := e; have := q.bw; omega), by have := q.sz; have := o.size; omega, q.bw, q.ho.trans' o (fun k hk e => by have e' : k = W.heap.size + 1 + 1 := e; omega), q.mv⟩
end
/-- What an act, done with both, answers: both are alike behind it. -/
def DoR (B W : World) (g : Nat) (v : Value) (d dn : Dv) (e : Ending) (w : World) : Prop :=
  ∃ A n c v', e = .returned (.tuple #[.agg #[.slice A n c, .int .i64 dn.safe, .bool (!dn.on), .int .i64 dn.fuse], .bool true]) ∧ Dsk B g d v' w ∧ Only (foot g v) W w ∧ Moved W v v' ∧ Byt w (fun b => ¬ foot g v' b) (.slice A n c) dn.bs
theorem Dq.done {B W w : World} {g n c : Nat} {v0 v : Value} {d dn : Dv} {x a y : Array Value} {A : Option Addr} {X : Value} {ys : List UInt8} (q : Dq B W g v0 d v x a y (.slice A n c) dn.bs X ys w) :
    DoR B W g v0 d dn (.returned (.tuple #[.agg #[.slice A n c, .int .i64 dn.safe, .bool (!dn.on), .int .i64 dn.fuse], .bool true])) w :=
  ⟨A, n, c, v, rfl, q.ds, q.ho, q.mv, q.bm.mono (fun _ _ h => h.1)⟩
theorem three_of {w : World} {g : Nat} {a b c : Value} {t : TypeId} (h : Blk w g t #[a, b, c]) : w.cell? ⟨g, 0, none⟩ = some a ∧ w.cell? ⟨g, 1, none⟩ = some b ∧ w.cell? ⟨g, 2, none⟩ = some c :=
  ⟨h.cell_ rfl, h.cell_ rfl, h.cell_ rfl⟩
end Go.Proofs.Ytkhckgbhpfjfkaa
