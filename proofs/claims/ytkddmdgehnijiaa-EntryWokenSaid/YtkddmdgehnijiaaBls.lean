/- Several blocks known whole, as one list; all else as in a world ahead. No statement of the seat is proved here. -/
import Derived.Test.YtkddmdgehnijiaaFlp
namespace Go.Proofs.Ytkddmdgehnijiaa
open Go.RowKit
set_option maxRecDepth 100000
set_option linter.all false

/-- Each block of the list is just its cells; all that was there in B is as it was. -/
structure Bl (B : World) (l : List (Nat × TypeId × Array Value)) (w : World) : Prop where
  all : ∀ x ∈ l, Blk w x.1 x.2.1 x.2.2
  ho : Only none_ B w
section
variable {B w w' : World} {l : List (Nat × TypeId × Array Value)} {g : Nat} {t : TypeId} {cs : Array Value}
theorem Bl.keep (s : Bl B l w) (o : Only none_ w w') : Bl B l w' := ⟨fun x hx => (s.all x hx).only o (fun h => h), s.ho.trans o⟩
theorem Bl.drew (s : Bl B l w) : Bl B l w.drew := s.keep (Only.refl none_ w).drew
theorem Bl.alloc (s : Bl B l w) (o : Obj) : Bl B l (w.alloc o) := s.keep ((Only.refl none_ w).alloc o)
theorem Bl.get (s : Bl B l w) (i : Nat) (h : l[i]? = some (g, t, cs)) : Blk w g t cs := s.all _ (List.mem_of_getElem? h)
theorem Bl.nil (w : World) : Bl w [] w := ⟨fun _ h => (by cases h), Only.refl _ _⟩
theorem Bl.add (s : Bl B l w) (b : Blk w g t cs) : Bl B (l ++ [(g, t, cs)]) w :=
  ⟨fun x hx => by
    rcases List.mem_append.1 hx with h | h
    · exact s.all x h
    · have : x = (g, t, cs) := by simpa using h
      subst this
      exact b, s.ho⟩
theorem Bl.new (s : Bl B l w) (t : TypeId) (cs : Array Value) : Bl B (l ++ [(w.heap.size, t, cs)]) (w.alloc (.cells cs t)) := (s.alloc _).add (Blk.new w t cs)
theorem Bl.ge (s : Bl B l w) : B.heap.size ≤ w.heap.size := s.ho.size
theorem Bl.fresh (s : Bl B l w) (hg : w.heap.size ≤ g) : ∀ x ∈ l, x.1 ≠ g := fun x hx e => by have := (s.all x hx).lt; omega
theorem Bl.rowS {w0 : World} (s0 : Bl B l w0) (s : Bl w0 l w) (hg : w0.heap.size ≤ g) (cs : Array Value) : Bl w0 l (w.setRow g cs) := ⟨fun x hx => (s.all x hx).setRow_far (s0.fresh hg x hx) cs, s.ho.setRow (.inr hg) cs⟩
theorem Bl.self (s : Bl B l w) : Bl w l w := ⟨s.all, Only.refl _ _⟩
/-- A block that is not in the list is written whole: then it is in it. -/
theorem Bl.row {zs : Array Value} (s : Bl B l w) (b : Blk w g t zs) (hg : B.heap.size ≤ g) (hn : ∀ x ∈ l, x.1 ≠ g) (cs : Array Value) : Bl B (l ++ [(g, t, cs)]) (w.setRow g cs) :=
  Bl.add ⟨fun x hx => (s.all x hx).setRow_far (hn x hx) cs, s.ho.setRow (.inr hg) cs⟩ (b.setRow cs)
/-- A block of the list is written whole. -/
theorem Bl.over (s : Bl B l w) (i : Nat) (h : l[i]? = some (g, t, cs)) (hg : B.heap.size ≤ g) (hn : ∀ x ∈ l.take i ++ l.drop (i + 1), x.1 ≠ g) (ds : Array Value) : Bl B (l.set i (g, t, ds)) (w.setRow g ds) := by
  refine ⟨fun x hx => ?_, s.ho.setRow (.inr hg) ds⟩
  obtain ⟨j, hj⟩ := List.mem_iff_getElem?.1 hx
  rw [List.getElem?_set] at hj
  split at hj
  · next e =>
    split at hj
    · injection hj with hj
      subst hj
      exact (s.get i h).setRow ds
    · cases hj
  · next e =>
    refine (s.all x (List.mem_of_getElem? hj)).setRow_far (hn x ?_) ds
    rcases Nat.lt_or_gt_of_ne e with h1 | h1
    · refine List.mem_append_right _ (List.mem_iff_getElem?.2 ⟨j - (i + 1), ?_⟩)
      rw [List.getElem?_drop, show i + 1 + (j - (i + 1)) = j by omega]
      exact hj
    · refine List.mem_append_left _ (List.mem_iff_getElem?.2 ⟨j, ?_⟩)
      rw [List.getElem?_take_of_lt h1]
      exact hj
end
end Go.Proofs.Ytkddmdgehnijiaa
