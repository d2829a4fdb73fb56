/- Words for StampAny: three slices of stamps of the call's own; the latest of lists turned and joined. No statement of the seat is proved here. -/
import Derived.Test.YtolgjjjclihmkaaStI
import Derived.Test.YtolgjjjclihmkaaStE
import Derived.Test.YtolgjjjclihmkaaStL
import Derived.Test.YtolgjjjclihmkaaApp
import Derived.Test.YtolgjjjclihmkaaStV
namespace Go.Proofs.Ytolgjjjclihmkaa
open Go.RowKit
set_option maxRecDepth 100000

theorem latest_rev {l : List St} (h : l ≠ []) : stLatest l.reverse = stLatest l := by
  obtain ⟨h1, h2⟩ := latest_top h
  exact latest_is (List.mem_reverse.2 h1) (fun x hx => h2 x (List.mem_reverse.1 hx))
theorem latest_two {l m : List St} (hl : l ≠ []) (hm : m ≠ []) : stLatest [stLatest l, stLatest m] = stLatest (m ++ l) := by
  obtain ⟨h1, h2⟩ := latest_top hl
  obtain ⟨g1, g2⟩ := latest_top hm
  obtain ⟨k1, k2⟩ := latest_top (l := m ++ l) (by simp [hm])
  have e1 := k2 _ (List.mem_append_right m h1)
  have e2 := k2 _ (List.mem_append_left l g1)
  have e3 : stLatest (m ++ l) = stLatest l ∨ stLatest (m ++ l) = stLatest m := by
    rcases List.mem_append.1 k1 with h | h
    · exact .inr (later_anti (g2 _ h) e2)
    · exact .inl (later_anti (h2 _ h) e1)
  refine latest_is ?_ ?_
  · rcases e3 with e | e <;> rw [e] <;> simp
  · intro x hx
    simp only [List.mem_cons, List.not_mem_nil, or_false] at hx
    rcases hx with rfl | rfl
    · exact e1
    · exact e2
theorem cmp_small (x y : St) : -1 ≤ stCmp x y ∧ stCmp x y ≤ 1 := by
  rw [cmp_want]
  split
  · omega
  · split <;> omega

/-- Three slices of stamps, of the call's own, made since W; the first shares no block with the others. -/
structure Thr (W : World) (v u1 u2 : Value) (n n1 n2 : Nat) (p p1 p2 : List Value) (w : World) : Prop where
  a0 : w.ownsRow W.heap.size 27 2 v n p
  a1 : w.ownsRow W.heap.size 27 2 u1 n1 p1
  a2 : w.ownsRow W.heap.size 27 2 u2 n2 p2
  ne1 : ∀ g, v.ownBlock = some g → u1.ownBlock ≠ some g
  ne2 : ∀ g, v.ownBlock = some g → u2.ownBlock ≠ some g
  ho : Only none_ W w
section
variable {W w w' : World} {v u1 u2 : Value} {n n1 n2 : Nat} {p p1 p2 : List Value}
theorem Thr.keep (t : Thr W v u1 u2 n n1 n2 p p1 p2 w) (o : Only none_ w w') : Thr W v u1 u2 n n1 n2 p p1 p2 w' :=
  ⟨owns_only t.a0 o (fun _ _ h => h), owns_only t.a1 o (fun _ _ h => h), owns_only t.a2 o (fun _ _ h => h), t.ne1, t.ne2, t.ho.trans o⟩
theorem Thr.alloc (t : Thr W v u1 u2 n n1 n2 p p1 p2 w) (o : Obj) : Thr W v u1 u2 n n1 n2 p p1 p2 (w.alloc o) := t.keep ((Only.refl none_ w).alloc o)
/-- The first one is appended to. -/
theorem Thr.app {v' : Value} {n' : Nat} {p' : List Value} (t : Thr W v u1 u2 n n1 n2 p p1 p2 w) (own : w'.ownsRow W.heap.size 27 2 v' n' p') (hg : w.grownBy w' v.ownBlock) (mv : Moved w v v') : Thr W v' u1 u2 n' n1 n2 p' p1 p2 w' := by
  have o : Only (ownb v) w w' := (Only.refl _ w).grown hg (fun k hk => .inl hk)
  refine ⟨own, owns_only t.a1 o (fun g h1 h2 => t.ne1 g h2 h1), owns_only t.a2 o (fun g h1 h2 => t.ne2 g h2 h1), fun g hv h1 => ?_, fun g hv h1 => ?_, t.ho.grown hg (fun k hk => .inr (t.a0.lt k hk).1)⟩
  · rcases mv g hv with h | h
    · exact t.ne1 g h h1
    · have := (t.a1.lt g h1).2; omega
  · rcases mv g hv with h | h
    · exact t.ne2 g h h1
    · have := (t.a2.lt g h1).2; omega
/-- The second one is made anew: a new row, to which something is appended. -/
theorem Thr.fresh {u' : Value} {n' : Nat} {p' : List Value} {cs : Array Value} {k : Nat} (t : Thr W v u1 u2 n n1 n2 p p1 p2 w) (own : w'.ownsRow W.heap.size 27 2 u' n' p')
    (hg : (w.alloc (.cells cs 27)).grownBy w' (Value.slice (some ⟨w.heap.size, 0, none⟩) k k).ownBlock) (mv : Moved (w.alloc (.cells cs 27)) (.slice (some ⟨w.heap.size, 0, none⟩) k k) u') : Thr W v u' u2 n n' n2 p p' p2 w' := by
  have o : Only none_ w w' := ((Only.refl none_ w).alloc _).grown hg (fun g hk => .inr (by simp [Value.ownBlock] at hk; omega))
  refine ⟨owns_only t.a0 o (fun _ _ h => h), own, owns_only t.a2 o (fun _ _ h => h), fun g hv h1 => ?_, t.ne2, t.ho.trans o⟩
  have h2 := (t.a0.lt g hv).2
  rcases mv g h1 with h | h
  · simp [Value.ownBlock] at h; omega
  · simp at h; omega
end

/-- Two stamps in the blocks g and h that were there in B; nothing of B has changed. -/
structure An (B : World) (g h : Nat) (a b : St) (w : World) : Prop where
  x : Blk B g 27 #[.int .i64 a.c, .int .i64 a.s]
  y : Blk B h 27 #[.int .i64 b.c, .int .i64 b.s]
  ho : Only none_ B w
section
variable {B w w' : World} {g h : Nat} {a b : St}
theorem An.keep (k : An B g h a b w) (o : Only none_ w w') : An B g h a b w' := ⟨k.x, k.y, k.ho.trans o⟩
theorem An.alloc (k : An B g h a b w) (o : Obj) : An B g h a b (w.alloc o) := k.keep ((Only.refl none_ w).alloc o)
theorem An.grow {e : Option Nat} (k : An B g h a b w) (hg : w.grownBy w' e) (he : ∀ i, e = some i → B.heap.size ≤ i) : An B g h a b w' := ⟨k.x, k.y, k.ho.grown hg (fun i hi => .inr (he i hi))⟩
theorem An.cells (k : An B g h a b w) : (w.cell? ⟨g, 0, none⟩ = some (.int .i64 a.c) ∧ w.cell? ⟨g, 1, none⟩ = some (.int .i64 a.s)) ∧ w.cell? ⟨h, 0, none⟩ = some (.int .i64 b.c) ∧ w.cell? ⟨h, 1, none⟩ = some (.int .i64 b.s) :=
  ⟨⟨(k.x.only k.ho (fun h => h)).cell_ rfl, (k.x.only k.ho (fun h => h)).cell_ rfl⟩, (k.y.only k.ho (fun h => h)).cell_ rfl, (k.y.only k.ho (fun h => h)).cell_ rfl⟩
theorem An.cel (k : An B g h a b w) {v : Value} {n : Nat} {cs : List Value} (c : Cel B (fun b => b < B.heap.size) v n 2 cs) : Cel w (fun b => b < B.heap.size) v n 2 cs := c.only k.ho (fun _ _ h => h)
theorem An.low (k : An B g h a b w) : ∀ i, i < B.heap.size → i < w.heap.size := fun _ hi => Nat.lt_of_lt_of_le hi k.ho.size
end
/-- Two stamps in a row just made. -/
theorem cel_two (w : World) (H : Nat) (hH : w.heap.size = H) (x y : St) :
    Cel (w.alloc (.cells #[.int .i64 x.c, .int .i64 x.s, .int .i64 y.c, .int .i64 y.s] 27)) (fun b => b = H) (.slice (some ⟨H, 0, none⟩) 2 2) [x, y].length 2 (stCells [x, y]) := by
  subst hH
  exact cel_made w 27 2 2 #[.int .i64 x.c, .int .i64 x.s, .int .i64 y.c, .int .i64 y.s] rfl (by simp [maxLen])
theorem own_none (w : World) (base H : Nat) (hH : w.heap.size = H) (hb : base ≤ H) : (w.alloc (.cells #[] 27)).ownsRow base 27 2 (.slice (some ⟨H, 0, none⟩) 0 0) 0 [] := by
  subst hH
  exact own_made w base 27 2 0 #[] rfl (by simp [maxLen]) hb
end Go.Proofs.Ytolgjjjclihmkaa
