/- The document's disks: New, Append, Sync. No statement of the seat is proved here. -/
import Derived.Test.YtkhckgbhpfjfkaaDkD
import Derived.Test.YtkhckgbhpfjfkaaRes
import Derived.RegionTactic
import Derived.ChangeAlike
namespace Go.Proofs.Ytkhckgbhpfjfkaa
open Go.RowKit
set_option maxRecDepth 100000

theorem ref_new (w : World) : Calls Try.prog 35 #[] w fun e w' => e = .returned (.agg #[.slice none 0 0, .int .i64 0, .bool false, .int .i64 (-1)]) ∧ Only none_ w w' := by
  have B2 := Lib.hid (Blk.new w 74 #[.slice none 0 0, .int .i64 0, .bool false, .int .i64 (-1)])
  have O := Lib.hid ((Only.refl none_ w).alloc (.cells #[.slice none 0 0, .int .i64 0, .bool false, .int .i64 (-1)] 74))
  go_enter Try.func35, Try.ntmps35
  go_wp2_with fail
  exact bodyPost_ret (results_cell_row rfl _ _ w.heap.size 74 _ (0, 0) _ rfl B2.out Try.underlying74 rfl (by kernel_rfl)) rfl ⟨rfl, O.out⟩

theorem ref_use (d : Dv) (A : Option Addr) (n c : Nat) (w : World) (hl : -9223372036854775808 ≤ d.fuse) (hh : d.fuse < 9223372036854775808) :
    Calls Try.prog 98 #[.agg #[.slice A n c, .int .i64 d.safe, .bool (!d.on), .int .i64 d.fuse]] w fun e w' =>
      e = .returned (.tuple #[.agg #[.slice A n c, .int .i64 (burnt d).safe, .bool (!(burnt d).on), .int .i64 (burnt d).fuse], .bool (decide (d.fuse ≠ 0))]) ∧ Only none_ w w' := by
  obtain ⟨on, fuse, bs, safe⟩ := d
  dsimp only at hl hh ⊢
  obtain ⟨o, ho⟩ : ∃ o, (!on) = o := ⟨_, rfl⟩
  have O := fun x y => Lib.hid (((Only.refl none_ w).alloc (.cells x 74)).alloc (.cells y 74))
  rcases Int.lt_trichotomy fuse 0 with hz | rfl | hz
  · have e1 : Hid (burnt ⟨on, fuse, bs, safe⟩ = ⟨on, fuse, bs, safe⟩) := by
      unfold burnt Hid; rw [if_neg (by show ¬ fuse = 0; omega), if_neg (by show ¬ 0 < fuse; omega)]
    have e2 : Hid (decide (fuse ≠ 0) = true) := by simp [Hid]; omega
    rw [e1.out, e2.out]
    dsimp only
    rw [ho]
    clear ho e1 e2
    go_enter Try.func98, Try.ntmps98
    go_wp2_with fail
    exact bodyPost_ret (v := .tuple #[.agg #[.slice A n c, .int .i64 safe, .bool o, .int .i64 fuse], .bool true]) (by simp [results, Try.results98, go_sem]) rfl ⟨rfl, (O _ _).out⟩
  · have e1 : Hid (burnt ⟨on, 0, bs, safe⟩ = ⟨false, 0, bs, safe⟩) := rfl
    rw [e1.out]
    dsimp only
    rw [ho]
    clear ho e1
    go_enter Try.func98, Try.ntmps98
    go_wp2_with fail
    exact bodyPost_ret (v := .tuple #[.agg #[.slice A n c, .int .i64 safe, .bool true, .int .i64 0], .bool false]) (by simp [results, Try.results98, go_sem]) rfl ⟨rfl, (O _ _).out⟩
  · have e1 : Hid (burnt ⟨on, fuse, bs, safe⟩ = ⟨on, fuse - 1, bs, safe⟩) := by
      unfold burnt Hid; rw [if_neg (by show ¬ fuse = 0; omega), if_pos (by show 0 < fuse; omega)]
    have e2 : Hid (decide (fuse ≠ 0) = true) := by simp [Hid]; omega
    have hw : IntKind.i64.wrap (fuse - 1) = fuse - 1 := IntWalk.i64_in _ (by omega)
    rw [e1.out, e2.out]
    dsimp only
    rw [ho]
    clear ho e1 e2
    go_enter Try.func98, Try.ntmps98
    go_wp2_with fail
    exact bodyPost_ret (v := .tuple #[.agg #[.slice A n c, .int .i64 safe, .bool o, .int .i64 (fuse - 1)], .bool true]) (by simp [results, Try.results98, go_sem]) rfl ⟨rfl, (O _ _).out⟩

/-- What one of the document's calls that may change a disk answers. -/
def RfE (w : World) (S : Nat → Prop) (w' : World) (e : Ending) (d : Dv) (code : Int) : Prop :=
  (∃ A n c, e = .returned (.tuple #[.agg #[.slice A n c, .int .i64 d.safe, .bool (!d.on), .int .i64 d.fuse], .int .i64 code]) ∧ Byt w' (fun b => S b ∨ w.heap.size ≤ b) (.slice A n c) d.bs) ∧ Only none_ w w'

/-- The blocks of a call with a disk: its parameter's, its result's. -/
structure Rf (B : World) (g h : Nat) (x y : Array Value) (w : World) : Prop where
  b0 : Blk w g 74 x
  b1 : Blk w h 74 y
  ho : Only none_ B w
  ge : B.heap.size ≤ g
  he : B.heap.size ≤ h
  ne : g ≠ h
section
variable {B w w' : World} {g h : Nat} {x y : Array Value}
theorem Rf.new (B : World) (x y : Array Value) : Rf B B.heap.size (B.heap.size + 1) x y ((B.alloc (.cells x 74)).alloc (.cells y 74)) :=
  ⟨(Blk.new B _ x).alloc _, by have := Blk.new (B.alloc (.cells x 74)) 74 y; rwa [World.size_alloc] at this, ((Only.refl none_ B).alloc _).alloc _, Nat.le_refl _, Nat.le_succ _, Nat.ne_of_lt (Nat.lt_succ_self _)⟩
theorem Rf.keep (r : Rf B g h x y w) (o : Only none_ w w') : Rf B g h x y w' := ⟨r.b0.only o (fun h => h), r.b1.only o (fun h => h), r.ho.trans o, r.ge, r.he, r.ne⟩
theorem Rf.row0 (r : Rf B g h x y w) (z : Array Value) : Rf B g h z y (w.setRow g z) := ⟨r.b0.setRow z, r.b1.setRow_far (fun e => r.ne e.symm) z, r.ho.setRow (.inr r.ge) z, r.ge, r.he, r.ne⟩
theorem Rf.row1 (r : Rf B g h x y w) (z : Array Value) : Rf B g h x z (w.setRow h z) := ⟨r.b0.setRow_far r.ne z, r.b1.setRow z, r.ho.setRow (.inr r.he) z, r.ge, r.he, r.ne⟩
theorem Rf.set0 (r : Rf B g h x y w) (i : Nat) (u : Value) : Rf B g h (x.setIfInBounds i u) y (w.setCell ⟨g, i, none⟩ u) := ⟨r.b0.set_ i u, r.b1.far (p := ⟨g, i, none⟩) (fun e => r.ne e.symm) u, r.ho.setCell (.inr r.ge) u, r.ge, r.he, r.ne⟩
theorem Rf.own (r : Rf B g h x y w) {v : Value} {n : Nat} {xs : List Value} {base : Nat} (hown : w.ownsRow base 5 1 v n xs) (hb : B.heap.size ≤ base) (hg : w.grownBy w' v.ownBlock) : Rf B g h x y w' :=
  ⟨r.b0.grown' hg (own_blk_ne hown r.b0 (by decide)), r.b1.grown' hg (own_blk_ne hown r.b1 (by decide)), r.ho.grown hg (fun k hk => .inr (Nat.le_trans hb (hown.lt k hk).1)), r.ge, r.he, r.ne⟩
theorem Rf.own_set0 (r : Rf B g h x y w) {v : Value} {n base : Nat} {xs : List Value} (hown : w.ownsRow base 5 1 v n xs) (i : Nat) (u : Value) : (w.setCell ⟨g, i, none⟩ u).ownsRow base 5 1 v n xs :=
  owns_only hown (only_put g i u w) (fun k hk e => own_blk_ne hown r.b0 (by decide) (by rw [hk, show k = g from e]))
theorem Rf.own_row1 (r : Rf B g h x y w) {v : Value} {n base : Nat} {xs : List Value} (hown : w.ownsRow base 5 1 v n xs) (z : Array Value) : (w.setRow h z).ownsRow base 5 1 v n xs :=
  owns_only hown ((Only.refl (one h) w).setRow (.inl (show one h h from rfl)) z) (fun k hk e => own_blk_ne hown r.b1 (by decide) (by rw [hk, show k = h from e]))
theorem four_of {a b c d : Value} {t : TypeId} (h : Blk w g t #[a, b, c, d]) : w.cell? ⟨g, 0, none⟩ = some a ∧ w.cell? ⟨g, 1, none⟩ = some b ∧ w.cell? ⟨g, 2, none⟩ = some c ∧ w.cell? ⟨g, 3, none⟩ = some d :=
  ⟨h.cell_ rfl, h.cell_ rfl, h.cell_ rfl, h.cell_ rfl⟩
theorem frozen4 {t : TypeId} {cs : Array Value} (h : Blk w g t cs) : w.frozen? ⟨g, 0, none⟩ = false ∧ w.frozen? ⟨g, 1, none⟩ = false ∧ w.frozen? ⟨g, 2, none⟩ = false ∧ w.frozen? ⟨g, 3, none⟩ = false :=
  ⟨h.frozen _, h.frozen _, h.frozen _, h.frozen _⟩
end
end Go.Proofs.Ytkhckgbhpfjfkaa
