/- The call of DiskPlays. The statement itself is proved in another text. -/
import Derived.Test.YtkhckgbhpfjfkaaDkP
import Derived.BigQuiet
namespace Go.Proofs.Ytkhckgbhpfjfkaa
open Go.RowKit
set_option maxRecDepth 100000

/-- Bytes don't lie in a block that has none. -/
theorem byt_off {w : World} {S : Nat → Prop} {v : Value} {bs : List UInt8} {g : Nat} {t : TypeId} {cs : Array Value} (h : Byt w S v bs) (b : Blk w g t cs) (hc : ∀ (i : Nat) (u : UInt8), cs[i]? ≠ some (byt u)) : Byt w (fun b => S b ∧ b ≠ g) v bs := by
  obtain ⟨A, c, rfl, h1, h2, h3, h4⟩ := h
  refine ⟨A, c, rfl, h1, h2, h3, fun hp => ?_⟩
  obtain ⟨b', off, rfl, hs, hlt, hcell⟩ := h4 hp
  refine ⟨b', off, rfl, ⟨hs, ?_⟩, hlt, hcell⟩
  rintro rfl
  have := hcell 0 hp
  rw [b.cell] at this
  exact hc _ _ this
theorem four_no {a b c d : Value} (ha : ∀ u, a ≠ byt u) (hb : ∀ u, b ≠ byt u) (hc : ∀ u, c ≠ byt u) (hd : ∀ u, d ≠ byt u) : ∀ (i : Nat) (u : UInt8), (#[a, b, c, d] : Array Value)[i]? ≠ some (byt u) := by
  intro i u h
  match i, h with
  | 0, h => exact ha u (by simpa using h)
  | 1, h => exact hb u (by simpa using h)
  | 2, h => exact hc u (by simpa using h)
  | 3, h => exact hd u (by simpa using h)
  | k + 4, h => simp at h

/-- A disk, and the document's one in block gm, behind world W; both alike. -/
structure Pl (W : World) (g gm : Nat) (d : Dv) (v : Value) (A : Option Addr) (n c : Nat) (w : World) : Prop where
  ds : Dsk W g d v w
  bk : Blk w gm 74 #[.slice A n c, .int .i64 (nf d).safe, .bool (!(nf d).on), .int .i64 (nf d).fuse]
  bm : Byt w (fun b => ¬ foot g v b) (.slice A n c) d.bs
  ge : W.heap.size ≤ gm
section
variable {W w w' : World} {g gm : Nat} {d d' : Dv} {v : Value} {A : Option Addr} {n c : Nat}
theorem Pl.keep (p : Pl W g gm d v A n c w) (o : Only none_ w w') : Pl W g gm d v A n c w' :=
  ⟨p.ds.keep o, p.bk.only o (fun h => h), p.bm.only o (fun _ _ h => h), p.ge⟩
/-- An act was done, and the document's new disk is stored. -/
theorem Pl.next (p : Pl W g gm d v A n c w) {e : Ending} (r : DoR W w g v d' (nf d') e w') {s' : Nat} {o' : Bool} {f' : Int} (hs : (nf d').safe = s') (ho : (!(nf d').on) = o') (hf : (nf d').fuse = f') :
    ∃ A' n' c' v', e = .returned (.tuple #[.agg #[.slice A' n' c', .int .i64 s', .bool o', .int .i64 f'], .bool true]) ∧ Blk w' gm 74 #[.slice A n c, .int .i64 (nf d).safe, .bool (!(nf d).on), .int .i64 (nf d).fuse] ∧
      Only none_ W w' ∧ ∀ w2, Only none_ w' w2 → Pl W g gm d' v' A' n' c' (w2.setRow gm #[.slice A' n' c', .int .i64 s', .bool o', .int .i64 f']) := by
  obtain ⟨A', n', c', v', he, ds, o, m, bm⟩ := r
  have b' := p.ds.box p.bk o (by decide) (by decide)
  have bm' := byt_off bm b' (four_no (fun u h => by cases h) (fun u h => by cases h) (fun u h => by cases h) (fun u h => by cases h))
  subst hs ho hf
  refine ⟨A', n', c', v', he, b', ds.ho, fun w2 o2 => ?_⟩
  have ow : Only (one gm) w2 (w2.setRow gm #[.slice A' n' c', .int .i64 (nf d').safe, .bool (!(nf d').on), .int .i64 (nf d').fuse]) := (Only.refl (one gm) w2).setRow (.inl (show one gm gm from rfl)) _
  have ds2 := ds.keep o2
  have b2 := b'.only o2 (fun h => h)
  refine ⟨ds2.apart ow ?_ (fun k e => by have e' : k = gm := e; have := p.ge; omega), b2.setRow _, ((bm'.only o2 (fun _ _ h => h)).only ow (fun b hb e => hb.2 e)).mono (fun _ _ h => h.1), p.ge⟩
  rintro k (rfl | hk) e
  · exact Blk.ne_ b2 ds2.bk (by decide) (Eq.symm e)
  · have e' : k = gm := e
    subst e'
    exact own_blk_ne ds2.ow b2 (by decide) hk
/-- What the disk tells is what the document's has. -/
theorem Pl.on (p : Pl W g gm d v A n c w) {o' : Bool} (ho : (!(nf d).on) = o') : Calls Try.prog 37 #[.pointer (some ⟨g, 0, none⟩)] w fun e w' => e = .returned (.bool (!o')) ∧ w' = w :=
  (power_on W g d v w p.ds).mono fun _ _ ⟨h1, h2⟩ => ⟨by rw [h1, ← ho]; show _ = Ending.returned (Value.bool (!!d.on)); rw [Bool.not_not], h2.symm⟩
theorem Pl.len (p : Pl W g gm d v A n c w) : Calls Try.prog 38 #[.pointer (some ⟨g, 0, none⟩)] w fun e w' => e = .returned (.int .i64 (n : Int)) ∧ w' = w := by
  obtain ⟨_, _, hv, _⟩ := p.bm
  injection hv with _ hn _
  exact (disk_len W g d v w p.ds).mono fun _ _ ⟨h1, h2⟩ => ⟨by rw [h1, hn], h2.symm⟩
theorem Pl.safe (p : Pl W g gm d v A n c w) {s' : Nat} (hs : (nf d).safe = s') : Calls Try.prog 39 #[.pointer (some ⟨g, 0, none⟩)] w fun e w' => e = .returned (.int .i64 (s' : Int)) ∧ w' = w := by
  subst hs
  exact (disk_safe W g d v w p.ds).mono fun _ _ ⟨h1, h2⟩ => ⟨h1, h2.symm⟩
theorem Pl.read (p : Pl W g gm d v A n c w) (ho : (!(nf d).on) = false) : Calls Try.prog 40 #[.pointer (some ⟨g, 0, none⟩)] w fun e w' => ∃ A n c, e = .returned (.tuple #[.slice A n c, .int .i64 0]) ∧ w'.ownsRow w.heap.size 5 1 (.slice A n c) d.bs.length (byts d.bs) ∧ Only none_ w w' := by
  have hon : d.on = true := by have h : (!d.on) = false := ho; simpa using h
  have := disk_read W g d v w p.ds
  rw [if_pos hon, if_pos hon] at this
  refine this.mono ?_
  rintro e w' ⟨⟨A, n, c, he, ho⟩, o⟩
  exact ⟨A, n, c, he, ho, o⟩
theorem Pl.dark (p : Pl W g gm d v A n c w) (ho : (!(nf d).on) = true) : Calls Try.prog 40 #[.pointer (some ⟨g, 0, none⟩)] w fun e w' => ∃ A c, e = .returned (.tuple #[.slice A 0 c, .int .i64 11]) ∧ Only none_ w w' := by
  have hon : ¬ d.on = true := by have h : (!d.on) = true := ho; simpa using h
  have := disk_read W g d v w p.ds
  rw [if_neg hon, if_neg hon] at this
  refine this.mono ?_
  rintro e w' ⟨⟨A, n, c, he, ho⟩, o⟩
  have hn := own_len ho
  subst hn
  exact ⟨A, c, he, o⟩
end
end Go.Proofs.Ytkhckgbhpfjfkaa
