/- Disks: plain values, how one lies in memory, and what stores and appends make of it. No statement of the seat is proved here. -/
import Derived.Test.YtbhdnhnkiibaaaaByt
import Derived.Test.YtbhdnhnkiibaaaaOctW
namespace Go.Proofs.Ytbhdnhnkiibaaaa
open Go.RowKit
set_option maxRecDepth 100000

/-- A disk as a plain value. -/
structure Dv where
  on : Bool
  fuse : Int
  bs : List UInt8
  safe : Nat

/-- A disk in block g, behind world B, v the value of its bytes; all that was there in B is as it was. -/
structure Dsk (B : World) (g : Nat) (d : Dv) (v : Value) (w : World) : Prop where
  bk : Blk w g 82 #[.bool d.on, .int .i64 d.fuse, v, .int .i64 d.safe]
  ow : w.ownsRow B.heap.size 5 1 v d.bs.length (byts d.bs)
  ho : Only none_ B w
  ge : B.heap.size ≤ g
  sl : d.safe ≤ d.bs.length
  ml : d.bs.length ≤ 1048576
  fl : -9223372036854775808 ≤ d.fuse
  fh : d.fuse < 9223372036854775808

section
variable {B w w' : World} {g h : Nat} {d d' : Dv} {v v' : Value} {t : TypeId} {cs : Array Value}
theorem Dsk.foot_ge (s : Dsk B g d v w) {k : Nat} (hf : foot g v k) : B.heap.size ≤ k ∧ k < w.heap.size := by
  rcases hf with rfl | hf
  · exact ⟨s.ge, s.bk.lt⟩
  · exact s.ow.lt k hf
theorem Dsk.keep (s : Dsk B g d v w) (o : Only none_ w w') : Dsk B g d v w' :=
  ⟨s.bk.only o (fun h => h), owns_only s.ow o (fun _ _ h => h), s.ho.trans o, s.ge, s.sl, s.ml, s.fl, s.fh⟩
/-- Something else changed, that the disk has no part in. -/
theorem Dsk.apart {S : Nat → Prop} (s : Dsk B g d v w) (o : Only S w w') (hn : ∀ k, foot g v k → ¬ S k) (hS : ∀ k, S k → B.heap.size ≤ k) : Dsk B g d v w' :=
  ⟨s.bk.only o (hn g (.inl rfl)), owns_only s.ow o (fun k hk => hn k (.inr hk)), s.ho.trans' o (fun k hk hs => by have := hS k hs; omega), s.ge, s.sl, s.ml, s.fl, s.fh⟩
theorem Dsk.box (s : Dsk B g d v w) (b : Blk w h t cs) (o : Only (foot g v) w w') (h1 : 5 ≠ t) (h2 : t ≠ 82) : Blk w' h t cs :=
  b.only o (fun hf => hf.elim (fun e => Blk.ne_ b s.bk h2 e) (fun e => own_blk_ne s.ow b h1 e))
/-- A store into one of its cells but that of the bytes. -/
theorem Dsk.put (s : Dsk B g d v w) (i : Nat) (u : Value) (d' : Dv)
    (hc : (#[.bool d.on, .int .i64 d.fuse, v, .int .i64 d.safe] : Array Value).setIfInBounds i u = #[.bool d'.on, .int .i64 d'.fuse, v, .int .i64 d'.safe])
    (hb : d'.bs = d.bs) (hs : d'.safe ≤ d'.bs.length) (hl : -9223372036854775808 ≤ d'.fuse) (hh : d'.fuse < 9223372036854775808) : Dsk B g d' v (w.setCell ⟨g, i, none⟩ u) := by
  have o : Only (one g) w (w.setCell ⟨g, i, none⟩ u) := (Only.refl (one g) w).setCell (.inl (show one g g from rfl)) u
  refine ⟨hc ▸ s.bk.set_ i u, ?_, s.ho.trans' o (fun k hk e => ?_), s.ge, hs, hb ▸ s.ml, hl, hh⟩
  · rw [hb]; exact owns_only s.ow o (fun k hk e => own_blk_ne s.ow s.bk (by decide) (by rw [hk, show k = g from e]))
  · have e' : k = g := e
    have := s.ge; omega
theorem only_put (g i : Nat) (u : Value) (w : World) : Only (one g) w (w.setCell ⟨g, i, none⟩ u) := (Only.refl (one g) w).setCell (.inl (show one g g from rfl)) u
theorem only_foot {g : Nat} {v : Value} (o : Only (one g) w w') : Only (foot g v) w w' := o.mono (fun _ _ e => .inl e)
/-- Its bytes become others, whose value is stored. -/
theorem Dsk.app {w2 : World} {bs' : List UInt8} (s : Dsk B g d v w) (own : w2.ownsRow B.heap.size 5 1 v' bs'.length (byts bs')) (hg : w.grownBy w2 v.ownBlock)
    (hm : bs'.length ≤ 1048576) (hs : d.safe ≤ bs'.length) : Dsk B g { d with bs := bs' } v' (w2.setCell ⟨g, 2, none⟩ v') ∧ Only (foot g v) w (w2.setCell ⟨g, 2, none⟩ v') := by
  have b2 : Blk w2 g 82 #[.bool d.on, .int .i64 d.fuse, v, .int .i64 d.safe] := s.bk.grown' hg (own_blk_ne s.ow s.bk (by decide))
  have o2 : Only (foot g v) w w2 := (Only.refl _ w).grown hg (fun k hk => .inl (.inr hk))
  have o3 : Only (one g) w2 (w2.setCell ⟨g, 2, none⟩ v') := only_put g 2 v' w2
  refine ⟨⟨b2.set_ 2 v', owns_only own o3 (fun k hk e => own_blk_ne own b2 (by decide) (by rw [hk, show k = g from e])), ?_, s.ge, hs, hm, s.fl, s.fh⟩, o2.setCell (.inl (.inl rfl)) _⟩
  have o4 : Only (foot g v) w (w2.setCell ⟨g, 2, none⟩ v') := o2.setCell (.inl (.inl rfl)) _
  exact s.ho.trans' o4 (fun k hk e => by have := s.foot_ge e; omega)
theorem Dsk.len {A : Option Addr} {n c : Nat} (s : Dsk B g d (.slice A n c) w) : n = d.bs.length := own_len s.ow
theorem Dsk.shape (s : Dsk B g d v w) : ∃ A n c, v = .slice A n c := by
  rcases s.ow.2 with ⟨rfl, _⟩ | ⟨_, _, _, rfl, _⟩ <;> exact ⟨_, _, _, rfl⟩
theorem Dsk.byt (s : Dsk B g d v w) : Byt w (fun b => v.ownBlock = some b) v d.bs := Byt.of_own s.ow
end

/-- The first bytes of a slice of the call's own. -/
theorem own_hi {P : Program} {t e : TypeId} {i : TypeInfo} {w : World} {base : Nat} {A : Option Addr} {c L : Nat} {bs : List UInt8}
    (ht : P.underlying t = some (.slice e)) (hi : P.info? e = some i) (h : w.ownsRow base e 1 (.slice A L c) bs.length (byts bs)) (n : Nat) (hn : n ≤ bs.length) (z : Int) (hz : z = n) :
    (∀ w', (Instr.sliceAt t (.slice A L c) none (some (.int .i64 z)) none).run P w' = .ok (.slice A n c) w') ∧ w.ownsRow base e 1 (.slice A n c) (bs.take n).length (byts (bs.take n)) := by
  subst hz
  have hl : (bs.take n).length = n := by simp; omega
  rcases h.2 with ⟨e1, e2⟩ | ⟨g, cap, cur, e1, hb, hh, hnc, hcm, hcs, htk⟩
  · injection e1 with e1 e3 e4
    subst e1 e3 e4
    obtain rfl : n = 0 := by omega
    refine ⟨fun w' => ?_, by simp, .inl ⟨rfl, hl⟩⟩
    simp [Instr.sliceAt, Instr.slice, run_underlying ht, Instr.sliceBounds, run_sliceBound, sizeOf, typeInfo, hi]
  · injection e1 with e1 e3 e4
    subst e1 e3 e4
    refine ⟨fun w' => ?_, by simp, .inr ⟨g, c, cur, by rw [hl], hb, hh, by omega, hcm, hcs, ?_⟩⟩
    · have hc : (n : Int) ≤ (c : Int) := by omega
      simp [Instr.sliceAt, Instr.slice, run_underlying ht, Instr.sliceBounds, run_sliceBound, sizeOf, typeInfo, hi, hc, Addr.add]
    · rw [hl]
      have := congrArg (List.take (n * 1)) htk
      rw [List.take_take] at this
      rw [show n * 1 = min (n * 1) (bs.length * 1) from by omega, this]
      simp [byts, List.map_take]
end Go.Proofs.Ytbhdnhnkiibaaaa
