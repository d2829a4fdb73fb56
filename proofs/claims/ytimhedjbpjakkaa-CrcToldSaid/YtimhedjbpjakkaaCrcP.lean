/- One table of a statement's own, and what its calls give, in words that hold behind each of them. No statement of the seat is proved here. -/
import Derived.Test.YtimhedjbpjakkaaCrcL
namespace Go.Proofs.Ytimhedjbpjakkaa
open Go.RowKit

/-- Not the table's block. -/
def far (g : Nat) : Nat → Prop := fun b => b ≠ g
/-- The table lies at g; what else was there in the world B is as it was. -/
structure Pk (Tb : World → Nat → Prop) (B : World) (g : Nat) (w : World) : Prop where
  tb : Tb w g
  ho : Only (one g) B w
/-- Slices that lay in memory lie there still. -/
structure Sl (w w' : World) : Prop where
  out : ∀ (k j : Nat) (A : Option Addr) (n c : Nat), w.cell? ⟨k, j, none⟩ = some (.slice A n c) → w'.cell? ⟨k, j, none⟩ = some (.slice A n c)
theorem cell_alloc {w : World} {p : Addr} {v : Value} (o : Obj) (h : w.cell? p = some v) : (w.alloc o).cell? p = some v := (World.cell?_alloc_lt _ _ _ (World.block_lt_of_cell? w p h)).trans h
theorem cell_drew {w : World} {p : Addr} {v : Value} (h : w.cell? p = some v) : w.drew.cell? p = some v := h
section
variable {Tb : World → Nat → Prop} (C : TabC Tb) {B w : World} {g : Nat}
include C
theorem Pk.start (W0 : World) : Pk Tb (W0.alloc (.cells tabZero 38)) W0.heap.size (W0.alloc (.cells tabZero 38)) := ⟨C.new W0, Only.refl _ _⟩
theorem Pk.keep (p : Pk Tb B g w) {w' : World} (ho : Only none_ w w') : Pk Tb B g w' := ⟨C.only p.1 ho (fun h => h), p.ho.trans ho.of_none⟩
omit C in
theorem Pk.step (p : Pk Tb B g w) {w' : World} (ht : Tb w' g) (ho : Only (one g) w w') : Pk Tb B g w' := ⟨ht, p.ho.trans ho⟩
theorem Pk.sl (p : Pk Tb B g w) {w' : World} (ho : Only (one g) w w') : Sl w w' := ⟨fun k j A n c h => by
  have hk : k ≠ g := fun e => C.head p.tb j A n c (by rw [← e]; exact h)
  exact (ho.cell (p := ⟨k, j, none⟩) (World.block_lt_of_cell? w _ h) hk).trans h⟩
theorem Pk.sl_none (p : Pk Tb B g w) {w' : World} (ho : Only none_ w w') : Sl w w' := p.sl C ho.of_none
theorem Pk.alloc (p : Pk Tb B g w) (o : Obj) : Pk Tb B g (w.alloc o) := Pk.keep C p ((Only.refl none_ w).alloc o)
theorem Pk.drew (p : Pk Tb B g w) : Pk Tb B g w.drew := Pk.keep C p (Only.refl none_ w).drew
omit C in
theorem Pk.byt (p : Pk Tb B g w) {x : Value} {bs : List UInt8} (h : Byt B (far g) x bs) : Byt w (far g) x bs := h.only p.ho (fun _ h => h)
omit C in
theorem Pk.below {W : World} (p : Pk Tb B g w) (ho : Only none_ W B) (hg : W.heap.size ≤ g) : Below W.heap.size W w :=
  (ho.trans' p.ho (fun k hk e => by simp only [one] at e; omega)).below (Nat.le_refl _) (fun _ hk => hk.elim)
theorem pk_row (p : Pk Tb B g w) (i : Int) : Calls Try.prog 10 #[.pointer (some ⟨g, 0, none⟩), .int .i64 i] w fun e w' => e = .returned (.int .u32 (crcRow i : Nat)) ∧ Pk Tb B g w' ∧ Sl w w' :=
  (C.row g i w p.tb).mono fun _ _ ⟨h1, h2, h3⟩ => ⟨h1, p.step h2 h3, p.sl C h3⟩
theorem pk_more (p : Pk Tb B g w) {x : Value} {bs : List UInt8} (h : Byt B (far g) x bs) (s : Nat) (hs : s < 4294967296) :
    Calls Try.prog 14 #[.pointer (some ⟨g, 0, none⟩), .int .u32 (s : Int), x] w fun e w' => e = .returned (.int .u32 (crcMore s bs : Nat)) ∧ Pk Tb B g w' ∧ Sl w w' :=
  (C.more g (far g) s x bs w p.tb hs (p.byt h) (fun _ h => h)).mono fun _ _ ⟨h1, h2, h3⟩ => ⟨h1, p.step h2 h3, p.sl C h3⟩
theorem pk_join (p : Pk Tb B g w) (a b : Nat) (n : Int) (ha : a < 4294967296) (hb : b < 4294967296) (hn : n ≤ 9223372036854775807) :
    Calls Try.prog 16 #[.pointer (some ⟨g, 0, none⟩), .int .u32 (a : Int), .int .u32 (b : Int), .int .i64 n] w fun e w' => e = .returned (.int .u32 (b ^^^ cstN (8 * n.toNat) a : Nat)) ∧ Pk Tb B g w' ∧ Sl w w' :=
  (C.join g a b n w p.tb ha hb hn).mono fun _ _ ⟨h1, h2, h3⟩ => ⟨h1, p.step h2 h3, p.sl C h3⟩
/-- Of the parts that lie in a slice of a call's own. -/
theorem pk_parts (p : Pk Tb B g w) {pss : List (List UInt8)} (k n c : Nat) (hn : n = pss.length) (hm : pss.length ≤ maxLen) (h0 : ∃ A n c, w.cell? ⟨k, 0, none⟩ = some (.slice A n c))
    (h : ∀ j (hj : j < pss.length), ∃ x, w.cell? ⟨k, 0 + j, none⟩ = some x ∧ Byt B (far g) x pss[j]) :
    Calls Try.prog 12 #[.pointer (some ⟨g, 0, none⟩), .slice (some ⟨k, 0, none⟩) n c] w fun e w' => e = .returned (.int .u32 (crcSum pss.flatten : Nat)) ∧ Pk Tb B g w' ∧ Sl w w' := by
  subst hn
  obtain ⟨A, n, c', hc⟩ := h0
  have hkg : k ≠ g := fun e => C.head p.tb 0 A n c' (by rw [← e]; exact hc)
  have hkw : k < w.heap.size := World.block_lt_of_cell? w _ hc
  refine (C.sum g (far g) _ pss w p.tb ⟨_, c, rfl, hm, fun _ => ⟨k, 0, rfl, hkg, hkw, fun j hj => ?_⟩⟩ (fun _ h => h)).mono fun _ _ ⟨h1, h2, h3⟩ => ⟨h1, p.step h2 h3, p.sl C h3⟩
  obtain ⟨x, hx, hb⟩ := h j hj
  exact ⟨x, hx, p.byt hb⟩
theorem pk_one (p : Pk Tb B g w) {A : Option Addr} {L c : Nat} {bs : List UInt8} (h : Byt B (far g) (.slice A L c) bs) (k : Nat) (hk : w.cell? ⟨k, 0, none⟩ = some (.slice A L c)) :
    Calls Try.prog 12 #[.pointer (some ⟨g, 0, none⟩), .slice (some ⟨k, 0, none⟩) 1 1] w fun e w' => e = .returned (.int .u32 (crcSum bs : Nat)) ∧ Pk Tb B g w' ∧ Sl w w' := by
  have := pk_parts C p (pss := [bs]) k 1 1 rfl (by simp [maxLen]) ⟨_, _, _, hk⟩ (fun j hj => by
    have hj0 : j = 0 := by simp at hj; omega
    subst hj0
    exact ⟨_, hk, h⟩)
  simpa using this
theorem pk_three (p : Pk Tb B g w) {A1 A2 : Option Addr} {L1 c1 L2 c2 : Nat} {bs cs : List UInt8} (h1 : Byt B (far g) (.slice A1 L1 c1) bs) (h2 : Byt B (far g) (.slice A2 L2 c2) cs) (k : Nat)
    (hk0 : w.cell? ⟨k, 0, none⟩ = some (.slice A1 L1 c1)) (hk1 : w.cell? ⟨k, 1, none⟩ = some (.slice none 0 0)) (hk2 : w.cell? ⟨k, 2, none⟩ = some (.slice A2 L2 c2)) :
    Calls Try.prog 12 #[.pointer (some ⟨g, 0, none⟩), .slice (some ⟨k, 0, none⟩) 3 3] w fun e w' => e = .returned (.int .u32 (crcSum (bs ++ cs) : Nat)) ∧ Pk Tb B g w' ∧ Sl w w' := by
  have := pk_parts C p (pss := [bs, [], cs]) k 3 3 rfl (by simp [maxLen]) ⟨_, _, _, hk0⟩ (fun j hj => by
    have hj0 : j = 0 ∨ j = 1 ∨ j = 2 := by simp at hj; omega
    rcases hj0 with rfl | rfl | rfl
    · exact ⟨_, hk0, h1⟩
    · exact ⟨_, hk1, Byt.nil _ _⟩
    · exact ⟨_, hk2, h2⟩)
  simpa using this
/-- What a table marks is new, and lies in no block of the table. -/
theorem pk_mark (p : Pk Tb B g w) {x : Value} {bs : List UInt8} (h : Byt w (far g) x bs) (hl : bs.length ≤ 1000000) :
    Calls Try.prog 18 #[.pointer (some ⟨g, 0, none⟩), x] w fun e w' => ∃ A n c, e = .returned (.slice A n c) ∧ w'.ownsRow w.heap.size 5 1 (.slice A n c) (crcMark bs).length (byts (crcMark bs)) ∧ Byt w' (far g) (.slice A n c) (crcMark bs) ∧ Pk Tb B g w' ∧ Only (one g) w w' := by
  refine (C.mark g (far g) x bs w p.tb h (fun _ h => h) hl).mono ?_
  rintro e w' ⟨A, n, c, rfl, h1, h2, h3⟩
  refine ⟨A, n, c, rfl, h1, (Byt.of_own h1).mono (fun b _ hb => ?_), p.step h2 h3, h3⟩
  have := (h1.lt b hb).1
  have := C.lt p.tb
  simp only [far]
  omega
theorem pk_refMark (p : Pk Tb B g w) {x : Value} {bs : List UInt8} (h : Byt w (far g) x bs) (hl : bs.length ≤ 1000) :
    Calls Try.prog 21 #[x] w fun e w' => ∃ A n c, e = .returned (.slice A n c) ∧ Byt w' (far g) (.slice A n c) (crcMark bs) ∧ Pk Tb B g w' ∧ Only none_ w w' := by
  refine (refMark_any x bs _ w h hl).mono ?_
  rintro e w' ⟨A, n, c, rfl, h1, h2⟩
  refine ⟨A, n, c, rfl, (Byt.of_own h1).mono (fun b _ hb => ?_), Pk.keep C p h2, h2⟩
  have := (h1.lt b hb).1
  have := C.lt p.tb
  simp only [far]
  omega
theorem pk_holds (p : Pk Tb B g w) {x : Value} {bs : List UInt8} (h : Byt w (far g) x bs) (hl : bs.length ≤ 1000000) :
    Calls Try.prog 19 #[.pointer (some ⟨g, 0, none⟩), x] w fun e w' => e = .returned (.bool (crcHolds bs)) ∧ Pk Tb B g w' ∧ Only (one g) w w' :=
  (C.holds g (far g) x bs w p.tb h (fun _ h => h) hl).mono fun _ _ ⟨h1, h2, h3⟩ => ⟨h1, p.step h2 h3, h3⟩
end
/-- What is handed in lies in no block that is made later. -/
theorem byt_far {W w : World} {S : Nat → Prop} {x : Value} {bs : List UInt8} {g : Nat} (h : Byt W S x bs) (hS : ∀ b, S b → b < W.heap.size) (ho : Only none_ W w) (hg : W.heap.size ≤ g) : Byt w (far g) x bs :=
  (h.only ho (fun _ _ h => h)).mono (fun b _ hb e => by have := hS b hb; omega)
end Go.Proofs.Ytimhedjbpjakkaa
