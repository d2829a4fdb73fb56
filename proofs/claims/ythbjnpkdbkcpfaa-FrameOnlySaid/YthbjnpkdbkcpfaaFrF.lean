/- What take of package frame does: a frame's numbers and body from a reader. No statement of the seat is proved here. -/
import Derived.Test.YthbjnpkdbkcpfaaFrE
import Derived.Test.YthbjnpkdbkcpfaaOctU
namespace Go.Proofs.Ythbjnpkdbkcpfaa
open Go.RowKit

theorem rd_one {w : World} {g : Nat} {S : Nat → Prop} {b : UInt8} {r : List UInt8} (h : Rd w g S 0 (b :: r)) (hl : r.length ≤ 1000000) :
    Calls Try.prog 41 #[.pointer (some ⟨g, 0, none⟩), .int .i64 1] w fun e w' => e = .returned (.int .u64 (b.toNat : Int)) ∧ Rd w' g S 0 r ∧ Only (one g) w w' := by
  have hn : numR 0 (b :: r) 1 = (0, r, b.toNat) := by simp [numR, isW, leVal]
  refine (reader_number g S 0 (b :: r) 1 w h (by simp; omega)).mono ?_
  rw [hn]
  exact fun _ _ h => h
theorem rd_two {w : World} {g : Nat} {S : Nat → Prop} {b c : UInt8} {r : List UInt8} (m : Nat) (hm : m = b.toNat + 256 * c.toNat) (h : Rd w g S 0 (b :: c :: r)) (hl : r.length ≤ 1000000) :
    Calls Try.prog 41 #[.pointer (some ⟨g, 0, none⟩), .int .i64 2] w fun e w' => e = .returned (.int .u64 (m : Int)) ∧ Rd w' g S 0 r ∧ Only (one g) w w' := by
  subst hm
  have hn : numR 0 (b :: c :: r) 2 = (0, r, b.toNat + 256 * c.toNat) := by simp [numR, isW, leVal]
  refine (reader_number g S 0 (b :: c :: r) 2 w h (by simp; omega)).mono ?_
  rw [hn]
  exact fun _ _ h => h

/-- Where take stands: the reader, the numbers so far, the result's cells. -/
structure TkS (w W : World) (gr : Nat) (S : Nat → Prop) (n0 n1 n2 code : Int) (rs : List UInt8) : Prop where
  rd : Rd W gr S code rs
  arr : Blk W (w.heap.size + 1) 66 #[.int .i64 n0, .int .i64 n1, .int .i64 n2]
  fr : Blk W w.heap.size 47 #[.int .i64 0, .int .i64 0, .int .i64 0, .slice none 0 0]
  ho : Only (one gr) w W
theorem TkS.new {w : World} {gr : Nat} {S : Nat → Prop} {rs : List UInt8} (h : Rd w gr S 0 rs) (hS : ∀ b, S b → b < w.heap.size) :
    TkS w ((w.alloc (.cells #[.int .i64 0, .int .i64 0, .int .i64 0, .slice none 0 0] 47)).alloc (.cells #[.int .i64 0, .int .i64 0, .int .i64 0] 66)) gr S 0 0 0 0 rs := by
  have o := ((Only.refl none_ w).alloc (.cells #[.int .i64 0, .int .i64 0, .int .i64 0, .slice none 0 0] 47)).alloc (.cells #[.int .i64 0, .int .i64 0, .int .i64 0] 66)
  refine ⟨h.only o (fun h => h) (fun _ _ h => h), ?_, (Blk.new _ _ _).alloc _, o.of_none⟩
  have := Blk.new (w.alloc (.cells #[.int .i64 0, .int .i64 0, .int .i64 0, .slice none 0 0] 47)) 66 #[.int .i64 0, .int .i64 0, .int .i64 0]
  rw [World.size_alloc] at this
  exact this
theorem TkS.step {w W W' : World} {gr : Nat} {S : Nat → Prop} {n0 n1 n2 code code' : Int} {rs rs' : List UInt8} (h : TkS w W gr S n0 n1 n2 code rs) (hg : gr < w.heap.size) (hr : Rd W' gr S code' rs') (o : Only (one gr) W W') : TkS w W' gr S n0 n1 n2 code' rs' :=
  ⟨hr, h.arr.only o (by simp only [one]; omega), h.fr.only o (by simp only [one]; omega), h.ho.trans o⟩
theorem TkS.set {w W : World} {gr : Nat} {S : Nat → Prop} {n0 n1 n2 code : Int} {rs : List UInt8} (h : TkS w W gr S n0 n1 n2 code rs) (hg : gr < w.heap.size) (hS : ∀ b, S b → b < w.heap.size) (i : Nat) (z : Int) {m0 m1 m2 : Int}
    (e : (#[Value.int .i64 n0, .int .i64 n1, .int .i64 n2] : Array Value).setIfInBounds i (.int .i64 z) = #[.int .i64 m0, .int .i64 m1, .int .i64 m2]) : TkS w (W.setCell ⟨w.heap.size + 1, i, none⟩ (.int .i64 z)) gr S m0 m1 m2 code rs := by
  have o : Only (one (w.heap.size + 1)) W (W.setCell ⟨w.heap.size + 1, i, none⟩ (.int .i64 z)) := (Only.refl _ _).setCell (.inl (show one (w.heap.size + 1) (w.heap.size + 1) from rfl)) _
  refine ⟨h.rd.only o (by simp only [one]; omega) (fun b hb e => by have := hS b hb; simp only [one] at e; omega), ?_, h.fr.only o (by simp only [one]; omega), h.ho.setCell (.inr (by simp)) _⟩
  rw [← e]
  exact h.arr.set_ i _
theorem TkS.drew {w W : World} {gr : Nat} {S : Nat → Prop} {n0 n1 n2 code : Int} {rs : List UInt8} (h : TkS w W gr S n0 n1 n2 code rs) : TkS w W.drew gr S n0 n1 n2 code rs := ⟨h.rd, h.arr, h.fr, h.ho.drew⟩
theorem TkS.alloc {w W : World} {gr : Nat} {S : Nat → Prop} {n0 n1 n2 code : Int} {rs : List UInt8} (h : TkS w W gr S n0 n1 n2 code rs) (o : Obj) : TkS w (W.alloc o) gr S n0 n1 n2 code rs :=
  ⟨h.rd.only (T := none_) ((Only.refl _ _).alloc o) (fun h => h) (fun _ _ h => h), h.arr.alloc o, h.fr.alloc o, h.ho.alloc o⟩
/-- The cells that the walk reads and writes. -/
theorem TkS.cells {w W : World} {gr : Nat} {S : Nat → Prop} {n0 n1 n2 code : Int} {rs : List UInt8} (h : TkS w W gr S n0 n1 n2 code rs) :
    (W.cell? ⟨w.heap.size + 1, 0, none⟩ = some (.int .i64 n0) ∧ W.cell? ⟨w.heap.size + 1, 1, none⟩ = some (.int .i64 n1) ∧ W.cell? ⟨w.heap.size + 1, 2, none⟩ = some (.int .i64 n2)) ∧ (W.frozen? ⟨w.heap.size + 1, 0, none⟩ = false ∧ W.frozen? ⟨w.heap.size + 1, 1, none⟩ = false ∧ W.frozen? ⟨w.heap.size + 1, 2, none⟩ = false) :=
  ⟨⟨h.arr.cell_ rfl, h.arr.cell_ rfl, h.arr.cell_ rfl⟩, h.arr.frozen _, h.arr.frozen _, h.arr.frozen _⟩

/-- Behind the numbers: the reader, the frame that was made (at g7), its body. -/
structure TkE (w W : World) (gr : Nat) (S : Nat → Prop) (code : Int) (rs : List UInt8) (g7 : Nat) (n0 n1 n2 : Int) (v : Value) (bs : List UInt8) : Prop where
  rd : Rd W gr S code rs
  ho : Only (one gr) w W
  four : Four W g7 (.int .i64 n0) (.int .i64 n1) (.int .i64 n2) v
  own : W.ownsRow w.heap.size 5 1 v bs.length (byts bs)
  own7 : ∀ b, v.ownBlock = some b → w.heap.size < b
  lt7 : w.heap.size < g7
theorem TkE.drew {w W : World} {gr : Nat} {S : Nat → Prop} {code : Int} {rs : List UInt8} {g7 : Nat} {n0 n1 n2 : Int} {v : Value} {bs : List UInt8} (h : TkE w W gr S code rs g7 n0 n1 n2 v bs) : TkE w W.drew gr S code rs g7 n0 n1 n2 v bs :=
  ⟨h.rd, h.ho.drew, h.four, h.own, h.own7, h.lt7⟩
theorem TkE.set {w W : World} {gr : Nat} {S : Nat → Prop} {code : Int} {rs : List UInt8} {g7 : Nat} {n0 n1 n2 : Int} {v : Value} {bs : List UInt8} (h : TkE w W gr S code rs g7 n0 n1 n2 v bs) (hg : gr < w.heap.size) (hS : ∀ b, S b → b < w.heap.size) (j : Nat) (u : Value) :
    TkE w (W.setCell ⟨w.heap.size, j, none⟩ u) gr S code rs g7 n0 n1 n2 v bs := by
  have o : Only (one w.heap.size) W (W.setCell ⟨w.heap.size, j, none⟩ u) := (Only.refl _ _).setCell (.inl (show one w.heap.size w.heap.size from rfl)) _
  exact ⟨h.rd.only o (by simp only [one]; omega) (fun b hb e => by have := hS b hb; simp only [one] at e; omega), h.ho.setCell (.inr (Nat.le_refl _)) _, h.four.only o (by have := h.lt7; simp only [one]; omega), owns_only h.own o (fun b hb e => by have := h.own7 b hb; simp only [one] at e; omega), h.own7, h.lt7⟩
theorem TkE.step {w W W' : World} {gr : Nat} {S : Nat → Prop} {code code' : Int} {rs rs' : List UInt8} {g7 : Nat} {n0 n1 n2 : Int} {v : Value} {bs : List UInt8} (h : TkE w W gr S code rs g7 n0 n1 n2 v bs) (hg : gr < w.heap.size) (hr : Rd W' gr S code' rs') (o : Only (one gr) W W') : TkE w W' gr S code' rs' g7 n0 n1 n2 v bs :=
  ⟨hr, h.ho.trans o, h.four.only o (by have := h.lt7; simp only [one]; omega), owns_only h.own o (fun b hb e => by have := h.own7 b hb; simp only [one] at e; omega), h.own7, h.lt7⟩
theorem TkE.behind {w W : World} {gr : Nat} {S : Nat → Prop} {m0 m1 m2 code : Int} {rs : List UInt8} (T : TkS w W gr S m0 m1 m2 code rs) {B : Nat} {n0 n1 n2 : Int} {A : Option Addr} {n c : Nat} {bs : List UInt8} (own : W.ownsRow B 5 1 (.slice A n c) bs.length (byts bs)) (hB : w.heap.size < B) :
    TkE w (W.alloc (.cells #[.int .i64 n0, .int .i64 n1, .int .i64 n2, .slice A n c] 47)) gr S code rs W.heap.size n0 n1 n2 (.slice A n c) bs := by
  have o := (Only.refl none_ W).alloc (.cells #[.int .i64 n0, .int .i64 n1, .int .i64 n2, .slice A n c] 47)
  exact ⟨T.rd.only o (fun h => h) (fun _ _ h => h), T.ho.alloc _, four_of_blk (Blk.new _ _ _), owns_base (owns_only own o (fun _ _ h => h)) (by omega), fun b hb => by have := (own.lt b hb).1; omega, by have := T.arr.lt; omega⟩
theorem TkE.ahead {w W : World} {gr : Nat} {S : Nat → Prop} {m0 m1 m2 code : Int} {rs : List UInt8} (T : TkS w W gr S m0 m1 m2 code rs) (hg : gr < w.heap.size) (hS : ∀ b, S b → b < w.heap.size) {B g7 : Nat} {n0 n1 n2 : Int} {A : Option Addr} {n c : Nat} {bs : List UInt8} (own : W.ownsRow B 5 1 (.slice A n c) bs.length (byts bs)) (hB : w.heap.size < g7 ∧ g7 < B)
    (h7 : Blk W g7 47 #[.int .i64 0, .int .i64 0, .int .i64 0, .slice none 0 0]) :
    TkE w ((((W.setCell ⟨g7, 0, none⟩ (.int .i64 n0)).setCell ⟨g7, 1, none⟩ (.int .i64 n1)).setCell ⟨g7, 2, none⟩ (.int .i64 n2)).setCell ⟨g7, 3, none⟩ (.slice A n c)) gr S code rs g7 n0 n1 n2 (.slice A n c) bs := by
  have o : Only (one g7) W ((((W.setCell ⟨g7, 0, none⟩ (.int .i64 n0)).setCell ⟨g7, 1, none⟩ (.int .i64 n1)).setCell ⟨g7, 2, none⟩ (.int .i64 n2)).setCell ⟨g7, 3, none⟩ (.slice A n c)) :=
    ((((Only.refl _ _).setCell (.inl (show one g7 g7 from rfl)) _).setCell (.inl (show one g7 g7 from rfl)) _).setCell (.inl (show one g7 g7 from rfl)) _).setCell (.inl (show one g7 g7 from rfl)) _
  refine ⟨T.rd.only o (by simp only [one]; omega) (fun b hb e => by have := hS b hb; simp only [one] at e; omega), T.ho.trans' o (fun k hk e => by simp only [one] at e; omega), ?_, owns_base (owns_only own o (fun b hb e => by have := (own.lt b hb).1; simp only [one] at e; omega)) (by omega), fun b hb => by have := (own.lt b hb).1; omega, hB.1⟩
  have := (((h7.set_ 0 (.int .i64 n0)).set_ 1 (.int .i64 n1)).set_ 2 (.int .i64 n2)).set_ 3 (.slice A n c)
  exact four_of_blk this

theorem three_set {W : World} {b g : Nat} {x y z : Value} (h : W.cell? ⟨b, 0, none⟩ = some x ∧ W.cell? ⟨b, 1, none⟩ = some y ∧ W.cell? ⟨b, 2, none⟩ = some z) (hne : g ≠ b) (j : Nat) (v : Value) :
    (W.setCell ⟨g, j, none⟩ v).cell? ⟨b, 0, none⟩ = some x ∧ (W.setCell ⟨g, j, none⟩ v).cell? ⟨b, 1, none⟩ = some y ∧ (W.setCell ⟨g, j, none⟩ v).cell? ⟨b, 2, none⟩ = some z := by
  have e : ∀ i, (⟨g, j, none⟩ : Addr) ≠ ⟨b, i, none⟩ := fun i e => by injection e with e1; exact hne e1
  exact ⟨(World.cell?_setCell_other _ ⟨g, j, none⟩ ⟨b, 0, none⟩ _ (e 0)).trans h.1, (World.cell?_setCell_other _ ⟨g, j, none⟩ ⟨b, 1, none⟩ _ (e 1)).trans h.2.1, (World.cell?_setCell_other _ ⟨g, j, none⟩ ⟨b, 2, none⟩ _ (e 2)).trans h.2.2⟩

set_option maxRecDepth 100000 in
set_option maxHeartbeats 1600000 in
theorem takeF_any (gr : Nat) (S : Nat → Prop) (b0 b1 b2 b3 b4 : UInt8) (r : List UInt8) (w : World) (h : Rd w gr S 0 (b0 :: b1 :: b2 :: b3 :: b4 :: r)) (hS : ∀ b, S b → b < w.heap.size) (hl0 : r.length ≤ 100000) (m : Nat) (hm : m = b3.toNat + 256 * b4.toNat) :
    Calls Try.prog 28 #[.pointer (some ⟨gr, 0, none⟩)] w fun e w' => ∃ A n c, e = .returned (.tuple #[.agg #[.int .i64 (b0.toNat : Int), .int .i64 (b1.toNat : Int), .int .i64 (b2.toNat : Int), .slice A n c], .int .i64 (doneCode (rawR 0 r m).1 (rawR 0 r m).2.1)]) ∧
      w'.ownsRow w.heap.size 5 1 (.slice A n c) (rawR 0 r m).2.2.length (byts (rawR 0 r m).2.2) ∧ Only (one gr) w w' := by
  have hg : gr < w.heap.size := h.lt
  have hl : r.length ≤ 1000000 := by omega
  have T0 := TkS.new h hS
  have l0 := b0.toNat_lt
  have l1 := b1.toNat_lt
  have l2 := b2.toNat_lt
  have l3 := b3.toNat_lt
  have l4 := b4.toNat_lt
  clear h
  have hl1 : (b1 :: b2 :: b3 :: b4 :: r).length ≤ 1000000 := by simp; omega
  have hl2 : (b2 :: b3 :: b4 :: r).length ≤ 1000000 := by simp; omega
  have hl3 : (b3 :: b4 :: r).length ≤ 1000000 := by simp; omega
  have HM := Lib.hid hm
  have hm6 : m < 65536 := by omega
  clear hm l3 l4
  go_enter Try.func28, Try.ntmps28
  go_wp2
  generalize (w.alloc (.cells #[.int .i64 0, .int .i64 0, .int .i64 0, .slice none 0 0] 47)).alloc (.cells #[.int .i64 0, .int .i64 0, .int .i64 0] 66) = W0 at *
  refine wp_loop_rounds 4 ?_
  rw [rounds_succ]
  go_wp2_with (first
    | (go_at_call 41; refine (rd_one T0.rd hl1).mono ?_; rintro e w1 ⟨rfl, h1, o1⟩
       have T1 := T0.step hg h1 o1
       have C1 := T1.cells
       obtain ⟨⟨c0, c1, c2⟩, f0, f1, f2⟩ := C1
       clear h1 o1 T0))
  have S1 := T1.set hg hS 0 (b0.toNat : Int) rfl
  clear c0 c1 c2 f0 f1 f2 T1
  generalize w1.setCell ⟨w.heap.size + 1, 0, none⟩ (.int .i64 (b0.toNat : Int)) = W1 at *
  rw [rounds_succ]
  go_wp2_with (first
    | (go_at_call 41; refine (rd_one S1.rd hl2).mono ?_; rintro e w2 ⟨rfl, h2, o2⟩
       have T2 := S1.step hg h2 o2
       have C2 := T2.cells
       obtain ⟨⟨c0, c1, c2⟩, f0, f1, f2⟩ := C2
       clear h2 o2 S1))
  have S2 := T2.set hg hS 1 (b1.toNat : Int) rfl
  clear c0 c1 c2 f0 f1 f2 T2
  generalize w2.setCell ⟨w.heap.size + 1, 1, none⟩ (.int .i64 (b1.toNat : Int)) = W2 at *
  rw [rounds_succ]
  go_wp2_with (first
    | (go_at_call 41; refine (rd_one S2.rd hl3).mono ?_; rintro e w3 ⟨rfl, h3, o3⟩
       have T3 := S2.step hg h3 o3
       have C3 := T3.cells
       obtain ⟨⟨c0, c1, c2⟩, f0, f1, f2⟩ := C3
       clear h3 o3 S2))
  have S3 := T3.set hg hS 2 (b2.toNat : Int) rfl
  clear c0 c1 c2 f0 f1 f2 T3
  generalize w3.setCell ⟨w.heap.size + 1, 2, none⟩ (.int .i64 (b2.toNat : Int)) = W3 at *
  rw [rounds_succ]
  go_wp2_with (first
    | (go_at_call 41; refine (rd_two m HM.out S3.rd hl).mono ?_; rintro e w4 ⟨rfl, h4, o4⟩
       have T4 := S3.step hg h4 o4
       clear h4 o4 S3))
  have D4 := Lib.hid T4.drew
  have A4 := Lib.hid (T4.alloc (.cells #[.int .i64 0, .int .i64 0, .int .i64 0, .slice none 0 0] 47)).drew
  have N4 := Lib.hid (Blk.new w4 47 #[.int .i64 0, .int .i64 0, .int .i64 0, .slice none 0 0]).drew
  have k4 := T4.drew.cells.1
  have k4a := A4.out.cells.1
  have hl4 : r.length ≤ 140737488355328 := by omega
  have hg4 : Hid (gr < w4.heap.size) := T4.rd.lt
  have hne : w4.heap.size ≠ w.heap.size + 1 := by have := T4.arr.lt; omega
  have hlt4 : w.heap.size < w4.drew.heap.size := by have := T4.fr.lt; simpa using this
  have hlt4a : w.heap.size < w4.heap.size ∧ w4.heap.size < (w4.alloc (.cells #[.int .i64 0, .int .i64 0, .int .i64 0, .slice none 0 0] 47)).drew.heap.size := by have := T4.fr.lt; simp; omega
  have hnf : w.heap.size ≠ w4.heap.size := by have := T4.fr.lt; omega
  clear T4
  go_region_held3 (fun W => W.cell? ⟨w.heap.size + 1, 0, none⟩ = some (.int .i64 (b0.toNat : Int)) ∧ W.cell? ⟨w.heap.size + 1, 1, none⟩ = some (.int .i64 (b1.toNat : Int)) ∧ W.cell? ⟨w.heap.size + 1, 2, none⟩ = some (.int .i64 (b2.toNat : Int)))
    (first | with_reducible exact k4 | with_reducible exact k4a | with_reducible exact k5 | with_reducible exact (T5.alloc _).cells.1 | with_reducible exact three_set (three_set (three_set (three_set k5 hne _ _) hne _ _) hne _ _) hne _ _)
    (first
      | (go_at_call 42; refine (reader_raw gr S 0 r m w4.drew D4.out.rd hl4).mono ?_; rintro e w5 ⟨A5, n5, c5, rfl, own5, rd5, o5⟩
         have T5 := D4.out.step hg rd5 o5
         have k5 := T5.cells.1)
      | (go_at_call 42; refine (reader_raw gr S 0 r m _ A4.out.rd hl4).mono ?_; rintro e w5 ⟨A5, n5, c5, rfl, own5, rd5, o5⟩
         have T5 := A4.out.step hg rd5 o5
         have k5 := T5.cells.1
         have N5 : Blk w5 w4.heap.size 47 #[.int .i64 0, .int .i64 0, .int .i64 0, .slice none 0 0] := N4.out.only o5 (by have := hg4.out; simp only [one]; omega)
         obtain ⟨x0, x1, x2, x3⟩ := four_of_blk N5
         have y0 := N5.frozen 0
         have y1 := N5.frozen 1
         have y2 := N5.frozen 2
         have y3 := N5.frozen 3))
  all_goals
    first
      | (have E6 := TkE.behind (n0 := (b0.toNat : Int)) (n1 := (b1.toNat : Int)) (n2 := (b2.toNat : Int)) T5 own5 hlt4
         have G6 := T5.fr.alloc (.cells #[.int .i64 (b0.toNat : Int), .int .i64 (b1.toNat : Int), .int .i64 (b2.toNat : Int), .slice A5 n5 c5] 47)
         clear k5
         generalize w5.alloc (.cells #[.int .i64 (b0.toNat : Int), .int .i64 (b1.toNat : Int), .int .i64 (b2.toNat : Int), .slice A5 n5 c5] 47) = W6 at *
         generalize w5.heap.size = g7 at *
         have tok : True := trivial)
      | (have E6 := TkE.ahead (n0 := (b0.toNat : Int)) (n1 := (b1.toNat : Int)) (n2 := (b2.toNat : Int)) T5 hg hS own5 hlt4a N5
         have G6 := (((T5.fr.far hnf (p := ⟨w4.heap.size, 0, none⟩) (.int .i64 (b0.toNat : Int))).far hnf (p := ⟨w4.heap.size, 1, none⟩) (.int .i64 (b1.toNat : Int))).far hnf (p := ⟨w4.heap.size, 2, none⟩) (.int .i64 (b2.toNat : Int))).far hnf (p := ⟨w4.heap.size, 3, none⟩) (.slice A5 n5 c5)
         clear k5 x0 x1 x2 x3 y0 y1 y2 y3 N5
         generalize (((w5.setCell ⟨w4.heap.size, 0, none⟩ (.int .i64 (b0.toNat : Int))).setCell ⟨w4.heap.size, 1, none⟩ (.int .i64 (b1.toNat : Int))).setCell ⟨w4.heap.size, 2, none⟩ (.int .i64 (b2.toNat : Int))).setCell ⟨w4.heap.size, 3, none⟩ (.slice A5 n5 c5) = W6 at *
         generalize w4.heap.size = g7 at *
         have tok : True := trivial)
  all_goals
    have E6h := Lib.hid E6
    have G6h := Lib.hid G6
    obtain ⟨z0, z1, z2, z3⟩ := four_of_blk G6
    have u0 := G6.frozen 0
    have u1 := G6.frozen 1
    have u2 := G6.frozen 2
    have u3 := G6.frozen 3
    have ES := ((((E6.set hg hS 0 (.int .i64 (b0.toNat : Int))).set hg hS 1 (.int .i64 (b1.toNat : Int))).set hg hS 2 (.int .i64 (b2.toNat : Int))).set hg hS 3 (.slice A5 n5 c5)).drew
    have GS := ((((G6.set_ 0 (.int .i64 (b0.toNat : Int))).set_ 1 (.int .i64 (b1.toNat : Int))).set_ 2 (.int .i64 (b2.toNat : Int))).set_ 3 (.slice A5 n5 c5)).drew
    have ESh := Lib.hid ES
    have ESf := ES.four
    have GSh := Lib.hid (four_of_blk GS)
    have ED := E6.drew.four
    clear E6 G6 ES GS
    go_wp2_with fail
    go_region_held3 (fun W => Four W g7 (.int .i64 (b0.toNat : Int)) (.int .i64 (b1.toNat : Int)) (.int .i64 (b2.toNat : Int)) (.slice A5 n5 c5))
      (first | with_reducible exact ED | with_reducible exact E7f | with_reducible exact ESf | with_reducible exact E7s)
      (first
        | (go_at_call 43; refine (reader_done gr S _ _ W6.drew E6h.out.drew.rd).mono ?_; rintro e w7 ⟨rfl, rd7, o7⟩
           have E7 := E6h.out.drew.step hg rd7 o7
           have G7 := G6h.out.drew.only o7 (by have := hg; simp only [one]; omega)
           have E7f := E7.four
           obtain ⟨z0, z1, z2, z3⟩ := four_of_blk G7
           have u0 := G7.frozen 0
           have u1 := G7.frozen 1
           have u2 := G7.frozen 2
           have u3 := G7.frozen 3
           have E7a := (((E7.set hg hS 0 (.int .i64 (b0.toNat : Int))).set hg hS 1 (.int .i64 (b1.toNat : Int))).set hg hS 2 (.int .i64 (b2.toNat : Int))).set hg hS 3 (.slice A5 n5 c5)
           have E7s := E7a.four
           have G7s := four_of_blk ((((G7.set_ 0 (.int .i64 (b0.toNat : Int))).set_ 1 (.int .i64 (b1.toNat : Int))).set_ 2 (.int .i64 (b2.toNat : Int))).set_ 3 (.slice A5 n5 c5)))
        | (go_at_call 43; refine (reader_done gr S _ _ _ ESh.out.rd).mono ?_; rintro e w7 ⟨rfl, rd7, o7⟩
           have E7a := ESh.out.step hg rd7 o7
           have E7f := E7a.four
           have G7s := GSh.out.only o7 (by have := hg; simp only [one]; omega)))
    all_goals
      go_wp2_with fail
      obtain ⟨j0, j1, j2, j3⟩ := G7s
      have OW := E7a.own
      have OH := E7a.ho
      exact bodyPost_ret (v := .tuple #[.agg #[.int .i64 (b0.toNat : Int), .int .i64 (b1.toNat : Int), .int .i64 (b2.toNat : Int), .slice A5 n5 c5], .int .i64 (doneCode (rawR 0 r m).1 (rawR 0 r m).2.1)]) (by simp [results, Try.results28, go_sem, j0, j1, j2, j3]) rfl ⟨A5, n5, c5, rfl, OW, OH⟩
end Go.Proofs.Ythbjnpkdbkcpfaa
