/- How a slice of a disk's acts that came in reads. No statement of the seat is proved here. -/
import Derived.Test.YtkhckgbhpfjfkaaOpenR
import Derived.Test.YtkhckgbhpfjfkaaSl
namespace Go.Proofs.Ytkhckgbhpfjfkaa
open Go.Joins Go.ChangeShapes Go.WideShapes Go.RowKit Go.Deep
set_option maxRecDepth 100000

/-- An act: its kind, its number, the value of its bytes, the bytes. -/
structure Da where
  k : Int
  n : Int
  x : Value
  bs : List UInt8
def daRow (a : Da) : List Value := [.int .i64 a.k, .int .i64 a.n, a.x]
theorem daRow_length (a : Da) : (daRow a).length = 3 := rfl
def daOk (W : World) (a : Da) : Prop := Byt W (fun b => b < W.heap.size) a.x a.bs ∧ -9223372036854775808 ≤ a.n ∧ a.n < 9223372036854775808
theorem trod_s3 {H : Type} {enc : TypeId × Value → H} {P : Program} {w : World} {base : Nat} {spare : Nat → Bool} {held : Bool} {t : TypeId} {f0 f1 f2 : Field} {fuel : Nat} {cs : List Value} {x : DataW H × List MemPlace} (ht : P.underlying t = some (.struct #[f0, f1, f2])) (h : DataW.trod enc P w base spare held fuel t cs = some x) :
    ∃ y0 y1 y2 n, DataW.trod enc P w base spare held n f0.type ((cs.drop f0.offset).take (P.cellsOf f0.type)) = some y0 ∧ DataW.trod enc P w base spare held n f1.type ((cs.drop f1.offset).take (P.cellsOf f1.type)) = some y1 ∧ DataW.trod enc P w base spare held n f2.type ((cs.drop f2.offset).take (P.cellsOf f2.type)) = some y2 := by
  obtain ⟨xs, n, _, _, _, hlen, hf⟩ := DataW.trod_struct ht h
  match xs, hlen with
  | [y0, y1, y2], _ => exact ⟨y0, y1, y2, n, by simpa using hf 0 f0 rfl, by simpa using hf 1 f1 rfl, by simpa using hf 2 f2 rfl⟩
theorem da_cells {H : Type} {enc : TypeId × Value → H} {W : World} (n : Nat) (r : List Value) (y : DataW H × List MemPlace) (hr : r.length = 3) (h : DataW.trod enc Try.prog W 0 (fun _ => true) true n 77 r = some y) :
    ∃ a : Da, r = daRow a ∧ daOk W a := by
  obtain ⟨y0, y1, y2, n', h0, h1, h2⟩ := trod_s3 Try.underlying77 h
  match r, hr with
  | [r0, r1, r2], _ =>
      have e0 : Try.prog.cellsOf 3 = 1 := by kernel_rfl
      have e1 : Try.prog.cellsOf 29 = 1 := by kernel_rfl
      simp only [e0, e1, List.drop_zero, List.drop_succ_cons, List.take_succ_cons, List.take_zero] at h0 h1 h2
      obtain ⟨k, q0, _, w0⟩ := DataW.trod_int Try.underlying3 h0
      obtain ⟨m, q1, _, w1⟩ := DataW.trod_int Try.underlying3 h1
      obtain ⟨bs, hb⟩ := byt_cell h2
      simp only [List.cons.injEq, and_true] at q0 q1
      subst q0 q1
      have hw := bounds_i64 w1
      exact ⟨⟨k, m, r2, bs⟩, rfl, hb, hw.1, by show m < _; omega⟩
theorem das_arg {H : Type} {enc : TypeId × Value → H} {W : World} {a : Option Addr} {len cap : Nat} {d : DataW H} {p : List MemPlace} (h : DataW.Trod enc Try.prog W 0 (fun _ => true) true 69 (.slice a len cap) d p) :
    ∃ l : List Da, len = l.length ∧ Cel W (fun b => b < W.heap.size) (.slice a len cap) len 3 (l.flatMap daRow) ∧ ∀ x ∈ l, daOk W x :=
  cel_in daRow (daOk W) Try.underlying69 (by kernel_rfl) daRow_length (by omega) (fun n r y hr ht => da_cells n r y hr ht) h

/-- One act of a slice: where it lies. -/
theorem da_at {W w : World} {A : Option Addr} {L c j : Nat} {l : List Da} (h : Cel W (fun b => b < W.heap.size) (.slice A L c) L 3 (l.flatMap daRow)) (hl : L = l.length) (hj : j < l.length) (o : Only none_ W w) (ok : ∀ x ∈ l, daOk W x) :
    ∃ (b off : Nat) (X : Option Addr) (n e : Nat), A = some ⟨b, off, none⟩ ∧ w.cell? ⟨b, off + j * 3, none⟩ = some (.int .i64 l[j].k) ∧ w.cell? ⟨b, off + j * 3 + 1, none⟩ = some (.int .i64 l[j].n) ∧ w.cell? ⟨b, off + j * 3 + 2, none⟩ = some (.slice X n e) ∧
      n = l[j].bs.length ∧ Byt w (fun b => b < W.heap.size) (.slice X n e) l[j].bs ∧ -9223372036854775808 ≤ l[j].n ∧ l[j].n < 9223372036854775808 := by
  obtain ⟨A', c', hv, _, _, _, _, h4⟩ := h
  injection hv with e1 e2 e3
  subst e1 e3
  obtain ⟨b, off, rfl, _, hlt, hc⟩ := h4 (by omega)
  obtain ⟨hb, hn⟩ := ok l[j] (List.getElem_mem hj)
  obtain ⟨X, e, hx, _⟩ := id hb
  have hg : l[j]? = some l[j] := List.getElem?_eq_getElem hj
  have f := flat_at daRow daRow_length l j l[j] hg
  have c0 := (o.cell (p := ⟨b, off + (j * 3 + 0), none⟩) hlt (fun h => h)).trans (hc _ _ (f 0 (by omega)))
  have c1 := (o.cell (p := ⟨b, off + (j * 3 + 1), none⟩) hlt (fun h => h)).trans (hc _ _ (f 1 (by omega)))
  have c2 := (o.cell (p := ⟨b, off + (j * 3 + 2), none⟩) hlt (fun h => h)).trans (hc _ _ (f 2 (by omega)))
  refine ⟨b, off, X, _, e, rfl, c0, c1, ?_, rfl, hx ▸ hb.only o (fun _ _ h => h), hn⟩
  rw [← hx]
  exact c2
end Go.Proofs.Ytkhckgbhpfjfkaa
