/- How slices of slices of bytes, and pairs of them, that came in are opened. No statement of the seat is proved here. -/
import Derived.Test.YtbhdnhnkiibaaaaOpen
import Derived.Deep.Slices
import Derived.Deep.Fields
namespace Go.Proofs.Ytbhdnhnkiibaaaa
open Go.ChangeShapes Go.WideShapes Go.RowKit

set_option maxRecDepth 100000 in
/-- One slice of bytes among the cells of an argument. -/
theorem byt_cell {H : Type} {enc : TypeId × Value → H} {W : World} {n : Nat} {x : Value} {y : DataW H × List MemPlace} (h : DataW.trod enc Try.prog W 0 (fun _ => true) true n 71 [x] = some y) :
    ∃ bs, Byt W (fun b => b < W.heap.size) x bs := by
  obtain ⟨A, l, c, rfl⟩ := slice_one Try.underlying71 h
  obtain ⟨bs, _, hb⟩ := byt_arg (a := A) (len := l) (cap := c) (d := y.1) (p := y.2) ⟨n, by simpa [Value.cells] using h⟩
  exact ⟨bs, hb⟩
end Go.Proofs.Ytbhdnhnkiibaaaa
