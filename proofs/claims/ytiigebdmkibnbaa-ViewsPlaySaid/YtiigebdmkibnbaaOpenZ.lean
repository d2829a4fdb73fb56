/- How a slice of numbers that came in is opened. No statement of the seat is proved here. -/
import Derived.Test.YtiigebdmkibnbaaOpn
import Derived.Test.YtiigebdmkibnbaaDcA
import Derived.ProofKit
import Derived.OpenShut
import Derived.ChangeOld
namespace Go.Proofs.Ytiigebdmkibnbaa
open Go.ChangeShapes Go.WideShapes Go.ChangeAt Go.RowKit
set_option linter.all false
set_option maxRecDepth 100000

def numRow (z : Int) : List Value := [.int .i64 z]
theorem numRow_length (z : Int) : (numRow z).length = 1 := rfl
theorem num_flat (zs : List Int) : zs.flatMap numRow = nums zs := by
  induction zs with
  | nil => rfl
  | cons z zs ih => rw [List.flatMap_cons, ih]; rfl
theorem num_cells {H : Type} {enc : TypeId × Value → H} {W : World} (n : Nat) (r : List Value) (y : DataW H × List MemPlace) (hr : r.length = 1) (h : DataW.trod enc Try.prog W 0 (fun _ => true) true n 3 r = some y) :
    ∃ z : Int, r = numRow z ∧ I64 z := by
  match r, hr with
  | [r0], _ =>
    obtain ⟨k, q0, _, w0⟩ := DataW.trod_int Try.underlying3 h
    simp only [List.cons.injEq, and_true] at q0
    subst q0
    have hw := bounds_i64 w0
    exact ⟨k, rfl, hw.1, by have := hw.2; omega⟩
/-- An argument that is a slice of numbers: what it reads as. -/
theorem ints_arg {H : Type} {enc : TypeId × Value → H} {W : World} {a : Option Addr} {len cap : Nat} {d : DataW H} {p : List MemPlace} (h : DataW.Trod enc Try.prog W 0 (fun _ => true) true 22 (.slice a len cap) d p) :
    ∃ zs : List Int, len = zs.length ∧ Nm W (fun b => b < W.heap.size) (.slice a len cap) zs ∧ ∀ z ∈ zs, I64 z := by
  obtain ⟨l, h1, h2, h3⟩ := cel_in numRow I64 Try.underlying22 (by kernel_rfl) numRow_length (by omega) (fun n r y hr ht => num_cells n r y hr ht) h
  refine ⟨l, h1, ?_, h3⟩
  rw [num_flat] at h2
  unfold Nm
  rw [← h1]
  exact h2
/-- The same of a slice that lies in a cell. -/
theorem ints_cell {H : Type} {enc : TypeId × Value → H} {W : World} {n : Nat} {r : Value} {y : DataW H × List MemPlace} (h : DataW.trod enc Try.prog W 0 (fun _ => true) true n 22 [r] = some y) :
    ∃ zs : List Int, Nm W (fun b => b < W.heap.size) r zs ∧ ∀ z ∈ zs, I64 z := by
  obtain ⟨A, L, c, rfl⟩ := slice_one Try.underlying22 h
  obtain ⟨zs, h1, h2, h3⟩ := ints_arg (d := y.1) (p := y.2) ⟨n, h⟩
  exact ⟨zs, h2, h3⟩
end Go.Proofs.Ytiigebdmkibnbaa
