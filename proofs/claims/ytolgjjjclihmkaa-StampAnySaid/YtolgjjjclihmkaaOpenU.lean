/- How a slice of stamps that came in is opened. No statement of the seat is proved here. -/
import Derived.Test.YtolgjjjclihmkaaOpenT
namespace Go.Proofs.Ytolgjjjclihmkaa
open Go.Joins Go.ChangeShapes Go.WideShapes Go.RowKit Go.Deep
set_option maxRecDepth 100000

theorem stamps_arg {H : Type} {enc : TypeId × Value → H} {W : World} {a : Option Addr} {len cap : Nat} {d : DataW H} {p : List MemPlace} (h : DataW.Trod enc Try.prog W 0 (fun _ => true) true 31 (.slice a len cap) d p) :
    ∃ l : List St, len = l.length ∧ Cel W (fun b => b < W.heap.size) (.slice a len cap) len 2 (l.flatMap stRow) := by
  obtain ⟨l, h1, h2, _⟩ := cel_in stRow _ Try.underlying31 (by kernel_rfl) stRow_length (by omega) (fun n r y hr ht => stamp_cells n r y hr ht) h
  exact ⟨l, h1, h2⟩
end Go.Proofs.Ytolgjjjclihmkaa
