/- How a slice of acts with an index that came in is opened. No statement of the seat is proved here. -/
import Derived.Test.YtclngnoapfjghaaOpenRc
import Derived.Test.YtclngnoapfjghaaRcX
namespace Go.Proofs.Ytclngnoapfjghaa
open Go.Joins Go.ChangeShapes Go.WideShapes Go.RowKit Go.Deep
set_option maxRecDepth 100000
set_option linter.all false

theorem trod_struct4 {H : Type} {enc : TypeId × Value → H} {P : Program} {w : World} {base : Nat} {spare : Nat → Bool} {held : Bool} {t : TypeId} {f0 f1 f2 f3 : Field} {fuel : Nat} {cs : List Value} {x : DataW H × List MemPlace} (ht : P.underlying t = some (.struct #[f0, f1, f2, f3])) (h : DataW.trod enc P w base spare held fuel t cs = some x) :
    ∃ y0 y1 y2 y3 n, DataW.trod enc P w base spare held n f0.type ((cs.drop f0.offset).take (P.cellsOf f0.type)) = some y0 ∧ DataW.trod enc P w base spare held n f1.type ((cs.drop f1.offset).take (P.cellsOf f1.type)) = some y1 ∧ DataW.trod enc P w base spare held n f2.type ((cs.drop f2.offset).take (P.cellsOf f2.type)) = some y2 ∧ DataW.trod enc P w base spare held n f3.type ((cs.drop f3.offset).take (P.cellsOf f3.type)) = some y3 := by
  obtain ⟨xs, n, _, _, _, hlen, hf⟩ := DataW.trod_struct ht h
  match xs, hlen with
  | [y0, y1, y2, y3], _ => exact ⟨y0, y1, y2, y3, n, by simpa using hf 0 f0 rfl, by simpa using hf 1 f1 rfl, by simpa using hf 2 f2 rfl, by simpa using hf 3 f3 rfl⟩
theorem ra_cells {H : Type} {enc : TypeId × Value → H} {W : World} (n : Nat) (r : List Value) (y : DataW H × List MemPlace) (hr : r.length = 8) (h : DataW.trod enc Try.prog W 0 (fun _ => true) true n 33 r = some y) :
    ∃ x : Ra, r = raRow x ∧ True := by
  obtain ⟨y0, y1, y2, y3, n, g0, g1, g2, g3⟩ := trod_struct4 Try.underlying33 h
  match r, hr with
  | [c0, c1, c2, c3, c4, c5, c6, c7], _ =>
    have e1 : Try.prog.cellsOf 3 = 1 := by kernel_rfl
    have e3 : Try.prog.cellsOf 31 = 3 := by kernel_rfl
    simp only [e1, e3, List.drop_zero, List.drop_succ_cons, List.take_succ_cons, List.take_zero] at g0 g1 g2 g3
    obtain ⟨k, q0, _, _⟩ := DataW.trod_int Try.underlying3 g0
    obtain ⟨m, q1, _⟩ := mark_cells n _ _ rfl g1
    obtain ⟨b, q2, _⟩ := mark_cells n _ _ rfl g2
    obtain ⟨z, q3, _, _⟩ := DataW.trod_int Try.underlying3 g3
    refine ⟨⟨k, m, b, z⟩, ?_, trivial⟩
    simp only [mkI, List.cons.injEq, and_true] at q0 q1 q2 q3
    obtain ⟨q10, q11, q12⟩ := q1
    obtain ⟨q20, q21, q22⟩ := q2
    subst q0 q10 q11 q12 q20 q21 q22 q3
    rfl
theorem racts_arg {H : Type} {enc : TypeId × Value → H} {W : World} {a : Option Addr} {len cap : Nat} {d : DataW H} {p : List MemPlace} (h : DataW.Trod enc Try.prog W 0 (fun _ => true) true 22 (.slice a len cap) d p) :
    ∃ l : List Ra, len = l.length ∧ Cel W (fun b => b < W.heap.size) (.slice a len cap) len 8 (l.flatMap raRow) := by
  obtain ⟨l, h1, h2, _⟩ := cel_in raRow _ Try.underlying22 (by kernel_rfl) raRow_length (by omega) (fun n r y hr ht => ra_cells n r y hr ht) h
  exact ⟨l, h1, h2⟩
end Go.Proofs.Ytclngnoapfjghaa
