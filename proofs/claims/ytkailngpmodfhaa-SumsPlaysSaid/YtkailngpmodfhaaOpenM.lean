/- How a slice of acts with sums that came in is opened. No statement of the seat is proved here. -/
import Derived.Test.YtkailngpmodfhaaOpenN
namespace Go.Proofs.Ytkailngpmodfhaa
open Go.Joins Go.ChangeShapes Go.WideShapes Go.RowKit Go.Deep
set_option maxRecDepth 100000

theorem trod_struct3 {H : Type} {enc : TypeId × Value → H} {P : Program} {w : World} {base : Nat} {spare : Nat → Bool} {held : Bool} {t : TypeId} {f0 f1 f2 : Field} {fuel : Nat} {cs : List Value} {x : DataW H × List MemPlace} (ht : P.underlying t = some (.struct #[f0, f1, f2])) (h : DataW.trod enc P w base spare held fuel t cs = some x) :
    ∃ y0 y1 y2 n, DataW.trod enc P w base spare held n f0.type ((cs.drop f0.offset).take (P.cellsOf f0.type)) = some y0 ∧ DataW.trod enc P w base spare held n f1.type ((cs.drop f1.offset).take (P.cellsOf f1.type)) = some y1 ∧ DataW.trod enc P w base spare held n f2.type ((cs.drop f2.offset).take (P.cellsOf f2.type)) = some y2 := by
  obtain ⟨xs, n, _, _, _, hlen, hf⟩ := DataW.trod_struct ht h
  match xs, hlen with
  | [y0, y1, y2], _ => exact ⟨y0, y1, y2, n, by simpa using hf 0 f0 rfl, by simpa using hf 1 f1 rfl, by simpa using hf 2 f2 rfl⟩

structure Sa where
  kind : Int
  n : En
  o : En
def saRow (x : Sa) : List Value := .int .i64 x.kind :: (enRow x.n ++ enRow x.o)
theorem saRow_length (x : Sa) : (saRow x).length = 19 := rfl
theorem sa_cells {H : Type} {enc : TypeId × Value → H} {W : World} (n : Nat) (r : List Value) (y : DataW H × List MemPlace) (hr : r.length = 19) (h : DataW.trod enc Try.prog W 0 (fun _ => true) true n 94 r = some y) :
    ∃ x : Sa, r = saRow x ∧ True := by
  obtain ⟨y0, y1, y2, n, g0, g1, g2⟩ := trod_struct3 Try.underlying94 h
  match r, hr with
  | [c0, c1, c2, c3, c4, c5, c6, c7, c8, c9, c10, c11, c12, c13, c14, c15, c16, c17, c18], _ =>
    have e3 : Try.prog.cellsOf 3 = 1 := by kernel_rfl
    have e9 : Try.prog.cellsOf 73 = 9 := by kernel_rfl
    simp only [e9, e3, List.drop_zero, List.drop_succ_cons, List.take_succ_cons, List.take_zero] at g0 g1 g2
    obtain ⟨k, q0, _, _⟩ := DataW.trod_int Try.underlying3 g0
    obtain ⟨a, q1, _⟩ := en_cells n _ _ rfl g1
    obtain ⟨b, q2, _⟩ := en_cells n _ _ rfl g2
    refine ⟨⟨k, a, b⟩, ?_, trivial⟩
    simp only [List.cons.injEq, and_true] at q0
    rw [saRow, ← q1, ← q2, ← q0]
    rfl
theorem sacts_arg {H : Type} {enc : TypeId × Value → H} {W : World} {a : Option Addr} {len cap : Nat} {d : DataW H} {p : List MemPlace} (h : DataW.Trod enc Try.prog W 0 (fun _ => true) true 85 (.slice a len cap) d p) :
    ∃ l : List Sa, len = l.length ∧ Cel W (fun b => b < W.heap.size) (.slice a len cap) len 19 (l.flatMap saRow) := by
  obtain ⟨l, h1, h2, _⟩ := cel_in saRow _ Try.underlying85 (by kernel_rfl) saRow_length (by omega) (fun n r y hr ht => sa_cells n r y hr ht) h
  exact ⟨l, h1, h2⟩
end Go.Proofs.Ytkailngpmodfhaa
