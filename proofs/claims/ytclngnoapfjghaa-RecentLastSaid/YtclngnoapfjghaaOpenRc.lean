/- How a mark, a slice of marks, a slice of acts with an index that came in are opened. No statement of the seat is proved here. -/
import Derived.Test.YtclngnoapfjghaaOpn
import Derived.Test.YtclngnoapfjghaaOpenT
import Derived.Test.YtclngnoapfjghaaRcB
namespace Go.Proofs.Ytclngnoapfjghaa
open Go.Joins Go.ChangeShapes Go.WideShapes Go.RowKit Go.Deep
set_option maxRecDepth 100000
set_option linter.all false

theorem mark_cells {H : Type} {enc : TypeId × Value → H} {W : World} (n : Nat) (r : List Value) (y : DataW H × List MemPlace) (hr : r.length = 3) (h : DataW.trod enc Try.prog W 0 (fun _ => true) true n 31 r = some y) :
    ∃ x : Mk, r = mkI x ∧ (-9223372036854775808 ≤ x.a.c ∧ x.a.c ≤ 9223372036854775807) := by
  obtain ⟨y0, y1, n, _, _, g0, g1⟩ := trod_struct2 Try.underlying31 h
  match r, hr with
  | [c0, c1, c2], _ =>
      have e9 : Try.prog.cellsOf 9 = 1 := by kernel_rfl
      have e2 : Try.prog.cellsOf 29 = 2 := by kernel_rfl
      simp only [e9, e2, List.drop_zero, List.drop_succ_cons, List.take_succ_cons, List.take_zero] at g0 g1
      obtain ⟨t0, q0, w0⟩ := stamp_cells n _ _ rfl g0
      obtain ⟨s1, q1, _, _⟩ := DataW.trod_string Try.underlying9 g1
      simp only [stRow, List.cons.injEq, and_true] at q0 q1
      obtain ⟨q0, q0'⟩ := q0
      subst q0 q0' q1
      exact ⟨⟨t0, s1⟩, rfl, w0⟩
theorem mark_arg {H : Type} {enc : TypeId × Value → H} {W : World} {cs : Array Value} {d : DataW H} {p : List MemPlace} (hs : cs.size = Try.prog.cellsOf 31) (h : DataW.Trod enc Try.prog W 0 (fun _ => true) true 31 (.agg cs) d p) :
    ∃ m : Mk, cs = #[.int .i64 m.a.c, .int .i64 m.a.s, .string m.k] := by
  have c9 : Try.prog.cellsOf 31 = 3 := by kernel_rfl
  rw [c9] at hs
  obtain ⟨fuel, hf⟩ := h
  obtain ⟨l⟩ := cs
  obtain ⟨x, e, _⟩ := mark_cells fuel l _ hs hf
  refine ⟨x, ?_⟩
  rw [e]; rfl
theorem marks_arg {H : Type} {enc : TypeId × Value → H} {W : World} {a : Option Addr} {len cap : Nat} {d : DataW H} {p : List MemPlace} (h : DataW.Trod enc Try.prog W 0 (fun _ => true) true 27 (.slice a len cap) d p) :
    ∃ l : List Mk, len = l.length ∧ Cel W (fun b => b < W.heap.size) (.slice a len cap) len 3 (l.flatMap mkI) := by
  obtain ⟨l, h1, h2, _⟩ := cel_in mkI _ Try.underlying27 (by kernel_rfl) mkI_len (by omega) (fun n r y hr ht => mark_cells n r y hr ht) h
  exact ⟨l, h1, h2⟩
end Go.Proofs.Ytclngnoapfjghaa
