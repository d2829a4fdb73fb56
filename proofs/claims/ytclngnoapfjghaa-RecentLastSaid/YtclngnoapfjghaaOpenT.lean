/- How stamps, slices of stamps, and slices of acts that came in are opened. No statement of the seat is proved here. -/
import Derived.Test.YtclngnoapfjghaaOpn
import Derived.Test.YtclngnoapfjghaaStM
namespace Go.Proofs.Ytclngnoapfjghaa
open Go.Joins Go.ChangeShapes Go.WideShapes Go.RowKit Go.Deep
set_option maxRecDepth 100000

def stRow (x : St) : List Value := [.int .i64 x.c, .int .i64 x.s]
theorem stRow_length (x : St) : (stRow x).length = 2 := rfl

/-- A stamp among the cells of an argument. -/
theorem stamp_cells {H : Type} {enc : TypeId × Value → H} {W : World} (n : Nat) (r : List Value) (y : DataW H × List MemPlace) (hr : r.length = 2) (h : DataW.trod enc Try.prog W 0 (fun _ => true) true n 29 r = some y) :
    ∃ x : St, r = stRow x ∧ (-9223372036854775808 ≤ x.c ∧ x.c ≤ 9223372036854775807) := by
  obtain ⟨y0, y1, n', _, _, h0, h1⟩ := trod_struct2 Try.underlying29 h
  match r, hr with
  | [r0, r1], _ =>
    have e0 : Try.prog.cellsOf 3 = 1 := by kernel_rfl
    simp only [e0, List.drop_zero, List.drop_succ_cons, List.take_succ_cons, List.take_zero] at h0 h1
    obtain ⟨c, q0, _, w0⟩ := DataW.trod_int Try.underlying3 h0
    obtain ⟨s, q1, _, w1⟩ := DataW.trod_int Try.underlying3 h1
    simp only [List.cons.injEq, and_true] at q0 q1
    subst q0 q1
    exact ⟨⟨c, s⟩, rfl, bounds_i64 w0⟩

theorem stamp_arg {H : Type} {enc : TypeId × Value → H} {W : World} {r : Reach} {base : Nat} {cs : Array Value} {d : DataW H} {p : List MemPlace} (hv : Value.okWide Try.prog W r base 29 (.agg cs)) (h : DataW.Trod enc Try.prog W 0 (fun _ => true) true 29 (.agg cs) d p) :
    ∃ x : St, cs = #[.int .i64 x.c, .int .i64 x.s] := by
  obtain ⟨v0, v1, y0, y1, n, he, _, _, t0, t1⟩ := open_agg2 Try.underlying29 (by kernel_rfl) (by kernel_rfl) hv h
  injection he with he
  subst he
  obtain ⟨c, e0, _⟩ := DataW.trod_int Try.underlying3 t0
  obtain ⟨s, e1, _⟩ := DataW.trod_int Try.underlying3 t1
  injection e0 with e0
  injection e1 with e1
  subst e0 e1
  exact ⟨⟨c, s⟩, rfl⟩
end Go.Proofs.Ytclngnoapfjghaa
