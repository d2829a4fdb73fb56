/- How a slice of entries that came in is opened. No statement of the seat is proved here. -/
import Derived.Test.YtkailngpmodfhaaOpn
import Derived.Test.YtkailngpmodfhaaOpenE
namespace Go.Proofs.Ytkailngpmodfhaa
open Go.Joins Go.ChangeShapes Go.WideShapes Go.RowKit Go.Deep
set_option maxRecDepth 100000

def enRow (e : En) : List Value := [.string e.k, .string e.v, .bool e.d, .int .i64 e.s.c, .int .i64 e.s.s, .int .i64 e.a.c, .int .i64 e.a.s, .int .i64 e.p, .int .i64 e.g]
theorem enRow_length (e : En) : (enRow e).length = 9 := rfl
theorem en_cells {H : Type} {enc : TypeId × Value → H} {W : World} (n : Nat) (r : List Value) (y : DataW H × List MemPlace) (hr : r.length = 9) (h : DataW.trod enc Try.prog W 0 (fun _ => true) true n 73 r = some y) :
    ∃ x : En, r = enRow x ∧ True := by
  obtain ⟨y0, y1, y2, y3, y4, y5, y6, n, g0, g1, g2, g3, g4, g5, g6⟩ := trod_struct7 Try.underlying73 h
  match r, hr with
  | [c0, c1, c2, c3, c4, c5, c6, c7, c8], _ =>
      have e9 : Try.prog.cellsOf 9 = 1 := by kernel_rfl
      have e4 : Try.prog.cellsOf 4 = 1 := by kernel_rfl
      have e3 : Try.prog.cellsOf 3 = 1 := by kernel_rfl
      have e2 : Try.prog.cellsOf 71 = 2 := by kernel_rfl
      simp only [e9, e4, e3, e2, List.drop_zero, List.drop_succ_cons, List.take_succ_cons, List.take_zero] at g0 g1 g2 g3 g4 g5 g6
      obtain ⟨s0, q0, _, _⟩ := DataW.trod_string Try.underlying9 g0
      obtain ⟨s1, q1, _, _⟩ := DataW.trod_string Try.underlying9 g1
      obtain ⟨b2, q2, _⟩ := DataW.trod_bool Try.underlying4 g2
      obtain ⟨t3, q3, _⟩ := stamp_cells n _ _ rfl g3
      obtain ⟨t4, q4, _⟩ := stamp_cells n _ _ rfl g4
      obtain ⟨n5, q5, _, _⟩ := DataW.trod_int Try.underlying3 g5
      obtain ⟨n6, q6, _, _⟩ := DataW.trod_int Try.underlying3 g6
      simp only [stRow, List.cons.injEq, and_true] at q0 q1 q2 q3 q4 q5 q6
      obtain ⟨q3, q3'⟩ := q3
      obtain ⟨q4, q4'⟩ := q4
      subst q0 q1 q2 q3 q3' q4 q4' q5 q6
      exact ⟨⟨s0, s1, b2, t3, t4, n5, n6⟩, rfl, trivial⟩
theorem entries_arg {H : Type} {enc : TypeId × Value → H} {W : World} {a : Option Addr} {len cap : Nat} {d : DataW H} {p : List MemPlace} (h : DataW.Trod enc Try.prog W 0 (fun _ => true) true 67 (.slice a len cap) d p) :
    ∃ l : List En, len = l.length ∧ Cel W (fun b => b < W.heap.size) (.slice a len cap) len 9 (l.flatMap enRow) := by
  obtain ⟨l, h1, h2, _⟩ := cel_in enRow _ Try.underlying67 (by kernel_rfl) enRow_length (by omega) (fun n r y hr ht => en_cells n r y hr ht) h
  exact ⟨l, h1, h2⟩
end Go.Proofs.Ytkailngpmodfhaa
