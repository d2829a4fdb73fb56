/- How an entry that came in is opened. No statement of the seat is proved here. -/
import Derived.Test.YtkailngpmodfhaaOpenT
import Derived.Test.YtkailngpmodfhaaEnM
namespace Go.Proofs.Ytkailngpmodfhaa
open Go.Joins Go.ChangeShapes Go.WideShapes Go.RowKit Go.Deep
set_option maxRecDepth 100000

theorem trod_struct7 {H : Type} {enc : TypeId × Value → H} {P : Program} {w : World} {base : Nat} {spare : Nat → Bool} {held : Bool} {t : TypeId} {f0 f1 f2 f3 f4 f5 f6 : Field} {fuel : Nat} {cs : List Value} {x : DataW H × List MemPlace} (ht : P.underlying t = some (.struct #[f0, f1, f2, f3, f4, f5, f6])) (h : DataW.trod enc P w base spare held fuel t cs = some x) :
    ∃ y0 y1 y2 y3 y4 y5 y6 n, DataW.trod enc P w base spare held n f0.type ((cs.drop f0.offset).take (P.cellsOf f0.type)) = some y0 ∧ DataW.trod enc P w base spare held n f1.type ((cs.drop f1.offset).take (P.cellsOf f1.type)) = some y1 ∧ DataW.trod enc P w base spare held n f2.type ((cs.drop f2.offset).take (P.cellsOf f2.type)) = some y2 ∧ DataW.trod enc P w base spare held n f3.type ((cs.drop f3.offset).take (P.cellsOf f3.type)) = some y3 ∧ DataW.trod enc P w base spare held n f4.type ((cs.drop f4.offset).take (P.cellsOf f4.type)) = some y4 ∧ DataW.trod enc P w base spare held n f5.type ((cs.drop f5.offset).take (P.cellsOf f5.type)) = some y5 ∧ DataW.trod enc P w base spare held n f6.type ((cs.drop f6.offset).take (P.cellsOf f6.type)) = some y6 := by
  obtain ⟨xs, n, _, _, _, hlen, hf⟩ := DataW.trod_struct ht h
  match xs, hlen with
  | [y0, y1, y2, y3, y4, y5, y6], _ => exact ⟨y0, y1, y2, y3, y4, y5, y6, n, by simpa using hf 0 f0 rfl, by simpa using hf 1 f1 rfl, by simpa using hf 2 f2 rfl, by simpa using hf 3 f3 rfl, by simpa using hf 4 f4 rfl, by simpa using hf 5 f5 rfl, by simpa using hf 6 f6 rfl⟩

theorem entry_arg {H : Type} {enc : TypeId × Value → H} {W : World} {cs : Array Value} {d : DataW H} {p : List MemPlace} (hs : cs.size = Try.prog.cellsOf 73) (h : DataW.Trod enc Try.prog W 0 (fun _ => true) true 73 (.agg cs) d p) :
    ∃ e : En, cs = #[.string e.k, .string e.v, .bool e.d, .int .i64 e.s.c, .int .i64 e.s.s, .int .i64 e.a.c, .int .i64 e.a.s, .int .i64 e.p, .int .i64 e.g] := by
  have c9 : Try.prog.cellsOf 73 = 9 := by kernel_rfl
  rw [c9] at hs
  obtain ⟨fuel, hf⟩ := h
  obtain ⟨y0, y1, y2, y3, y4, y5, y6, n, g0, g1, g2, g3, g4, g5, g6⟩ := trod_struct7 Try.underlying73 hf
  obtain ⟨l⟩ := cs
  match l, hs with
  | [c0, c1, c2, c3, c4, c5, c6, c7, c8], _ =>
      have e9 : Try.prog.cellsOf 9 = 1 := by kernel_rfl
      have e4 : Try.prog.cellsOf 4 = 1 := by kernel_rfl
      have e3 : Try.prog.cellsOf 3 = 1 := by kernel_rfl
      have e2 : Try.prog.cellsOf 71 = 2 := by kernel_rfl
      simp only [Value.cells, e9, e4, e3, e2, List.drop_zero, List.drop_succ_cons, List.take_succ_cons, List.take_zero] at g0 g1 g2 g3 g4 g5 g6
      obtain ⟨s0, q0, _, _⟩ := DataW.trod_string Try.underlying9 g0
      obtain ⟨s1, q1, _, _⟩ := DataW.trod_string Try.underlying9 g1
      obtain ⟨b2, q2, _⟩ := DataW.trod_bool Try.underlying4 g2
      obtain ⟨t3, q3, _⟩ := stamp_cells n _ _ rfl g3
      obtain ⟨t4, q4, _⟩ := stamp_cells n _ _ rfl g4
      obtain ⟨n5, q5, _, _⟩ := DataW.trod_int Try.underlying3 g5
      obtain ⟨n6, q6, _, _⟩ := DataW.trod_int Try.underlying3 g6
      simp only [stRow, List.cons.injEq, and_true] at q0 q1 q2 q3 q4 q5 q6
      obtain ⟨q3, q3'⟩ := q3
      obtain ⟨q4, q4'⟩ := q4
      subst q0 q1 q2 q3 q3' q4 q4' q5 q6
      exact ⟨⟨s0, s1, b2, t3, t4, n5, n6⟩, rfl⟩
end Go.Proofs.Ytkailngpmodfhaa
