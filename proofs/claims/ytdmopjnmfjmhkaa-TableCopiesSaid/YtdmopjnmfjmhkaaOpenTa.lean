/- How a slice of acts with tables that came in is opened. No statement of the seat is proved here. -/
import Derived.Test.YtdmopjnmfjmhkaaOpn
import Derived.Test.YtdmopjnmfjmhkaaTbN
import Derived.Deep.Strs
namespace Go.Proofs.Ytdmopjnmfjmhkaa
open Go.Joins Go.ChangeShapes Go.WideShapes Go.RowKit Go.Deep
set_option maxRecDepth 100000

theorem trod_struct5 {H : Type} {enc : TypeId × Value → H} {P : Program} {w : World} {base : Nat} {spare : Nat → Bool} {held : Bool} {t : TypeId} {f0 f1 f2 f3 f4 : Field} {fuel : Nat} {cs : List Value} {x : DataW H × List MemPlace} (ht : P.underlying t = some (.struct #[f0, f1, f2, f3, f4])) (h : DataW.trod enc P w base spare held fuel t cs = some x) :
    ∃ y0 y1 y2 y3 y4 n, DataW.trod enc P w base spare held n f0.type ((cs.drop f0.offset).take (P.cellsOf f0.type)) = some y0 ∧ DataW.trod enc P w base spare held n f1.type ((cs.drop f1.offset).take (P.cellsOf f1.type)) = some y1 ∧ DataW.trod enc P w base spare held n f2.type ((cs.drop f2.offset).take (P.cellsOf f2.type)) = some y2 ∧ DataW.trod enc P w base spare held n f3.type ((cs.drop f3.offset).take (P.cellsOf f3.type)) = some y3 ∧ DataW.trod enc P w base spare held n f4.type ((cs.drop f4.offset).take (P.cellsOf f4.type)) = some y4 := by
  obtain ⟨xs, n, _, _, _, hlen, hf⟩ := DataW.trod_struct ht h
  match xs, hlen with
  | [y0, y1, y2, y3, y4], _ => exact ⟨y0, y1, y2, y3, y4, n, by simpa using hf 0 f0 rfl, by simpa using hf 1 f1 rfl, by simpa using hf 2 f2 rfl, by simpa using hf 3 f3 rfl, by simpa using hf 4 f4 rfl⟩
theorem ta_cells {H : Type} {enc : TypeId × Value → H} {W : World} (n : Nat) (r : List Value) (y : DataW H × List MemPlace) (hr : r.length = 5) (h : DataW.trod enc Try.prog W 0 (fun _ => true) true n 35 r = some y) :
    ∃ x : Ta, r = taRow x ∧ True := by
  obtain ⟨y0, y1, y2, y3, y4, n, g0, g1, g2, g3, g4⟩ := trod_struct5 Try.underlying35 h
  match r, hr with
  | [c0, c1, c2, c3, c4], _ =>
    have e3 : Try.prog.cellsOf 3 = 1 := by kernel_rfl
    have e9 : Try.prog.cellsOf 9 = 1 := by kernel_rfl
    simp only [e9, e3, List.drop_zero, List.drop_succ_cons, List.take_succ_cons, List.take_zero] at g0 g1 g2 g3 g4
    obtain ⟨k, q0, _, _⟩ := DataW.trod_int Try.underlying3 g0
    obtain ⟨v, q1, _, _⟩ := DataW.trod_int Try.underlying3 g1
    obtain ⟨s, q2, _, _⟩ := DataW.trod_string Try.underlying9 g2
    obtain ⟨f, q3, _, _⟩ := DataW.trod_string Try.underlying9 g3
    obtain ⟨m, q4, _, _⟩ := DataW.trod_int Try.underlying3 g4
    simp only [List.cons.injEq, and_true] at q0 q1 q2 q3 q4
    subst q0 q1 q2 q3 q4
    exact ⟨⟨k, v, s, f, m⟩, rfl, trivial⟩
theorem tacts_arg {H : Type} {enc : TypeId × Value → H} {W : World} {a : Option Addr} {len cap : Nat} {d : DataW H} {p : List MemPlace} (h : DataW.Trod enc Try.prog W 0 (fun _ => true) true 22 (.slice a len cap) d p) :
    ∃ l : List Ta, len = l.length ∧ Cel W (fun b => b < W.heap.size) (.slice a len cap) len 5 (l.flatMap taRow) := by
  obtain ⟨l, h1, h2, _⟩ := cel_in taRow _ Try.underlying22 (by kernel_rfl) taRow_length (by omega) (fun n r y hr ht => ta_cells n r y hr ht) h
  exact ⟨l, h1, h2⟩
end Go.Proofs.Ytdmopjnmfjmhkaa
