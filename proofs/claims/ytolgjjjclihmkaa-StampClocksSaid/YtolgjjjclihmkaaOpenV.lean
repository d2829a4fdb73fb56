/- How a slice of acts that came in is opened. No statement of the seat is proved here. -/
import Derived.Test.YtolgjjjclihmkaaOpenT
namespace Go.Proofs.Ytolgjjjclihmkaa
open Go.Joins Go.ChangeShapes Go.WideShapes Go.RowKit Go.Deep
set_option maxRecDepth 100000

structure Ac where
  next : Bool
  see : St
def acRow (x : Ac) : List Value := [.bool x.next, .int .i64 x.see.c, .int .i64 x.see.s]
theorem acRow_length (x : Ac) : (acRow x).length = 3 := rfl
theorem act_cells {H : Type} {enc : TypeId × Value → H} {W : World} (n : Nat) (r : List Value) (y : DataW H × List MemPlace) (hr : r.length = 3) (h : DataW.trod enc Try.prog W 0 (fun _ => true) true n 46 r = some y) :
    ∃ x : Ac, r = acRow x ∧ True := by
  obtain ⟨y0, y1, n', _, _, h0, h1⟩ := trod_struct2 Try.underlying46 h
  match r, hr with
  | [r0, r1, r2], _ =>
    have e0 : Try.prog.cellsOf 4 = 1 := by kernel_rfl
    have e1 : Try.prog.cellsOf 23 = 2 := by kernel_rfl
    simp only [e0, e1, List.drop_zero, List.drop_succ_cons, List.take_succ_cons, List.take_zero] at h0 h1
    obtain ⟨x, q0, _⟩ := DataW.trod_bool Try.underlying4 h0
    obtain ⟨s, q1, _⟩ := stamp_cells _ _ _ rfl h1
    simp only [List.cons.injEq, and_true] at q0
    simp only [stRow, List.cons.injEq, and_true] at q1
    obtain ⟨q1, q2⟩ := q1
    subst q0 q1 q2
    exact ⟨⟨x, s⟩, rfl, trivial⟩
theorem acts_arg {H : Type} {enc : TypeId × Value → H} {W : World} {a : Option Addr} {len cap : Nat} {d : DataW H} {p : List MemPlace} (h : DataW.Trod enc Try.prog W 0 (fun _ => true) true 36 (.slice a len cap) d p) :
    ∃ l : List Ac, len = l.length ∧ Cel W (fun b => b < W.heap.size) (.slice a len cap) len 3 (l.flatMap acRow) := by
  obtain ⟨l, h1, h2, _⟩ := cel_in acRow _ Try.underlying36 (by kernel_rfl) acRow_length (by omega) (fun n r y hr ht => act_cells n r y hr ht) h
  exact ⟨l, h1, h2⟩
end Go.Proofs.Ytolgjjjclihmkaa
