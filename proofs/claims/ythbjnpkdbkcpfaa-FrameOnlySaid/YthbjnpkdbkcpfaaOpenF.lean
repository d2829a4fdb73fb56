/- How a frame of the document's that came in by value is opened: its numbers, and a slice that reads as bytes. No statement of the seat is proved here. -/
import Derived.Test.YthbjnpkdbkcpfaaOpenR
import Derived.Test.YthbjnpkdbkcpfaaFrM
import Derived.Lib.SmallJoins
namespace Go.Proofs.Ythbjnpkdbkcpfaa
open Go.Joins Go.ChangeShapes Go.WideShapes Go.RowKit Go.Deep

set_option maxRecDepth 100000 in
theorem frame_arg {H : Type} {enc : TypeId × Value → H} {W : World} {r : Reach} {base : Nat} {cs : Array Value} {d : DataW H} {p : List MemPlace} (hv : Value.okWide Try.prog W r base 24 (.agg cs)) (h : DataW.Trod enc Try.prog W 0 (fun _ => true) true 24 (.agg cs) d p) :
    ∃ (x : Fr) (A : Option Addr) (c : Nat), cs = #[.int .i64 x.f, .int .i64 x.t, .int .i64 x.k, .slice A x.b.length c] ∧ Byt W (fun b => b < W.heap.size) (.slice A x.b.length c) x.b := by
  obtain ⟨v0, v1, v2, v3, y0, y1, y2, y3, n, he, _, _, t0, t1, t2, t3⟩ := open_agg4 Try.underlying24 (by kernel_rfl) (by kernel_rfl) hv h
  injection he with he
  subst he
  obtain ⟨f, e0, _⟩ := DataW.trod_int Try.underlying3 t0
  obtain ⟨t, e1, _⟩ := DataW.trod_int Try.underlying3 t1
  obtain ⟨k, e2, _⟩ := DataW.trod_int Try.underlying3 t2
  injection e0 with e0
  injection e1 with e1
  injection e2 with e2
  subst e0 e1 e2
  obtain ⟨bs, hb⟩ := byt_cell t3
  obtain ⟨A, c, e3, h1⟩ := id hb
  subst e3
  exact ⟨⟨f, t, k, bs⟩, A, c, rfl, hb⟩
end Go.Proofs.Ythbjnpkdbkcpfaa
