/- How a slice of slices of bytes that came in reads. No statement of the seat is proved here. -/
import Derived.Test.YtbhdnhnkiibaaaaOpenR
import Derived.Test.YtbhdnhnkiibaaaaRws
namespace Go.Proofs.Ytbhdnhnkiibaaaa
open Go.ChangeShapes Go.WideShapes Go.RowKit

set_option maxRecDepth 100000 in
theorem rows_arg {H : Type} {enc : TypeId × Value → H} {W : World} {a : Option Addr} {len cap : Nat} {d : DataW H} {p : List MemPlace} (h : DataW.Trod enc Try.prog W 0 (fun _ => true) true 70 (.slice a len cap) d p) :
    ∃ pss, len = pss.length ∧ Rows_ W (fun b => b < W.heap.size) (.slice a len cap) pss := by
  have c1 : Try.prog.cellsOf 71 = 1 := by kernel_rfl
  obtain ⟨fuel, hf⟩ := h
  rcases Go.Deep.open_slice1 Try.underlying70 c1 hf with ⟨hcs, _⟩ | ⟨x, l, c, m, n, V, D, Pl, hcs, _, hl, hm, hmm, _, hi⟩
  · simp [Value.cells] at hcs
    obtain ⟨rfl, rfl, rfl⟩ := hcs
    exact ⟨[], rfl, Rows_.nil _ _⟩
  · simp [Value.cells] at hcs
    obtain ⟨rfl, rfl, rfl⟩ := hcs
    have hlm : len ≤ m := by rw [hmm]; split <;> omega
    obtain ⟨pss, hps, hp⟩ := list_of len (fun i bs => W.cell? (x.add i) = some (V i) ∧ Byt W (fun b => b < W.heap.size) (V i) bs) (fun i hil => by
      obtain ⟨h1, h2⟩ := hi i (by omega)
      obtain ⟨bs, hb⟩ := byt_cell h2
      exact ⟨bs, h1, hb⟩)
    subst hps
    refine ⟨pss, rfl, some x, cap, rfl, by omega, fun hpos => ?_⟩
    obtain ⟨b, off, spot⟩ := x
    have c0 := (hp 0 hpos).1
    have hspot : spot = none := by simpa [Addr.add] using World.cell?_spot c0
    subst hspot
    have hlt : b < W.heap.size := World.block_lt_of_cell? W _ (by simpa [Addr.add] using c0)
    exact ⟨b, off, rfl, hlt, hlt, fun j hj => ⟨V j, by have := (hp j hj).1; rwa [add_plain] at this, (hp j hj).2⟩⟩
end Go.Proofs.Ytbhdnhnkiibaaaa
