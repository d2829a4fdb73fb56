/- How a pair of slices of bytes, and a slice of slices of bytes, that came in read. No statement of the seat is proved here. -/
import Derived.Test.YtimhedjbpjakkaaOpenR
import Derived.Test.YtimhedjbpjakkaaCrcL
namespace Go.Proofs.Ytimhedjbpjakkaa
open Go.ChangeShapes Go.WideShapes Go.RowKit

theorem pair_arg {H : Type} {enc : TypeId × Value → H} {W : World} {cs : Array Value} {d : DataW H} {p : List MemPlace} (hs : cs.size = Try.prog.cellsOf 44) (h : DataW.Trod enc Try.prog W 0 (fun _ => true) true 44 (.agg cs) d p) :
    ∃ x y xs ys, cs = #[x, y] ∧ Byt W (fun b => b < W.heap.size) x xs ∧ Byt W (fun b => b < W.heap.size) y ys := by
  have c1 : Try.prog.cellsOf 22 = 1 := by kernel_rfl
  have c2 : Try.prog.cellsOf 44 = 2 := by kernel_rfl
  rw [c2] at hs
  obtain ⟨x, y, rfl⟩ : ∃ x y, cs = #[x, y] := by
    rcases cs with ⟨l⟩
    rcases l with _ | ⟨x, _ | ⟨y, _ | ⟨z, l⟩⟩⟩
    all_goals simp at hs
    exact ⟨x, y, rfl⟩
  obtain ⟨fuel, hf⟩ := h
  obtain ⟨zs, m, _, _, _, hl, hi⟩ := DataW.trod_array Try.underlying44 hf
  have h0 := hi 0 (by omega)
  have h1 := hi 1 (by omega)
  rw [c1] at h0 h1
  simp only [Value.cells, List.drop_zero, Nat.zero_mul, Nat.one_mul, List.drop_succ_cons, List.take_succ_cons, List.take_zero] at h0 h1
  rw [List.getElem?_eq_getElem (by omega)] at h0 h1
  obtain ⟨xs, hx⟩ := byt_cell h0
  obtain ⟨ys, hy⟩ := byt_cell h1
  exact ⟨x, y, xs, ys, rfl, hx, hy⟩

theorem rows_arg {H : Type} {enc : TypeId × Value → H} {W : World} {a : Option Addr} {len cap : Nat} {d : DataW H} {p : List MemPlace} (h : DataW.Trod enc Try.prog W 0 (fun _ => true) true 51 (.slice a len cap) d p) :
    ∃ pss, len = pss.length ∧ Rows_ W (fun b => b < W.heap.size) (.slice a len cap) pss := by
  have c1 : Try.prog.cellsOf 22 = 1 := by kernel_rfl
  obtain ⟨fuel, hf⟩ := h
  rcases Go.Deep.open_slice1 Try.underlying51 c1 hf with ⟨hcs, _⟩ | ⟨x, l, c, m, n, V, D, Pl, hcs, _, hl, hm, hmm, _, hi⟩
  · simp [Value.cells] at hcs
    obtain ⟨rfl, rfl, rfl⟩ := hcs
    exact ⟨[], rfl, Rows_.nil _ _⟩
  · simp [Value.cells] at hcs
    obtain ⟨rfl, rfl, rfl⟩ := hcs
    have hlm : len ≤ m := by rw [hmm]; split <;> omega
    obtain ⟨pss, hps, hp⟩ := list_of len (fun i bs => W.cell? (x.add i) = some (V i) ∧ Byt W (fun b => b < W.heap.size) (V i) bs) (fun i hil => by
      obtain ⟨h1, h2⟩ := hi i (by omega)
      obtain ⟨bs, hb⟩ := byt_cell h2
      exact ⟨bs, h1, hb⟩)
    subst hps
    refine ⟨pss, rfl, some x, cap, rfl, by omega, fun hpos => ?_⟩
    obtain ⟨b, off, spot⟩ := x
    have c0 := (hp 0 hpos).1
    have hspot : spot = none := by simpa [Addr.add] using World.cell?_spot c0
    subst hspot
    have hlt : b < W.heap.size := World.block_lt_of_cell? W _ (by simpa [Addr.add] using c0)
    exact ⟨b, off, rfl, hlt, hlt, fun j hj => ⟨V j, by have := (hp j hj).1; rwa [add_plain] at this, (hp j hj).2⟩⟩
end Go.Proofs.Ytimhedjbpjakkaa
