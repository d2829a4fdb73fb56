/- How twenty numbers that came in are opened. No statement of the seat is proved here. -/
import Derived.Test.YthhfpjecgdedgaaOpn
import Derived.Test.YthhfpjecgdedgaaSuB
namespace Go.Proofs.Ythhfpjecgdedgaa
open Go.Joins Go.ChangeShapes Go.WideShapes Go.RowKit Go.Deep
set_option maxRecDepth 100000
set_option linter.all false

theorem cfg_arg {H : Type} {enc : TypeId × Value → H} {W : World} {cs : Array Value} {d : DataW H} {p : List MemPlace} (hs : cs.size = Try.prog.cellsOf 23) (h : DataW.Trod enc Try.prog W 0 (fun _ => true) true 23 (.agg cs) d p) :
    ∃ c : Nat → Int, cs = #[.int .i64 (c 0), .int .i64 (c 1), .int .i64 (c 2), .int .i64 (c 3), .int .i64 (c 4), .int .i64 (c 5), .int .i64 (c 6), .int .i64 (c 7), .int .i64 (c 8), .int .i64 (c 9), .int .i64 (c 10), .int .i64 (c 11), .int .i64 (c 12), .int .i64 (c 13), .int .i64 (c 14), .int .i64 (c 15), .int .i64 (c 16), .int .i64 (c 17), .int .i64 (c 18), .int .i64 (c 19)] := by
  have c20 : Try.prog.cellsOf 23 = 20 := by kernel_rfl
  have c1 : Try.prog.cellsOf 3 = 1 := by kernel_rfl
  rw [c20] at hs
  obtain ⟨fuel, hf⟩ := h
  obtain ⟨zs, m, _, _, _, hl, hi⟩ := DataW.trod_array Try.underlying23 hf
  rw [c1] at hi
  obtain ⟨l, hln, hp⟩ := list_of 20 (fun i x => cs[i]? = some (Value.int .i64 x)) (fun i hil => by
    have h1 := hi i hil
    obtain ⟨y, hy⟩ : ∃ y, zs[i]? = some y := ⟨zs[i]'(by omega), List.getElem?_eq_getElem _⟩
    rw [hy] at h1
    obtain ⟨n, hn, _⟩ := DataW.trod_int Try.underlying3 h1
    refine ⟨n, ?_⟩
    simp only [Value.cells, Nat.mul_one] at hn
    have h2 : (cs.toList.drop i)[0]? = some (Value.int .i64 n) := by
      have : ((cs.toList.drop i).take 1)[0]? = some (Value.int .i64 n) := by rw [hn]; rfl
      simpa using this
    simpa using h2)
  refine ⟨fun i => l.getD i 0, ?_⟩
  apply Array.ext_getElem?
  intro i
  by_cases hil : i < 20
  · have h1 := hp i (by omega)
    have h2 := cf_at (fun i => l.getD i 0) i hil
    have h3 : l.getD i 0 = l[i]'(by omega) := by simp [List.getD, List.getElem?_eq_getElem (by omega : i < l.length)]
    rw [h1, h2, h3]
  · rw [Array.getElem?_eq_none (by omega), Array.getElem?_eq_none (by simp; omega)]
end Go.Proofs.Ythhfpjecgdedgaa
