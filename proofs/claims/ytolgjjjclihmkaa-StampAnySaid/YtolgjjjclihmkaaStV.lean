/- The cells of stamps that came in, and the row of their type. No statement of the seat is proved here. -/
import Derived.Test.YtolgjjjclihmkaaStL
import Derived.Test.YtolgjjjclihmkaaOpenU
namespace Go.Proofs.Ytolgjjjclihmkaa
open Go.RowKit
set_option maxRecDepth 100000

theorem st_info : (Try.prog.info? 27).map (fun i => (i.zero, i.size, i.bytes)) = some (some (.agg #[.int .i64 0, .int .i64 0]), 2, 16) := by kernel_rfl
theorem stCells_flat : ∀ l : List St, l.flatMap stRow = stCells l
  | [] => rfl
  | x :: l => by rw [List.flatMap_cons, stCells_flat l]; rfl
theorem stCells_one (l : List St) : ∀ u ∈ stCells l, u.oneCell' = true := by
  induction l with
  | nil => simp [stCells]
  | cons x l ih =>
    intro u hu
    simp only [stCells, List.mem_cons] at hu
    rcases hu with rfl | rfl | hu
    · rfl
    · rfl
    · exact ih u hu
/-- The two cells of a stamp in a slice that came in. -/
theorem stamp_at {W w : World} {b off : Nat} {l : List St} (hc : ∀ j u, (l.flatMap stRow)[j]? = some u → W.cell? ⟨b, off + j, none⟩ = some u) (o : Only none_ W w) (hb : b < W.heap.size) {k : Nat} {a : St} (ha : l[k]? = some a) :
    w.cell? ⟨b, off + k * 2, none⟩ = some (.int .i64 a.c) ∧ w.cell? ⟨b, off + k * 2 + 1, none⟩ = some (.int .i64 a.s) := by
  have h := flat_at stRow stRow_length l k a ha
  have c0 := (o.cell (p := ⟨b, off + (k * 2 + 0), none⟩) hb (fun h => h)).trans (hc _ _ ((h 0 (by omega)).trans rfl))
  have c1 := (o.cell (p := ⟨b, off + (k * 2 + 1), none⟩) hb (fun h => h)).trans (hc _ _ ((h 1 (by omega)).trans rfl))
  exact ⟨c0, c1⟩

end Go.Proofs.Ytolgjjjclihmkaa
