/- Two stamps in two blocks; the cells of an act. No statement of the seat is proved here. -/
import Derived.Test.YtolgjjjclihmkaaOpn
import Derived.Test.YtolgjjjclihmkaaOpenV
namespace Go.Proofs.Ytolgjjjclihmkaa
open Go.RowKit
set_option maxRecDepth 100000

/-- Two stamps in the blocks g and h, all else as in B. -/
structure Prs (B : World) (t u : TypeId) (g h : Nat) (a b : St) (w : World) : Prop where
  x : Blk w g t #[.int .i64 a.c, .int .i64 a.s]
  y : Blk w h u #[.int .i64 b.c, .int .i64 b.s]
  ho : Only none_ B w
section
variable {B w w' : World} {t u : TypeId} {g h : Nat} {a b : St}
theorem Prs.keep (k : Prs B t u g h a b w) (o : Only none_ w w') : Prs B t u g h a b w' := ⟨Blk.only (t := t) k.x o (fun h => h), Blk.only (t := u) k.y o (fun h => h), k.ho.trans o⟩
theorem Prs.cells (k : Prs B t u g h a b w) : (w.cell? ⟨g, 0, none⟩ = some (.int .i64 a.c) ∧ w.cell? ⟨g, 1, none⟩ = some (.int .i64 a.s)) ∧ w.cell? ⟨h, 0, none⟩ = some (.int .i64 b.c) ∧ w.cell? ⟨h, 1, none⟩ = some (.int .i64 b.s) := ⟨⟨Blk.cell_ (t := t) k.x rfl, Blk.cell_ (t := t) k.x rfl⟩, Blk.cell_ (t := u) k.y rfl, Blk.cell_ (t := u) k.y rfl⟩
end

/-- The three cells of an act. -/
theorem act_at {W w : World} {b off : Nat} {l : List Ac} (hc : ∀ j u, (l.flatMap acRow)[j]? = some u → W.cell? ⟨b, off + j, none⟩ = some u) (o : Only none_ W w) (hb : b < W.heap.size) {k : Nat} {a : Ac} (ha : l[k]? = some a) :
    w.cell? ⟨b, off + k * 3, none⟩ = some (.bool a.next) ∧ w.cell? ⟨b, off + k * 3 + 1, none⟩ = some (.int .i64 a.see.c) ∧ w.cell? ⟨b, off + k * 3 + 2, none⟩ = some (.int .i64 a.see.s) := by
  have h := flat_at acRow acRow_length l k a ha
  have c0 := (o.cell (p := ⟨b, off + (k * 3 + 0), none⟩) hb (fun h => h)).trans (hc _ _ ((h 0 (by omega)).trans rfl))
  have c1 := (o.cell (p := ⟨b, off + (k * 3 + 1), none⟩) hb (fun h => h)).trans (hc _ _ ((h 1 (by omega)).trans rfl))
  have c2 := (o.cell (p := ⟨b, off + (k * 3 + 2), none⟩) hb (fun h => h)).trans (hc _ _ ((h 2 (by omega)).trans rfl))
  exact ⟨c0, c1, c2⟩

end Go.Proofs.Ytolgjjjclihmkaa
