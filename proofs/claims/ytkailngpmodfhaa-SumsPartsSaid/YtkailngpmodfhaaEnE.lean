/- Entries turned to the program's and back. No statement of the seat is proved here. -/
import Derived.Test.YtkailngpmodfhaaEnA
import Derived.Test.YtkailngpmodfhaaStE
import Derived.Test.YtkailngpmodfhaaStd
namespace Go.Proofs.Ytkailngpmodfhaa
open Go.RowKit
set_option maxRecDepth 100000

/-- The nine cells of an entry. -/
abbrev Nine (w : World) (g : Nat) (a0 a1 a2 a3 a4 a5 a6 a7 a8 : Value) : Prop := w.cell? ⟨g, 0, none⟩ = some a0 ∧ w.cell? ⟨g, 1, none⟩ = some a1 ∧ w.cell? ⟨g, 2, none⟩ = some a2 ∧ w.cell? ⟨g, 3, none⟩ = some a3 ∧ w.cell? ⟨g, 4, none⟩ = some a4 ∧ w.cell? ⟨g, 5, none⟩ = some a5 ∧ w.cell? ⟨g, 6, none⟩ = some a6 ∧ w.cell? ⟨g, 7, none⟩ = some a7 ∧ w.cell? ⟨g, 8, none⟩ = some a8
theorem nine_of {w : World} {g : Nat} {t : TypeId} {a0 a1 a2 a3 a4 a5 a6 a7 a8 : Value} (h : Blk w g t #[a0, a1, a2, a3, a4, a5, a6, a7, a8]) : Nine w g a0 a1 a2 a3 a4 a5 a6 a7 a8 :=
  ⟨h.cell_ rfl, h.cell_ rfl, h.cell_ rfl, h.cell_ rfl, h.cell_ rfl, h.cell_ rfl, h.cell_ rfl, h.cell_ rfl, h.cell_ rfl⟩
theorem frozen9 {w : World} {g : Nat} {t : TypeId} {cs : Array Value} (h : Blk w g t cs) : w.frozen? ⟨g, 0, none⟩ = false ∧ w.frozen? ⟨g, 1, none⟩ = false ∧ w.frozen? ⟨g, 2, none⟩ = false ∧ w.frozen? ⟨g, 3, none⟩ = false ∧ w.frozen? ⟨g, 4, none⟩ = false ∧ w.frozen? ⟨g, 5, none⟩ = false ∧ w.frozen? ⟨g, 6, none⟩ = false ∧ w.frozen? ⟨g, 7, none⟩ = false ∧ w.frozen? ⟨g, 8, none⟩ = false :=
  ⟨h.frozen 0, h.frozen 1, h.frozen 2, h.frozen 3, h.frozen 4, h.frozen 5, h.frozen 6, h.frozen 7, h.frozen 8⟩
/-- Nine stores. -/
abbrev fill9 (w : World) (h : Nat) (a0 a1 a2 a3 a4 a5 a6 a7 a8 : Value) : World := ((((((((w.setCell ⟨h, 0, none⟩ a0).setCell ⟨h, 1, none⟩ a1).setCell ⟨h, 2, none⟩ a2).setCell ⟨h, 3, none⟩ a3).setCell ⟨h, 4, none⟩ a4).setCell ⟨h, 5, none⟩ a5).setCell ⟨h, 6, none⟩ a6).setCell ⟨h, 7, none⟩ a7).setCell ⟨h, 8, none⟩ a8
theorem fill9_blk {w : World} {g : Nat} {t : TypeId} {b0 b1 b2 b3 b4 b5 b6 b7 b8 : Value} (hb : Blk w g t #[b0, b1, b2, b3, b4, b5, b6, b7, b8]) (a0 a1 a2 a3 a4 a5 a6 a7 a8 : Value) : Blk (fill9 w g a0 a1 a2 a3 a4 a5 a6 a7 a8) g t #[a0, a1, a2, a3, a4, a5, a6, a7, a8] := by
  have := ((((((((hb.set_ 0 a0).set_ 1 a1).set_ 2 a2).set_ 3 a3).set_ 4 a4).set_ 5 a5).set_ 6 a6).set_ 7 a7).set_ 8 a8
  simpa using this
theorem fill9_far {w : World} {g h : Nat} {t : TypeId} {cs : Array Value} (hb : Blk w g t cs) (hn : g ≠ h) (a0 a1 a2 a3 a4 a5 a6 a7 a8 : Value) : Blk (fill9 w h a0 a1 a2 a3 a4 a5 a6 a7 a8) g t cs :=
  ((((((((hb.far hn a0).far hn a1).far hn a2).far hn a3).far hn a4).far hn a5).far hn a6).far hn a7).far hn a8
theorem fill9_only {w : World} {h : Nat} {S : Nat → Prop} {a : World} (o : Only S a w) (hg : S h ∨ a.heap.size ≤ h) (a0 a1 a2 a3 a4 a5 a6 a7 a8 : Value) : Only S a (fill9 w h a0 a1 a2 a3 a4 a5 a6 a7 a8) :=
  ((((((((o.setCell (p := ⟨h, 0, none⟩) hg a0).setCell (p := ⟨h, 1, none⟩) hg a1).setCell (p := ⟨h, 2, none⟩) hg a2).setCell (p := ⟨h, 3, none⟩) hg a3).setCell (p := ⟨h, 4, none⟩) hg a4).setCell (p := ⟨h, 5, none⟩) hg a5).setCell (p := ⟨h, 6, none⟩) hg a6).setCell (p := ⟨h, 7, none⟩) hg a7).setCell (p := ⟨h, 8, none⟩) hg a8

/-- An entry in block g, another one in block h; all else as in B. -/
structure Bo (B : World) (g h : Nat) (t u : TypeId) (e f : En) (w : World) : Prop where
  x : Blk w g t #[.string e.k, .string e.v, .bool e.d, .int .i64 e.s.c, .int .i64 e.s.s, .int .i64 e.a.c, .int .i64 e.a.s, .int .i64 e.p, .int .i64 e.g]
  y : Blk w h u #[.string f.k, .string f.v, .bool f.d, .int .i64 f.s.c, .int .i64 f.s.s, .int .i64 f.a.c, .int .i64 f.a.s, .int .i64 f.p, .int .i64 f.g]
  ho : Only none_ B w
section
variable {B w w' : World} {g h : Nat} {t u : TypeId} {e f : En}
theorem Bo.keep (b : Bo B g h t u e f w) (o : Only none_ w w') : Bo B g h t u e f w' := ⟨b.x.only o (fun h => h), b.y.only o (fun h => h), b.ho.trans o⟩
theorem Bo.cells (b : Bo B g h t u e f w) : Nine w g (.string e.k) (.string e.v) (.bool e.d) (.int .i64 e.s.c) (.int .i64 e.s.s) (.int .i64 e.a.c) (.int .i64 e.a.s) (.int .i64 e.p) (.int .i64 e.g) := nine_of b.x
theorem Bo.far (b : Bo B g h t u e f w) (hn : g ≠ h) (a0 a1 a2 a3 a4 a5 a6 a7 a8 : Value) : Nine (fill9 w h a0 a1 a2 a3 a4 a5 a6 a7 a8).drew g (.string e.k) (.string e.v) (.bool e.d) (.int .i64 e.s.c) (.int .i64 e.s.s) (.int .i64 e.a.c) (.int .i64 e.a.s) (.int .i64 e.p) (.int .i64 e.g) := nine_of (fill9_far b.x hn a0 a1 a2 a3 a4 a5 a6 a7 a8).drew
end

end Go.Proofs.Ytkailngpmodfhaa
