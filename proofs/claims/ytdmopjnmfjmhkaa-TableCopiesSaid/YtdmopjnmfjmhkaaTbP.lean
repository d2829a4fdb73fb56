/- The call of TablePlays. The statement itself is proved in another text. -/
import Derived.Test.YtdmopjnmfjmhkaaTbO
import Derived.Deep.RegionHeld3
namespace Go.Proofs.Ytdmopjnmfjmhkaa
open Go.RowKit
set_option maxRecDepth 100000
set_option linter.all false

/-- A table, and two boxes: the document's one, and an act. -/
structure Py (W : World) (g : Nat) (room : Int) (l : List (Pr Int)) (v : Value) (h7 h10 : Nat) (m : Array Value) (a : Ta) (w : World) : Prop where
  t : Tb W g room l v w
  b7 : Blk w h7 31 m
  b10 : Blk w h10 35 #[.int .i64 a.kind, .int .i64 a.v, .string a.key, .string a.fr, .int .i64 a.n]
theorem Py.keep {W w w' : World} {g : Nat} {room : Int} {l : List (Pr Int)} {v : Value} {h7 h10 : Nat} {m : Array Value} {a : Ta} (k : Py W g room l v h7 h10 m a w) (o : Only none_ w w') : Py W g room l v h7 h10 m a w' :=
  ⟨k.t.keep o, k.b7.only o (fun h => h), k.b10.only o (fun h => h)⟩
abbrev Py7 (w : World) (h7 h10 : Nat) (room : Int) (A : Option Addr) (L c : Nat) (a : Ta) : Prop :=
  (w.cell? ⟨h7, 0, none⟩ = some (.int .i64 room) ∧ w.cell? ⟨h7, 1, none⟩ = some (.slice A L c)) ∧ w.cell? ⟨h10, 0, none⟩ = some (.int .i64 a.kind) ∧ w.cell? ⟨h10, 1, none⟩ = some (.int .i64 a.v) ∧ w.cell? ⟨h10, 2, none⟩ = some (.string a.key) ∧ w.cell? ⟨h10, 3, none⟩ = some (.string a.fr) ∧ w.cell? ⟨h10, 4, none⟩ = some (.int .i64 a.n)
theorem Py.cells {W w : World} {g : Nat} {room : Int} {l : List (Pr Int)} {v : Value} {h7 h10 : Nat} {A : Option Addr} {L c : Nat} {a : Ta} (k : Py W g room l v h7 h10 #[.int .i64 room, .slice A L c] a w) : Py7 w h7 h10 room A L c a :=
  ⟨⟨Blk.cell_ (t := 31) k.b7 rfl, Blk.cell_ (t := 31) k.b7 rfl⟩, Blk.cell_ (t := 35) k.b10 rfl, Blk.cell_ (t := 35) k.b10 rfl, Blk.cell_ (t := 35) k.b10 rfl, Blk.cell_ (t := 35) k.b10 rfl, Blk.cell_ (t := 35) k.b10 rfl⟩
theorem has_lt {l : List (Pr Int)} {x : ByteArray} (hr : Ris l) (h : has l x = true) : rnk l x < l.length := by
  have := has_at hr x
  rw [h] at this
  have := this.symm
  simp only [Bool.and_eq_true, decide_eq_true_eq] at this
  exact this.1

end Go.Proofs.Ytdmopjnmfjmhkaa
