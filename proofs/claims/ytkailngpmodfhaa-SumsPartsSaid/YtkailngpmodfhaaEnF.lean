/- What package entry's Newer, Alike and Mark do, and the document's. No statement of the seat is proved here. -/
import Derived.Test.YtkailngpmodfhaaEnB
import Derived.Test.YtkailngpmodfhaaStE
import Derived.Test.YtkailngpmodfhaaStd
namespace Go.Proofs.Ytkailngpmodfhaa
open Go.RowKit
set_option maxRecDepth 100000

/-- Two blocks whole; all else as in B. -/
structure Ob (B : World) (g h : Nat) (t u : TypeId) (cs ds : Array Value) (w : World) : Prop where
  x : Blk w g t cs
  y : Blk w h u ds
  ho : Only none_ B w
theorem Ob.keep {B w w' : World} {g h : Nat} {t u : TypeId} {cs ds : Array Value} (b : Ob B g h t u cs ds w) (o : Only none_ w w') : Ob B g h t u cs ds w' := ⟨b.x.only o (fun h => h), b.y.only o (fun h => h), b.ho.trans o⟩

def enShort (e : En) : Bool := decide (e.k.size ≤ 300) && decide (e.v.size ≤ 300)
theorem rf_short (e : En) (w : World) :
    Calls Try.prog 37 #[.agg #[.string e.k, .string e.v, .bool e.d, .int .i64 e.s.c, .int .i64 e.s.s, .int .i64 e.a.c, .int .i64 e.a.s, .int .i64 e.p, .int .i64 e.g]] w fun E w' => E = .returned (.bool (enShort e)) ∧ Only none_ w w' := by
  by_cases h1 : (e.k.size : Int) ≤ 300
  · by_cases h2 : (e.v.size : Int) ≤ 300
    · have H : Hid (enShort e = true) := by simp [Hid, enShort]; omega
      go_enter Try.func37, Try.ntmps37
      go_wp2
      go_ret
      rw [H.out]
      exact ⟨rfl, (Only.refl none_ w).alloc _⟩
    · have H : Hid (enShort e = false) := by simp [Hid, enShort]; omega
      go_enter Try.func37, Try.ntmps37
      go_wp2
      go_ret
      rw [H.out]
      exact ⟨rfl, (Only.refl none_ w).alloc _⟩
  · have H : Hid (enShort e = false) := by simp [Hid, enShort]; omega
    go_enter Try.func37, Try.ntmps37
    go_wp2
    go_ret
    rw [H.out]
    exact ⟨rfl, (Only.refl none_ w).alloc _⟩

end Go.Proofs.Ytkailngpmodfhaa
