/- Slices of slices of bytes that are only read; the cells of a new table of sums. No statement of the seat is proved here. -/
import Derived.Test.YtbhdnhnkiibaaaaCrcR
import Derived.Test.YtbhdnhnkiibaaaaRws
namespace Go.Proofs.Ytbhdnhnkiibaaaa
open Go.RowKit
attribute [local go_sem ↓] Go.wp_at_zero Go.wp_at_succ

theorem rows_three {w : World} {S : Nat → Prop} {x y z : Value} {bs cs ds : List UInt8} {t : TypeId} (h : Byt w S x bs) (h' : Byt w S y cs) (h'' : Byt w S z ds) (hS : S w.heap.size) (g : Nat) (hg : g = w.heap.size) :
    Rows_ (w.alloc (.cells #[x, y, z] t)) S (.slice (some ⟨g, 0, none⟩) 3 3) [bs, cs, ds] := by
  subst hg
  refine ⟨_, 3, rfl, by simp [maxLen], fun _ => ⟨_, _, rfl, hS, by simp, fun j hj => ?_⟩⟩
  have hj0 : j = 0 ∨ j = 1 ∨ j = 2 := by simp at hj; omega
  rcases hj0 with rfl | rfl | rfl
  · exact ⟨x, by simp, h.alloc _⟩
  · exact ⟨y, by simp, h'.alloc _⟩
  · exact ⟨z, by simp, h''.alloc _⟩

theorem byt_lit (w : World) (bs : List UInt8) (hl : bs.length ≤ maxLen) (t : TypeId) (cs : Array Value) (hc : cs = (byts bs).toArray) (g : Nat) (hg : g = w.heap.size) (n : Nat) (hn : n = bs.length) : Byt (w.alloc (.cells cs t)) (fun k => k = g) (.slice (some ⟨g, 0, none⟩) n n) bs := by
  subst hc hg hn
  have h : (w.alloc (.cells (byts bs).toArray t)).ownsRow w.heap.size t 1 (.slice (some ⟨w.heap.size, 0, none⟩) bs.length bs.length) bs.length (byts bs) := World.ownsRow_lit (e := t) (size := 1) w (byts bs).toArray bs.length (Nat.le_refl _) hl (by simp)
  refine (Byt.of_own h).mono (fun b _ hb => ?_)
  simpa [Value.ownBlock] using hb.symm

/-- The cells of a new table. -/
noncomputable def tabZero : Array Value := match (Try.prog.info? 124).bind (·.zero) with
  | some (.agg cs) => cs
  | _ => #[]
theorem tab_zero : (Try.prog.info? 124).map (·.zero) = some (some (.agg tabZero)) := by kernel_rfl
theorem run_zero_tab (w : World) : (zeroValue 124).run Try.prog w = .ok (.agg tabZero) w := by
  have h := tab_zero
  cases hi : Try.prog.info? 124 with
  | none => rw [hi] at h; cases h
  | some i =>
    rw [hi] at h
    have hz : i.zero = some (.agg tabZero) := by simpa using h
    simp [zeroValue, typeInfo, hi, hz]
end Go.Proofs.Ytbhdnhnkiibaaaa
