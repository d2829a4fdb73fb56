/- What the small calls of package octets do: Fail and Err of a fault, Err of a writer, isWidth. No statement of the seat is proved here. -/
import Derived.Test.YthhfpjecgdedgaaChecked
import Derived.Test.YthhfpjecgdedgaaByt
namespace Go.Proofs.Ythhfpjecgdedgaa
open Go.RowKit
set_option linter.all false

/-- The first error: later ones don't take its place. -/
def first_ (c e : Int) : Int := if c = 0 then e else c

theorem fault_err (g : Nat) (t : TypeId) (cs : Array Value) (c : Int) (w : World) (h : Blk w g t cs) (h0 : cs[0]? = some (.int .i64 c)) :
    Calls Try.prog 52 #[.pointer (some ⟨g, 0, none⟩)] w fun e w' => e = .returned (.int .i64 c) ∧ w = w' := by
  have hc := h.cell_ h0
  clear h h0
  go_enter Try.func52, Try.ntmps52
  go_wp2
  go_ret
  exact ⟨rfl, rfl⟩

theorem fault_fail (g : Nat) (t : TypeId) (cs : Array Value) (c k : Int) (w : World) (h : Blk w g t cs) (h0 : cs[0]? = some (.int .i64 c)) :
    Calls Try.prog 46 #[.pointer (some ⟨g, 0, none⟩), .int .i64 k] w fun e w' => e = .returned (.tuple #[]) ∧ Blk w' g t (cs.setIfInBounds 0 (.int .i64 (first_ c k))) ∧ Only (one g) w w' := by
  have hc := h.cell_ h0
  have hf := h.frozen 0
  have hB := Lib.hid h
  have hs : Hid (cs.setIfInBounds 0 (.int .i64 c) = cs) := by
    apply Array.ext_getElem?
    intro i
    rw [Array.getElem?_setIfInBounds]
    split
    · next hi => subst hi; split
                 · exact h0.symm
                 · next hi => rw [Array.getElem?_eq_none (by omega)]
    · rfl
  clear h h0
  by_cases h1 : c = 0
  · have h2 : (c == 0) = true := by simp [h1]
    have h3 : Hid (first_ c k = k) := by simp [Hid, first_, h1]
    clear h1
    go_enter Try.func46, Try.ntmps46
    go_wp2
    go_end0
    refine ⟨rfl, ?_, (Only.refl (one g) w).setCell (.inl (show one g g from rfl)) _⟩
    rw [h3.out]
    exact hB.out.set_ 0 _
  · have h2 : (c == 0) = false := by simp [h1]
    have h3 : Hid (first_ c k = c) := by simp [Hid, first_, h1]
    clear h1
    go_enter Try.func46, Try.ntmps46
    go_wp2
    go_end0
    refine ⟨rfl, ?_, Only.refl _ _⟩
    rw [h3.out, hs.out]
    exact hB.out

def isW (n : Int) : Bool := decide (1 ≤ n ∧ n ≤ 8)
theorem isWidth_any (n : Int) (w : World) :
    Calls Try.prog 45 #[.int .i64 n] w fun e w' => e = .returned (.bool (isW n)) ∧ w = w' := by
  by_cases h1 : 1 ≤ n
  · by_cases h2 : n ≤ 8
    · have H : Hid (isW n = true) := by simp [Hid, isW, h1, h2]
      go_enter Try.func45, Try.ntmps45
      go_wp2
      go_ret
      rw [H.out]
      exact ⟨rfl, rfl⟩
    · have H : Hid (isW n = false) := by simp [Hid, isW, h2]
      go_enter Try.func45, Try.ntmps45
      go_wp2
      go_ret
      rw [H.out]
      exact ⟨rfl, rfl⟩
  · have H : Hid (isW n = false) := by simp [Hid, isW, h1]
    go_enter Try.func45, Try.ntmps45
    go_wp2
    go_ret
    rw [H.out]
    exact ⟨rfl, rfl⟩
end Go.Proofs.Ythhfpjecgdedgaa
