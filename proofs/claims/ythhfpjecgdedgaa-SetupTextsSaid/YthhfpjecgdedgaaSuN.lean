/- A configuration's bytes, and the numbers of bytes, as plain values. No statement of the seat is proved here. -/
import Derived.Test.YthhfpjecgdedgaaSuH
import Derived.Test.YthhfpjecgdedgaaOctG
import Derived.Test.YthhfpjecgdedgaaOctU
namespace Go.Proofs.Ythhfpjecgdedgaa
open Go.RowKit
set_option maxRecDepth 100000
set_option linter.all false

def suBytes (c : Nat → Int) (n : Nat) : List UInt8 := (List.range n).flatMap fun i => leBytes (c i).toNat 4
theorem suBytes_succ (c : Nat → Int) (n : Nat) : suBytes c (n + 1) = suBytes c n ++ leBytes (c n).toNat 4 := by
  simp [suBytes, List.range_succ, List.flatMap_append]
theorem suBytes_len (c : Nat → Int) : ∀ n, (suBytes c n).length = n * 4
  | 0 => rfl
  | n + 1 => by rw [suBytes_succ, List.length_append, suBytes_len c n, leBytes_length]; omega
/-- The numbers of one that may be go into four bytes. -/
theorem su_nat {c : Nat → Int} (hr : suRight c = true) (k : Nat) (hk : k < 20) : 0 ≤ c k ∧ c k ≤ 2147483647 := by
  have h := su_bounds hr
  obtain ⟨h0, h1, h2, h3, h4, h5, h6, h7, h8, h9, h10, h11, h12, h13, h14, h15, h16, h17, h18, h19⟩ := h
  rcases (by omega : k = 0 ∨ k = 1 ∨ k = 2 ∨ k = 3 ∨ k = 4 ∨ k = 5 ∨ k = 6 ∨ k = 7 ∨ k = 8 ∨ k = 9 ∨ k = 10 ∨ k = 11 ∨ k = 12 ∨ k = 13 ∨ k = 14 ∨ k = 15 ∨ k = 16 ∨ k = 17 ∨ k = 18 ∨ k = 19) with rfl | rfl | rfl | rfl | rfl | rfl | rfl | rfl | rfl | rfl | rfl | rfl | rfl | rfl | rfl | rfl | rfl | rfl | rfl | rfl
  all_goals omega

/-- The first k numbers of bytes: the error, what is left, the numbers. -/
def nuR (bs : List UInt8) : Nat → Int × List UInt8 × (Nat → Int)
  | 0 => (0, bs, fun _ => 0)
  | k + 1 => ((numR (nuR bs k).1 (nuR bs k).2.1 4).1, (numR (nuR bs k).1 (nuR bs k).2.1 4).2.1, up (nuR bs k).2.2 k ((numR (nuR bs k).1 (nuR bs k).2.1 4).2.2 : Int))
theorem numR_le (code : Int) (bs : List UInt8) : (numR code bs 4).2.1.length ≤ bs.length := by
  unfold numR
  split
  · split
    · simp
    · simp
  · simp
theorem numR_lt (code : Int) (bs : List UInt8) : (numR code bs 4).2.2 < 4294967296 := by
  unfold numR
  split
  · split
    · next h =>
      show leVal (bs.take 4) < 4294967296
      have h1 := leVal_lt (bs.take 4)
      have h2 : 256 ^ (bs.take 4).length ≤ 256 ^ 4 := Nat.pow_le_pow_right (by omega) (by simp; omega)
      omega
    · show (0 : Nat) < 4294967296; omega
  · show (0 : Nat) < 4294967296; omega
theorem nuR_le (bs : List UInt8) : ∀ k, (nuR bs k).2.1.length ≤ bs.length
  | 0 => Nat.le_refl _
  | k + 1 => Nat.le_trans (numR_le _ _) (nuR_le bs k)
def sdC (bs : List UInt8) : Int := doneCode (nuR bs 20).1 (nuR bs 20).2.1
def sdCode (bs : List UInt8) : Int := if sdC bs = 0 then suCode (nuR bs 20).2.2 else sdC bs
def sdVal (bs : List UInt8) : Nat → Int := if sdCode bs = 0 then (nuR bs 20).2.2 else fun _ => 0
end Go.Proofs.Ythhfpjecgdedgaa
