/- Records as plain bytes: how one stands, how bytes are read, record by record. No statement of the seat is proved here. -/
import Derived.Test.YtbhdnhnkiibaaaaCrcX
import Derived.Test.YtbhdnhnkiibaaaaOctU
import Derived.Test.YtbhdnhnkiibaaaaOctN
namespace Go.Proofs.Ytbhdnhnkiibaaaa
open Go.RowKit
set_option maxRecDepth 100000

theorem two_put (n : Nat) (hn : n < 65536) (bs : List UInt8) : numCode 0 n 2 = 0 ∧ numBs 0 bs n 2 = bs ++ leBytes n 2 := by
  have h : n / 65536 = 0 := by omega
  constructor
  · simp [numCode, isW, h]
  · simp [numBs, isW, putS, h]
/-- What is wrong with a record of so many bytes. -/
def recCode (n : Nat) : Int := if n = 0 then 1 else if 512 < n then 7 else 0
/-- What stands ahead of a record of so many bytes; how one stands. -/
def hdB (n : Nat) : List UInt8 := crcMark (leBytes n 2)
def recB (bs : List UInt8) : List UInt8 := hdB bs.length ++ crcMark bs
theorem mark_len7 (bs : List UInt8) : (crcMark bs).length = bs.length + 4 := by simp [crcMark, lowB]
theorem hdB_len (n : Nat) : (hdB n).length = 6 := by rw [hdB, mark_len7, leBytes_length]
theorem recB_len (bs : List UInt8) : (recB bs).length = bs.length + 10 := by rw [recB, List.length_append, hdB_len, mark_len7]; omega

/-- What the first six bytes say. -/
def jnN (bs : List UInt8) : Nat := leVal (bs.take 2)
/-- How a reading goes on: 0, there is a record; 1, the end; 2, rot. -/
def jnK (bs : List UInt8) : Nat :=
  if bs.length < 6 then 1
  else if crcHolds (bs.take 6) = false ∨ jnN bs < 1 ∨ 512 < jnN bs then 2
  else if bs.length < 10 + jnN bs then 1
  else if crcHolds ((bs.drop 6).take (jnN bs + 4)) = false then 2
  else 0
/-- The record that is read. -/
def jnB (bs : List UInt8) : List UInt8 := (bs.drop 6).take (jnN bs)
/-- Reading, with what was read and how many bytes it had. -/
def jnR : Nat → List (List UInt8) → Nat → List UInt8 → List (List UInt8) × Nat × Int
  | 0, acc, at_, _ => (acc, at_, 0)
  | f + 1, acc, at_, bs => if jnK bs = 2 then ([], 0, 12) else if jnK bs = 1 then (acc, at_, 0) else jnR f (acc ++ [jnB bs]) (at_ + (10 + jnN bs)) (bs.drop (10 + jnN bs))
def jnRead (bs : List UInt8) : List (List UInt8) × Nat × Int := jnR (bs.length + 1) [] 0 bs

theorem jnK_zero {bs : List UInt8} (h : jnK bs = 0) : 6 ≤ bs.length ∧ crcHolds (bs.take 6) = true ∧ 1 ≤ jnN bs ∧ jnN bs ≤ 512 ∧ 10 + jnN bs ≤ bs.length ∧ crcHolds ((bs.drop 6).take (jnN bs + 4)) = true := by
  unfold jnK at h
  split at h
  · cases h
  · next h1 =>
    split at h
    · cases h
    · next h2 =>
      split at h
      · cases h
      · next h3 =>
        split at h
        · cases h
        · next h4 =>
          refine ⟨by omega, ?_, by omega, by omega, by omega, by simpa using h4⟩
          cases hc : crcHolds (bs.take 6)
          · exact absurd (.inl hc) h2
          · rfl
theorem jnK_cases (bs : List UInt8) : jnK bs = 0 ∨ jnK bs = 1 ∨ jnK bs = 2 := by
  unfold jnK
  split
  · exact .inr (.inl rfl)
  · split
    · exact .inr (.inr rfl)
    · split
      · exact .inr (.inl rfl)
      · split
        · exact .inr (.inr rfl)
        · exact .inl rfl
/-- Enough rounds are as good as more. -/
theorem jnR_step (f : Nat) (acc : List (List UInt8)) (n : Nat) (bs : List UInt8) : jnR (f + 1) acc n bs = if jnK bs = 2 then ([], 0, 12) else if jnK bs = 1 then (acc, n, 0) else jnR f (acc ++ [jnB bs]) (n + (10 + jnN bs)) (bs.drop (10 + jnN bs)) := rfl
theorem jnR_more : ∀ (f k : Nat) (acc : List (List UInt8)) (n : Nat) (bs : List UInt8), bs.length < f → jnR (f + k) acc n bs = jnR f acc n bs
  | 0, _, _, _, _, h => by omega
  | f + 1, k, acc, n, bs, h => by
    rw [show f + 1 + k = (f + k) + 1 by omega, jnR_step, jnR_step]
    rcases jnK_cases bs with h0 | h1 | h2
    · rw [h0]
      have hz := jnK_zero h0
      simp only [show ¬ ((0 : Nat) = 2) by omega, show ¬ ((0 : Nat) = 1) by omega, if_false]
      exact jnR_more f k _ _ _ (by rw [List.length_drop]; omega)
    · rw [h1]; simp
    · rw [h2]; simp
end Go.Proofs.Ytbhdnhnkiibaaaa
