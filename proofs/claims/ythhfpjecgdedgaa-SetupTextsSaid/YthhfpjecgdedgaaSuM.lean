/- A configuration's numbers as plain values: bounds, the first number that may not be, rounds. No statement of the seat is proved here. -/
import Derived.Test.YthhfpjecgdedgaaBase
namespace Go.Proofs.Ythhfpjecgdedgaa
open Go.RowKit
set_option maxRecDepth 100000
set_option linter.all false

/-- From where, up to where a number may be. -/
def suLo (c : Nat → Int) (i : Nat) : Int :=
  if i = 0 then 2 else if i = 3 then 0 else if i = 8 then 0 else if i = 16 then 0 else if i = 4 then c 3 else if i = 11 then c 10 else 1
def suHi (c : Nat → Int) (i : Nat) : Int :=
  if i = 0 then 12 else if i = 2 then c 0 else if i = 3 then 2147483647 else if i = 4 then (if c 3 = 0 then 0 else 2147483647) else if i = 5 then 6 else if i = 6 then 11
  else if i = 8 then c 7 else if i = 7 then 8 else if i = 9 then 8 else if i = 15 then 8 else if i = 17 then 8 else if i = 18 then 8 else if i = 11 then 64 else if i = 12 then 64
  else if i = 16 then 1 else if i = 19 then 512 else 16
def suBad (c : Nat → Int) (i : Nat) : Bool := decide (c i < suLo c i) || decide (suHi c i < c i)
def suAt (c : Nat → Int) : Option Nat := (List.range 20).find? (suBad c)
def suRight (c : Nat → Int) : Bool := (suAt c).isNone
def suPlace (c : Nat → Int) : Int := match suAt c with | none => 0 | some i => (i : Int)
def suCode (c : Nat → Int) : Int := match suAt c with | none => 0 | some _ => 14

theorem range_find {p : Nat → Bool} {n i : Nat} (hi : i < n) (hb : p i = true) (hl : ∀ j, j < i → p j = false) : (List.range n).find? p = some i := by
  rw [List.find?_eq_some_iff_append]
  refine ⟨hb, List.range i, List.range' (i + 1) (n - i - 1), ?_, fun a ha => by rw [hl a (List.mem_range.1 ha)]; rfl⟩
  have e : n = i + (1 + (n - i - 1)) := by omega
  conv => lhs; rw [e, List.range_eq_range', ← List.range'_append_1, ← List.range'_append_1]
  rw [List.range_eq_range']
  simp
theorem suAt_some {c : Nat → Int} {i : Nat} (hi : i < 20) (hb : suBad c i = true) (hl : ∀ j, j < i → suBad c j = false) : suAt c = some i := range_find hi hb hl
theorem suAt_none {c : Nat → Int} (h : ∀ j, j < 20 → suBad c j = false) : suAt c = none := by
  rw [suAt, List.find?_eq_none]
  intro x hx
  rw [h x (List.mem_range.1 hx)]
  decide
theorem suAt_lt {c : Nat → Int} {i : Nat} (h : suAt c = some i) : i < 20 ∧ suBad c i = true ∧ ∀ j, j < i → suBad c j = false := by
  have h1 := List.find?_some h
  have h2 : i < 20 := List.mem_range.1 (List.mem_of_find?_eq_some h)
  refine ⟨h2, h1, fun j hj => ?_⟩
  cases hb : suBad c j with
  | false => rfl
  | true =>
    obtain ⟨m, hm, hm2, hm3⟩ : ∃ m, m ≤ j ∧ suBad c m = true ∧ ∀ k, k < m → suBad c k = false := by
      clear h h1 h2 hj
      induction j using Nat.strongRecOn with
      | ind j ih =>
        by_cases hk : ∃ k, k < j ∧ suBad c k = true
        · obtain ⟨k, hk1, hk2⟩ := hk
          obtain ⟨m, h1, h2, h3⟩ := ih k hk1 hk2
          exact ⟨m, by omega, h2, h3⟩
        · refine ⟨j, Nat.le_refl _, hb, fun k hk1 => ?_⟩
          cases hkb : suBad c k with
          | false => rfl
          | true => exact absurd ⟨k, hk1, hkb⟩ hk
    have := suAt_some (by omega : m < 20) hm2 hm3
    rw [h] at this
    injection this with this
    omega
theorem suRight_of {c : Nat → Int} (h : suRight c = true) : ∀ i, i < 20 → suLo c i ≤ c i ∧ c i ≤ suHi c i := by
  intro i hi
  have hn : suAt c = none := by simpa [suRight] using h
  rw [suAt, List.find?_eq_none] at hn
  have := hn i (List.mem_range.2 hi)
  simp [suBad] at this
  omega
theorem suRight_to {c : Nat → Int} (h : ∀ i, i < 20 → suLo c i ≤ c i ∧ c i ≤ suHi c i) : suRight c = true := by
  rw [suRight, suAt_none]
  · rfl
  · intro j hj
    have := h j hj
    simp [suBad]
    omega
theorem suCode_iff (c : Nat → Int) : (suCode c = 0 ↔ suRight c = true) ∧ (suRight c = true → suPlace c = 0) ∧ (suRight c = false → suCode c = 14) := by
  unfold suCode suRight suPlace
  cases suAt c <;> simp

/-- What a configuration that may be has. -/
theorem su_bounds {c : Nat → Int} (h : suRight c = true) : (2 ≤ c 0 ∧ c 0 ≤ 12) ∧ (1 ≤ c 1 ∧ c 1 ≤ 16) ∧ (1 ≤ c 2 ∧ c 2 ≤ c 0) ∧ (0 ≤ c 3 ∧ c 3 ≤ 2147483647) ∧ (c 3 ≤ c 4 ∧ (c 3 = 0 → c 4 ≤ 0) ∧ c 4 ≤ 2147483647) ∧ (1 ≤ c 5 ∧ c 5 ≤ 6) ∧ (1 ≤ c 6 ∧ c 6 ≤ 11) ∧ (1 ≤ c 7 ∧ c 7 ≤ 8) ∧ (0 ≤ c 8 ∧ c 8 ≤ c 7) ∧ (1 ≤ c 9 ∧ c 9 ≤ 8) ∧
    (1 ≤ c 10 ∧ c 10 ≤ 16) ∧ (c 10 ≤ c 11 ∧ c 11 ≤ 64) ∧ (1 ≤ c 12 ∧ c 12 ≤ 64) ∧ (1 ≤ c 13 ∧ c 13 ≤ 16) ∧ (1 ≤ c 14 ∧ c 14 ≤ 16) ∧ (1 ≤ c 15 ∧ c 15 ≤ 8) ∧ (0 ≤ c 16 ∧ c 16 ≤ 1) ∧ (1 ≤ c 17 ∧ c 17 ≤ 8) ∧ (1 ≤ c 18 ∧ c 18 ≤ 8) ∧ (1 ≤ c 19 ∧ c 19 ≤ 512) := by
  have H := suRight_of h
  have h0 := H 0 (by omega); have h1 := H 1 (by omega); have h2 := H 2 (by omega); have h3 := H 3 (by omega); have h4 := H 4 (by omega)
  have h5 := H 5 (by omega); have h6 := H 6 (by omega); have h7 := H 7 (by omega); have h8 := H 8 (by omega); have h9 := H 9 (by omega)
  have h10 := H 10 (by omega); have h11 := H 11 (by omega); have h12 := H 12 (by omega); have h13 := H 13 (by omega); have h14 := H 14 (by omega)
  have h15 := H 15 (by omega); have h16 := H 16 (by omega); have h17 := H 17 (by omega); have h18 := H 18 (by omega); have h19 := H 19 (by omega)
  clear H h
  simp [suLo, suHi] at h0 h1 h2 h3 h4 h5 h6 h7 h8 h9 h10 h11 h12 h13 h14 h15 h16 h17 h18 h19
  refine ⟨h0, h1, h2, h3, ⟨h4.1, fun e => by have := h4.2; rw [if_pos e] at this; exact this, by have := h4.2; split at this <;> omega⟩, h5, h6, h7, h8, h9, h10, h11, h12, h13, h14, h15, h16, h17, h18, h19⟩

/-- Steps, rounds. -/
def suParts (c : Nat → Int) : Int := (c 0 * c 0 * c 1 + c 17 - 1) / c 17
def suSteps (c : Nat → Int) : Int := if suRight c then suParts c + c 19 + 2 else 0
def suRounds (c : Nat → Int) : Int := 2 + (c 0 - 1) * (c 0 - 1) * (c 18 + 2) * (2 * suSteps c + 5 + 1)
def suRoomy (c : Nat → Int) : Bool := suRight c && decide (c 0 - 1 ≤ c 6)
def suBound (c : Nat → Int) : Int × Bool := if suRoomy c && decide (c 3 = 0) then (suRounds c, true) else (0, false)
def suLong (c : Nat → Int) : Int × Bool := if suRoomy c && !decide (c 3 = 0) && decide (2 * suRounds c + 4 ≤ c 3) then (4 * suRounds c + 4, true) else (0, false)
end Go.Proofs.Ythhfpjecgdedgaa
