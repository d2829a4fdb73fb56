/- A configuration's bytes are read back as it. No statement of the seat is proved here. -/
import Derived.Test.YthhfpjecgdedgaaSuN
namespace Go.Proofs.Ythhfpjecgdedgaa
open Go.RowKit
set_option maxRecDepth 100000
set_option linter.all false

theorem le_back : ∀ (m n : Nat), n < 256 ^ m → leVal (leBytes n m) = n
  | 0, n, h => by simp at h; subst h; rfl
  | m + 1, n, h => by
    have e : leBytes n (m + 1) = UInt8.ofNat n :: leBytes (n / 256) m := by
      unfold leBytes
      rw [List.range_succ_eq_map, List.map_cons, List.map_map]
      congr 1
      · simp [leByte]
      apply List.map_congr_left
      intro k _
      show leByte n (k + 1) = leByte (n / 256) k
      unfold leByte
      rw [Nat.div_div_eq_div_mul]
      congr 2
      rw [show 8 * (k + 1) = 8 + 8 * k by omega, Nat.pow_add]
    have h2 : n / 256 < 256 ^ m := by
      rw [Nat.div_lt_iff_lt_mul (by omega)]
      rw [Nat.pow_succ] at h
      exact h
    rw [e]
    show (UInt8.ofNat n).toNat + 256 * leVal (leBytes (n / 256) m) = n
    rw [le_back m _ h2]
    have : (UInt8.ofNat n).toNat = n % 256 := by simp
    omega
theorem suBytes_pre (c : Nat → Int) (k : Nat) : ∀ n, k ≤ n → ∃ t, suBytes c n = suBytes c k ++ t
  | 0, h => by obtain rfl : k = 0 := by omega
               exact ⟨[], by simp⟩
  | n + 1, h => by
    by_cases e : k = n + 1
    · subst e; exact ⟨[], by simp⟩
    · obtain ⟨t, ht⟩ := suBytes_pre c k n (by omega)
      exact ⟨t ++ leBytes (c n).toNat 4, by rw [suBytes_succ, ht, List.append_assoc]⟩
/-- The first k numbers, 0 behind. -/
def cut (c : Nat → Int) (k : Nat) : Nat → Int := fun i => if i < k then c i else 0
theorem cut_succ (c : Nat → Int) (k : Nat) : up (cut c k) k (c k) = cut c (k + 1) := by
  funext j
  simp only [up, cut]
  by_cases h : j = k
  · rw [if_pos h, if_pos (by omega), h]
  · rw [if_neg h]
    by_cases h2 : j < k
    · rw [if_pos h2, if_pos (by omega)]
    · rw [if_neg h2, if_neg (by omega)]
theorem nuR_back {c : Nat → Int} (hr : suRight c = true) : ∀ k, k ≤ 20 → nuR (suBytes c 20) k = (0, (suBytes c 20).drop (k * 4), cut c k)
  | 0, _ => rfl
  | k + 1, h => by
    have hn := su_nat hr k (by omega)
    obtain ⟨t, ht⟩ := suBytes_pre c (k + 1) 20 h
    have hd : (suBytes c 20).drop (k * 4) = leBytes (c k).toNat 4 ++ t := by
      rw [ht, suBytes_succ, List.append_assoc, ← suBytes_len c k, List.drop_left]
    have hd2 : (suBytes c 20).drop ((k + 1) * 4) = t := by
      rw [ht, ← suBytes_len c (k + 1), List.drop_left]
    have hq : numR 0 (leBytes (c k).toNat 4 ++ t) 4 = (0, t, (c k).toNat) := by
      have hl := leBytes_length (c k).toNat 4
      have e1 : isW 4 = true := by decide
      have e2 : (0 : Int) = 0 ∧ (4 : Int).toNat ≤ (leBytes (c k).toNat 4 ++ t).length := ⟨rfl, by rw [List.length_append, hl]; show 4 ≤ 4 + t.length; omega⟩
      unfold numR
      rw [if_pos e1, if_pos e2]
      have e3 : (4 : Int).toNat = 4 := rfl
      rw [e3]
      have d1 : (leBytes (c k).toNat 4 ++ t).drop 4 = t := List.drop_left' hl
      have d2 : (leBytes (c k).toNat 4 ++ t).take 4 = leBytes (c k).toNat 4 := List.take_left' hl
      rw [d1, d2, le_back 4 _ (by omega)]
    simp only [nuR, nuR_back hr k (by omega), hd, hq, hd2]
    have : (((c k).toNat : Nat) : Int) = c k := by omega
    rw [this, cut_succ]
theorem su_congr {c d : Nat → Int} (H : ∀ m, m < 20 → d m = c m) : suAt d = suAt c := by
  have hb : ∀ j, j < 20 → suBad d j = suBad c j := by
    intro j hj
    rcases (by omega : j = 0 ∨ j = 1 ∨ j = 2 ∨ j = 3 ∨ j = 4 ∨ j = 5 ∨ j = 6 ∨ j = 7 ∨ j = 8 ∨ j = 9 ∨ j = 10 ∨ j = 11 ∨ j = 12 ∨ j = 13 ∨ j = 14 ∨ j = 15 ∨ j = 16 ∨ j = 17 ∨ j = 18 ∨ j = 19) with rfl | rfl | rfl | rfl | rfl | rfl | rfl | rfl | rfl | rfl | rfl | rfl | rfl | rfl | rfl | rfl | rfl | rfl | rfl | rfl
    all_goals simp [suBad, suLo, suHi, H]
  cases h : suAt c with
  | none =>
    refine suAt_none fun j hj => ?_
    rw [hb j hj]
    rw [suAt, List.find?_eq_none] at h
    simpa using h j (List.mem_range.2 hj)
  | some i =>
    obtain ⟨h1, h2, h3⟩ := suAt_lt h
    exact suAt_some h1 (by rw [hb i h1]; exact h2) (fun j hj => by rw [hb j (by omega)]; exact h3 j hj)
theorem cf_congr {c d : Nat → Int} (H : ∀ m, m < 20 → d m = c m) : (#[.int .i64 (d 0), .int .i64 (d 1), .int .i64 (d 2), .int .i64 (d 3), .int .i64 (d 4), .int .i64 (d 5), .int .i64 (d 6), .int .i64 (d 7), .int .i64 (d 8), .int .i64 (d 9), .int .i64 (d 10), .int .i64 (d 11), .int .i64 (d 12), .int .i64 (d 13), .int .i64 (d 14), .int .i64 (d 15), .int .i64 (d 16), .int .i64 (d 17), .int .i64 (d 18), .int .i64 (d 19)] : Array Value) = #[.int .i64 (c 0), .int .i64 (c 1), .int .i64 (c 2), .int .i64 (c 3), .int .i64 (c 4), .int .i64 (c 5), .int .i64 (c 6), .int .i64 (c 7), .int .i64 (c 8), .int .i64 (c 9), .int .i64 (c 10), .int .i64 (c 11), .int .i64 (c 12), .int .i64 (c 13), .int .i64 (c 14), .int .i64 (c 15), .int .i64 (c 16), .int .i64 (c 17), .int .i64 (c 18), .int .i64 (c 19)] := by
  apply Array.ext_getElem?
  intro j
  by_cases hj : j < 20
  · rw [cf_at d j hj, cf_at c j hj, H j hj]
  · rw [Array.getElem?_eq_none (by simp; omega), Array.getElem?_eq_none (by simp; omega)]
theorem sd_back {c : Nat → Int} (hr : suRight c = true) : sdCode (suBytes c 20) = 0 ∧ (#[.int .i64 ((sdVal (suBytes c 20)) 0), .int .i64 ((sdVal (suBytes c 20)) 1), .int .i64 ((sdVal (suBytes c 20)) 2), .int .i64 ((sdVal (suBytes c 20)) 3), .int .i64 ((sdVal (suBytes c 20)) 4), .int .i64 ((sdVal (suBytes c 20)) 5), .int .i64 ((sdVal (suBytes c 20)) 6), .int .i64 ((sdVal (suBytes c 20)) 7), .int .i64 ((sdVal (suBytes c 20)) 8), .int .i64 ((sdVal (suBytes c 20)) 9), .int .i64 ((sdVal (suBytes c 20)) 10), .int .i64 ((sdVal (suBytes c 20)) 11), .int .i64 ((sdVal (suBytes c 20)) 12), .int .i64 ((sdVal (suBytes c 20)) 13), .int .i64 ((sdVal (suBytes c 20)) 14), .int .i64 ((sdVal (suBytes c 20)) 15), .int .i64 ((sdVal (suBytes c 20)) 16), .int .i64 ((sdVal (suBytes c 20)) 17), .int .i64 ((sdVal (suBytes c 20)) 18), .int .i64 ((sdVal (suBytes c 20)) 19)] : Array Value) = #[.int .i64 (c 0), .int .i64 (c 1), .int .i64 (c 2), .int .i64 (c 3), .int .i64 (c 4), .int .i64 (c 5), .int .i64 (c 6), .int .i64 (c 7), .int .i64 (c 8), .int .i64 (c 9), .int .i64 (c 10), .int .i64 (c 11), .int .i64 (c 12), .int .i64 (c 13), .int .i64 (c 14), .int .i64 (c 15), .int .i64 (c 16), .int .i64 (c 17), .int .i64 (c 18), .int .i64 (c 19)] := by
  have H : ∀ m, m < 20 → cut c 20 m = c m := fun m hm => by simp [cut, hm]
  have hn := nuR_back hr 20 (Nat.le_refl _)
  have hd : (suBytes c 20).drop (20 * 4) = [] := by rw [← suBytes_len c 20]; exact List.drop_length
  have h0 : sdC (suBytes c 20) = 0 := by rw [sdC, hn, hd]; rfl
  have hc : suCode (cut c 20) = 0 := by
    have := (suCode_iff c).1.2 hr
    unfold suCode at *
    rw [su_congr H]
    exact this
  have h1 : sdCode (suBytes c 20) = 0 := by rw [sdCode, if_pos h0, hn]; exact hc
  refine ⟨h1, ?_⟩
  have h2 : sdVal (suBytes c 20) = cut c 20 := by rw [sdVal, if_pos h1, hn]
  rw [h2]
  exact cf_congr H
end Go.Proofs.Ythhfpjecgdedgaa
