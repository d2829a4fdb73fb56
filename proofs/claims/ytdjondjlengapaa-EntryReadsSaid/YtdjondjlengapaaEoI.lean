/- What was read as an entry that may be has just these bytes. No statement of the seat is proved here. -/
import Derived.Test.YtdjondjlengapaaEoE
namespace Go.Proofs.Ytdjondjlengapaa
open Go.RowKit
set_option maxRecDepth 100000

theorem first_zero {c e : Int} (h : first_ c e = 0) : c = 0 ∧ e = 0 := by
  unfold first_ at h
  split at h
  · next h1 => exact ⟨h1, h⟩
  · next h1 => exact absurd h h1
theorem takeCode_zero {c : Int} {bs : List UInt8} {n : Nat} (h : takeCode c bs n = 0) : c = 0 ∧ n ≤ bs.length := by
  unfold takeCode at h
  split at h
  · have := (first_zero h).2; omega
  · next h1 => exact ⟨h, by omega⟩
theorem leBytes_leVal : ∀ xs : List UInt8, leBytes (leVal xs) xs.length = xs
  | [] => rfl
  | x :: xs => by
    have ih := leBytes_leVal xs
    show leBytes (x.toNat + 256 * leVal xs) (xs.length + 1) = x :: xs
    have e : leBytes (x.toNat + 256 * leVal xs) (xs.length + 1) = UInt8.ofNat (x.toNat + 256 * leVal xs) :: leBytes ((x.toNat + 256 * leVal xs) / 256) xs.length := by
      unfold leBytes
      rw [List.range_succ_eq_map, List.map_cons, List.map_map]
      congr 1
      · simp [leByte]
      apply List.map_congr_left
      intro k _
      show leByte _ (k + 1) = leByte _ k
      unfold leByte
      rw [Nat.div_div_eq_div_mul]
      congr 2
      rw [show 8 * (k + 1) = 8 + 8 * k by omega, Nat.pow_add]
    have hx := x.toNat_lt
    rw [e, show (x.toNat + 256 * leVal xs) / 256 = leVal xs by omega, ih]
    congr 1
    apply UInt8.toNat_inj.1
    simp
theorem numR_ok {c : Int} {bs : List UInt8} {m : Nat} (h1 : 1 ≤ m) (h8 : m ≤ 8) (h : (numR c bs (m : Int)).1 = 0) : c = 0 ∧ bs = leBytes (numR c bs (m : Int)).2.2 m ++ (numR c bs (m : Int)).2.1 := by
  have hw : isW (m : Int) = true := by simp [isW]; omega
  unfold numR at h ⊢
  rw [if_pos hw] at h ⊢
  rw [Int.toNat_natCast] at h ⊢
  by_cases hc : c = 0 ∧ m ≤ bs.length
  · rw [if_pos hc]
    refine ⟨hc.1, ?_⟩
    have hl : (bs.take m).length = m := by simp; omega
    have e := leBytes_leVal (bs.take m)
    rw [hl] at e
    show bs = leBytes (leVal (bs.take m)) m ++ bs.drop m
    rw [e, List.take_append_drop]
  · rw [if_neg hc] at h
    have := takeCode_zero h
    exact absurd ⟨this.1, this.2⟩ hc
theorem flagR_ok {c : Int} {bs : List UInt8} (h : (flagR c bs).1 = 0) : c = 0 ∧ bs = [UInt8.ofNat (bitN (flagR c bs).2.2)] ++ (flagR c bs).2.1 := by
  cases bs with
  | nil => have := first_zero (show first_ c 6 = 0 from h); omega
  | cons b r =>
    unfold flagR at h ⊢
    dsimp only at h ⊢
    by_cases h1 : c = 0
    · rw [if_neg (by simp [h1])] at h ⊢
      by_cases h2 : 1 < b.toNat
      · rw [if_pos h2] at h; simp at h
      · rw [if_neg h2]
        refine ⟨h1, ?_⟩
        have hb : b.toNat = 0 ∨ b.toNat = 1 := by omega
        have e : b = UInt8.ofNat (bitN (decide (b.toNat = 1))) := by
          apply UInt8.toNat_inj.1
          rcases hb with h | h <;> simp [h, bitN]
        show b :: r = [UInt8.ofNat (bitN (decide (b.toNat = 1)))] ++ r
        rw [← e]; rfl
    · rw [if_pos h1] at h; exact absurd h h1
theorem textR_ok {c : Int} {bs : List UInt8} {most : Int} (h : (textR c bs most).1 = 0) : c = 0 ∧ bs = txtB ⟨(textR c bs most).2.2.toArray⟩ ++ (textR c bs most).2.1 ∧ ((textR c bs most).2.2.length : Int) ≤ most := by
  cases bs with
  | nil => have := first_zero (show first_ c 6 = 0 from h); omega
  | cons b r =>
    unfold textR at h ⊢
    dsimp only at h ⊢
    by_cases h1 : c = 0
    · rw [if_neg (by simp [h1])] at h ⊢
      by_cases h2 : most < (b.toNat : Int)
      · rw [if_pos h2] at h; simp at h
      · rw [if_neg h2] at h ⊢
        by_cases h3 : r.length < b.toNat
        · rw [if_pos h3] at h; simp at h
        · rw [if_neg h3]
          have hl : (r.take b.toNat).length = b.toNat := by simp; omega
          refine ⟨h1, ?_, by show ((r.take b.toNat).length : Int) ≤ most; rw [hl]; omega⟩
          have e : txtB ⟨(r.take b.toNat).toArray⟩ = b :: r.take b.toNat := by
            unfold txtB
            show UInt8.ofNat (r.take b.toNat).toArray.size :: (r.take b.toNat).toArray.toList = _
            rw [List.size_toArray, hl]
            congr 1
            apply UInt8.toNat_inj.1
            simp
          show b :: r = txtB ⟨(r.take b.toNat).toArray⟩ ++ r.drop b.toNat
          rw [e, List.cons_append, List.take_append_drop]
    · rw [if_pos h1] at h; exact absurd h h1
theorem stampR_ok {c : Int} {bs : List UInt8} (h : (stampR c bs).1 = 0) : c = 0 ∧ ∃ a b : Nat, (stampR c bs).2.2 = ⟨a, b⟩ ∧ a < 4294967296 ∧ b < 256 ∧ bs = leBytes a 4 ++ (leBytes b 1 ++ (stampR c bs).2.1) := by
  unfold stampR at h ⊢
  dsimp only at h ⊢
  have k2 := numR_ok (m := 1) (by omega) (by omega) (show (numR (numR c bs 4).1 (numR c bs 4).2.1 ((1 : Nat) : Int)).1 = 0 from h)
  have k1 := numR_ok (m := 4) (by omega) (by omega) (show (numR c bs ((4 : Nat) : Int)).1 = 0 from k2.1)
  refine ⟨k1.1, _, _, rfl, numR_lt c bs 4, numR_lt _ _ 1, ?_⟩
  have e1 : bs = leBytes (numR c bs 4).2.2 4 ++ (numR c bs 4).2.1 := k1.2
  have e2 : (numR c bs 4).2.1 = leBytes (numR (numR c bs 4).1 (numR c bs 4).2.1 1).2.2 1 ++ (numR (numR c bs 4).1 (numR c bs 4).2.1 1).2.1 := k2.2
  rw [← e2, ← e1]
/-- Bytes that were read as an entry that may be, and nothing is left of them. -/
theorem fields_ok {bs : List UInt8} (h : (fieldsF 0 bs).a7.1 = 0) : ∃ m : Ne, (fieldsF 0 bs).en = m.en ∧ m.ok ∧ bs = layB m ++ (fieldsF 0 bs).a7.2.1 := by
  unfold fieldsF at h ⊢
  dsimp only at h ⊢
  obtain ⟨a1, e1⟩ : ∃ a, textR 0 bs 16 = a := ⟨_, rfl⟩
  rw [e1] at h ⊢
  obtain ⟨a2, e2⟩ : ∃ a, flagR a1.1 a1.2.1 = a := ⟨_, rfl⟩
  rw [e2] at h ⊢
  obtain ⟨a3, e3⟩ : ∃ a, textR a2.1 a2.2.1 32 = a := ⟨_, rfl⟩
  rw [e3] at h ⊢
  obtain ⟨a4, e4⟩ : ∃ a, stampR a3.1 a3.2.1 = a := ⟨_, rfl⟩
  rw [e4] at h ⊢
  obtain ⟨a5, e5⟩ : ∃ a, stampR a4.1 a4.2.1 = a := ⟨_, rfl⟩
  rw [e5] at h ⊢
  obtain ⟨a6, e6⟩ : ∃ a, numR a5.1 a5.2.1 2 = a := ⟨_, rfl⟩
  rw [e6] at h ⊢
  obtain ⟨a7, e7⟩ : ∃ a, numR a6.1 a6.2.1 4 = a := ⟨_, rfl⟩
  rw [e7] at h ⊢
  have k7 := numR_ok (c := a6.1) (bs := a6.2.1) (m := 4) (by omega) (by omega) (by rw [show ((4 : Nat) : Int) = 4 from rfl, e7]; exact h)
  rw [show ((4 : Nat) : Int) = 4 from rfl, e7] at k7
  have k6 := numR_ok (c := a5.1) (bs := a5.2.1) (m := 2) (by omega) (by omega) (by rw [show ((2 : Nat) : Int) = 2 from rfl, e6]; exact k7.1)
  rw [show ((2 : Nat) : Int) = 2 from rfl, e6] at k6
  have k5 := stampR_ok (c := a4.1) (bs := a4.2.1) (by rw [e5]; exact k6.1)
  rw [e5] at k5
  have k4 := stampR_ok (c := a3.1) (bs := a3.2.1) (by rw [e4]; exact k5.1)
  rw [e4] at k4
  have k3 := textR_ok (c := a2.1) (bs := a2.2.1) (most := 32) (by rw [e3]; exact k4.1)
  rw [e3] at k3
  have k2 := flagR_ok (c := a1.1) (bs := a1.2.1) (by rw [e2]; exact k3.1)
  rw [e2] at k2
  have k1 := textR_ok (c := 0) (bs := bs) (most := 16) (by rw [e1]; exact k2.1)
  rw [e1] at k1
  obtain ⟨_, s1, s2, es, hs1, hs2, b4⟩ := k4
  obtain ⟨_, t1, t2, et, ht1, ht2, b5⟩ := k5
  have l6 : a6.2.2 < 256 ^ 2 := e6 ▸ numR_lt a5.1 a5.2.1 2
  have l7 : a7.2.2 < 256 ^ 4 := e7 ▸ numR_lt a6.1 a6.2.1 4
  refine ⟨⟨⟨a1.2.2.toArray⟩, ⟨a3.2.2.toArray⟩, a2.2.2, s1, s2, t1, t2, a6.2.2, a7.2.2⟩, ?_, ⟨?_, ?_, hs1, hs2, ht1, ht2, by omega, by omega⟩, ?_⟩
  · simp only [Fr7.en, Ne.en, es, et]
  · show a1.2.2.toArray.size ≤ 255
    rw [List.size_toArray]
    have := k1.2.2; omega
  · show a3.2.2.toArray.size ≤ 255
    rw [List.size_toArray]
    have := k3.2.2; omega
  · simp only [layB, List.append_assoc]
    rw [← k7.2, ← k6.2, ← b5, ← b4, ← k3.2.1, ← k2.2, ← k1.2.1]
theorem read_back {bs : List UInt8} (h : decC bs = 0) : ∃ m : Ne, decE bs = m.en ∧ m.ok ∧ enCheck m.en = 0 ∧ bs = layB m := by
  have h1 : takeC 0 bs = 0 ∧ (takeB 0 bs).length = 0 := by
    unfold decC doneCode at h
    split at h
    · have := (first_zero h).2; omega
    · exact ⟨h, by omega⟩
  have hE : decE bs = takeE 0 bs := by rw [decE, if_pos h]
  have hT : takeE 0 bs = (fieldsF 0 bs).en := by rw [takeE, if_pos h1.1]
  have hc : enCheck (fieldsF 0 bs).en = 0 ∧ (fieldsF 0 bs).a7.1 = 0 := by
    have h2 := h1.1
    unfold takeC at h2
    split at h2
    · next h3 => exact ⟨h3, h2⟩
    · exact absurd h2 (first_four _)
  obtain ⟨m, e, ok, hb⟩ := fields_ok hc.2
  have hn : (fieldsF 0 bs).a7.2.1 = [] := List.eq_nil_of_length_eq_zero h1.2
  rw [hn, List.append_nil] at hb
  exact ⟨m, by rw [hE, hT, e], ok, by rw [← e]; exact hc.1, hb⟩
end Go.Proofs.Ytdjondjlengapaa
