/- Records one behind the other, cut off anywhere, are read as those that stand whole. No statement of the seat is proved here. -/
import Derived.Test.YtbhdnhnkiibaaaaJnM
namespace Go.Proofs.Ytbhdnhnkiibaaaa
open Go.RowKit
set_option maxRecDepth 100000
set_option linter.all false

theorem two_back (n : Nat) (hn : n < 65536) : leVal (leBytes n 2) = n := by
  have h : leBytes n 2 = [leByte n 0, leByte n 1] := by simp [leBytes, List.range, List.range.loop]
  rw [h]
  simp only [leVal, leByte, UInt8.toNat_ofNat']
  omega
theorem holds_marked (bs : List UInt8) : crcHolds (crcMark bs) = true := by
  have hl := mark_len7 bs
  have h : (crcMark bs).take ((crcMark bs).length - 4) = bs := by
    rw [hl, show bs.length + 4 - 4 = bs.length by omega, crcMark, List.take_left']
    rfl
  rw [crcHolds, h, beq_self_eq_true, Bool.and_true, decide_eq_true_eq]
  omega

/-- A record that may be. -/
def Rok (r : List UInt8) : Prop := 1 ≤ r.length ∧ r.length ≤ 512
theorem rok_iff (r : List UInt8) : recCode r.length = 0 ↔ Rok r := by
  unfold recCode Rok
  constructor
  · intro h
    split at h
    · cases h
    · split at h
      · cases h
      · omega
  · intro h
    rw [if_neg (by omega), if_neg (by omega)]
def flatB (l : List (List UInt8)) : List UInt8 := (l.map recB).flatten
theorem flatB_nil : flatB [] = [] := rfl
theorem flatB_cons (r : List UInt8) (l : List (List UInt8)) : flatB (r :: l) = recB r ++ flatB l := by simp [flatB]
theorem flatB_append (l m : List (List UInt8)) : flatB (l ++ m) = flatB l ++ flatB m := by simp [flatB]
theorem flatB_one (r : List UInt8) : flatB [r] = recB r := by simp [flatB]
theorem flatB_len (l : List (List UInt8)) : l.length ≤ (flatB l).length := by
  induction l with
  | nil => simp [flatB]
  | cons r l ih =>
    rw [flatB_cons, List.length_append, List.length_cons, recB_len]
    omega
/-- What the head of a record says. -/
theorem head_says (r : List UInt8) (hr : Rok r) (k : Nat) (rest : List UInt8) (h6 : 6 ≤ k) : ((recB r ++ rest).take k).take 6 = hdB r.length ∧ jnN ((recB r ++ rest).take k) = r.length := by
  have h : ((recB r ++ rest).take k).take 6 = hdB r.length := by
    rw [List.take_take, Nat.min_eq_left h6, recB, List.append_assoc, List.take_append_of_le_length (by rw [hdB_len]; exact Nat.le_refl _), List.take_of_length_le (by rw [hdB_len]; exact Nat.le_refl _)]
  refine ⟨h, ?_⟩
  have h2 : ((recB r ++ rest).take k).take 2 = leBytes r.length 2 := by
    have : ((recB r ++ rest).take k).take 2 = (((recB r ++ rest).take k).take 6).take 2 := by simp only [List.take_take]; congr 1; omega
    rw [this, h, hdB, crcMark, List.take_left' (by rw [leBytes_length])]
  rw [jnN, h2, two_back _ (by have := hr.2; omega)]
theorem whole_read (r : List UInt8) (hr : Rok r) (rest : List UInt8) : jnK (recB r ++ rest) = 0 ∧ jnB (recB r ++ rest) = r ∧ jnN (recB r ++ rest) = r.length ∧ (recB r ++ rest).drop (10 + r.length) = rest := by
  have hl : (recB r ++ rest).length = r.length + 10 + rest.length := by rw [List.length_append, recB_len]
  have ht : (recB r ++ rest).take (recB r ++ rest).length = recB r ++ rest := List.take_length
  obtain ⟨h6, hn⟩ := head_says r hr (recB r ++ rest).length rest (by omega)
  rw [ht] at h6 hn
  have hd : (recB r ++ rest).drop 6 = crcMark r ++ rest := by
    rw [recB, List.append_assoc, List.drop_left' (by rw [hdB_len])]
  have hm : ((recB r ++ rest).drop 6).take (r.length + 4) = crcMark r := by
    rw [hd, List.take_left' (by rw [mark_len7])]
  have hb : ((recB r ++ rest).drop 6).take r.length = r := by
    rw [hd, crcMark, List.append_assoc, List.take_left']
    rfl
  refine ⟨?_, by rw [jnB, hn, hb], hn, ?_⟩
  · rw [jnK, if_neg (by omega), if_neg (by rw [h6, hn, hdB, holds_marked]; have q1 := hr.1; have q2 := hr.2; rintro (h | h | h) <;> first | cases h | omega), if_neg (by rw [hn]; omega), hn, hm, holds_marked]
    rfl
  · rw [List.drop_left' (by rw [recB_len]; omega)]
theorem cut_read (r : List UInt8) (hr : Rok r) (rest : List UInt8) (k : Nat) (hk : k < (recB r).length) : jnK ((recB r ++ rest).take k) = 1 := by
  rw [recB_len] at hk
  have hl : ((recB r ++ rest).take k).length = k := by rw [List.length_take, List.length_append, recB_len]; omega
  by_cases h6 : k < 6
  · rw [jnK, if_pos (by omega)]
  · obtain ⟨h, hn⟩ := head_says r hr k rest (by omega)
    rw [jnK, if_neg (by omega), if_neg (by rw [h, hn, hdB, holds_marked]; have q1 := hr.1; have q2 := hr.2; rintro (h | h | h) <;> first | cases h | omega), if_pos (by rw [hn]; omega)]
theorem nil_read : jnK [] = 1 := rfl

theorem jnR_flat : ∀ (l : List (List UInt8)), (∀ r ∈ l, Rok r) → ∀ (f : Nat) (acc : List (List UInt8)) (n : Nat) (rest : List UInt8), jnR (f + l.length) acc n (flatB l ++ rest) = jnR f (acc ++ l) (n + (flatB l).length) rest
  | [], _, f, acc, n, rest => by simp [flatB]
  | r :: l, h, f, acc, n, rest => by
    have hr := h r (by simp)
    rw [flatB_cons, List.append_assoc, List.length_cons, ← Nat.add_assoc, jnR_step]
    obtain ⟨h1, h2, h3, h4⟩ := whole_read r hr (flatB l ++ rest)
    rw [if_neg (by omega), if_neg (by omega), h2, h3, h4, jnR_flat l (fun r hr => h r (by simp [hr])), List.length_append, recB_len, show acc ++ r :: l = acc ++ [r] ++ l by simp]
    congr 1
    omega
theorem read_flat (l : List (List UInt8)) (h : ∀ r ∈ l, Rok r) (rest : List UInt8) (hk : jnK rest = 1) : jnRead (flatB l ++ rest) = (l, (flatB l).length, 0) := by
  have hl := flatB_len l
  obtain ⟨f, hf⟩ : ∃ f, (flatB l ++ rest).length + 1 = (f + 1) + l.length := ⟨(flatB l ++ rest).length - l.length, by rw [List.length_append]; omega⟩
  rw [jnRead, hf, jnR_flat l h, jnR_step, if_neg (by omega), if_pos hk]
  simp
/-- Cut off anywhere: the records that stand whole ahead of there, and a beginning of one. -/
theorem cut_flat : ∀ (l : List (List UInt8)), (∀ r ∈ l, Rok r) → ∀ k, ∃ n rest, n ≤ l.length ∧ (flatB l).take k = flatB (l.take n) ++ rest ∧ jnK rest = 1 ∧ (flatB (l.take n)).length ≤ k ∧ (n < l.length → k < (flatB (l.take (n + 1))).length)
  | [], _, k => ⟨0, [], by simp, by simp [flatB], nil_read, by simp [flatB], by simp⟩
  | r :: l, h, k => by
    have hr := h r (by simp)
    by_cases hk : k < (recB r).length
    · refine ⟨0, (flatB (r :: l)).take k, by simp, by simp [flatB], ?_, by simp [flatB], fun _ => ?_⟩
      · rw [flatB_cons]; exact cut_read r hr _ k hk
      · rw [show (r :: l).take (0 + 1) = [r] by simp, flatB_one]; exact hk
    · obtain ⟨n, rest, h1, h2, h3, h4, h5⟩ := cut_flat l (fun r hr => h r (by simp [hr])) (k - (recB r).length)
      refine ⟨n + 1, rest, by simp; omega, ?_, h3, ?_, fun hn => ?_⟩
      · rw [flatB_cons, List.take_append, List.take_of_length_le (by omega), h2, List.take_succ_cons, flatB_cons, List.append_assoc]
      · rw [List.take_succ_cons, flatB_cons, List.length_append]; omega
      · have := h5 (by simpa using hn)
        rw [List.take_succ_cons, flatB_cons, List.length_append]
        omega
theorem flat_take_le (l : List (List UInt8)) (n : Nat) : (flatB (l.take n)).length ≤ (flatB l).length := by
  conv => rhs; rw [← List.take_append_drop n l, flatB_append, List.length_append]
  omega
end Go.Proofs.Ytbhdnhnkiibaaaa
