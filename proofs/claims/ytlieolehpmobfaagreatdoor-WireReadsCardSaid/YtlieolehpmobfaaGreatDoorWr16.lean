/- Texts of mine, one behind the other: EoA, EnY, EoE, EoI, WiBa, Open, WiL. No statement of the seat is proved here. -/
import Derived.Test.YtlieolehpmobfaaGreatDoorWr3
import Derived.Test.YtlieolehpmobfaaGreatDoorWr5
import Derived.Test.YtlieolehpmobfaaGreatDoorWr4
import Derived.Test.YtlieolehpmobfaaGreatDoorWr1
import Derived.ProofKit
import Derived.OpenShut
import Derived.ShutString
import Derived.ChangeOld
import Derived.Test.YtlieolehpmobfaaGreatDoorWr6
import Derived.Test.YtlieolehpmobfaaGreatDoorRows
import Derived.LaidMore
section
namespace Go.Proofs.YtlieolehpmobfaaGreatDoor
open Go.RowKit
set_option maxRecDepth 100000
theorem first_zero {c e : Int} (h : first_ c e = 0) : c = 0 ∧ e = 0 := by
  unfold first_ at h
  split at h
  · next h1 => exact ⟨h1, h⟩
  · next h1 => exact absurd h h1
theorem takeCode_zero {c : Int} {bs : List UInt8} {n : Nat} (h : takeCode c bs n = 0) : c = 0 ∧ n ≤ bs.length := by
  unfold takeCode at h
  split at h
  · have := (first_zero h).2; omega
  · next h1 => exact ⟨h, by omega⟩
theorem leBytes_leVal : ∀ xs : List UInt8, leBytes (leVal xs) xs.length = xs
  | [] => rfl
  | x :: xs => by
    have ih := leBytes_leVal xs
    show leBytes (x.toNat + 256 * leVal xs) (xs.length + 1) = x :: xs
    have e : leBytes (x.toNat + 256 * leVal xs) (xs.length + 1) = UInt8.ofNat (x.toNat + 256 * leVal xs) :: leBytes ((x.toNat + 256 * leVal xs) / 256) xs.length := by
      unfold leBytes
      rw [List.range_succ_eq_map, List.map_cons, List.map_map]
      congr 1
      · simp [leByte]
      apply List.map_congr_left
      intro k _
      show leByte _ (k + 1) = leByte _ k
      unfold leByte
      rw [Nat.div_div_eq_div_mul]
      congr 2
      rw [show 8 * (k + 1) = 8 + 8 * k by omega, Nat.pow_add]
    have hx := x.toNat_lt
    rw [e, show (x.toNat + 256 * leVal xs) / 256 = leVal xs by omega, ih]
    congr 1
    apply UInt8.toNat_inj.1
    simp
theorem numR_ok {c : Int} {bs : List UInt8} {m : Nat} (h1 : 1 ≤ m) (h8 : m ≤ 8) (h : (numR c bs (m : Int)).1 = 0) : c = 0 ∧ bs = leBytes (numR c bs (m : Int)).2.2 m ++ (numR c bs (m : Int)).2.1 := by
  have hw : isW (m : Int) = true := by simp [isW]; omega
  unfold numR at h ⊢
  rw [if_pos hw] at h ⊢
  rw [Int.toNat_natCast] at h ⊢
  by_cases hc : c = 0 ∧ m ≤ bs.length
  · rw [if_pos hc]
    refine ⟨hc.1, ?_⟩
    have hl : (bs.take m).length = m := by simp; omega
    have e := leBytes_leVal (bs.take m)
    rw [hl] at e
    show bs = leBytes (leVal (bs.take m)) m ++ bs.drop m
    rw [e, List.take_append_drop]
  · rw [if_neg hc] at h
    have := takeCode_zero h
    exact absurd ⟨this.1, this.2⟩ hc
theorem flagR_ok {c : Int} {bs : List UInt8} (h : (flagR c bs).1 = 0) : c = 0 ∧ bs = [UInt8.ofNat (bitN (flagR c bs).2.2)] ++ (flagR c bs).2.1 := by
  cases bs with
  | nil => have := first_zero (show first_ c 6 = 0 from h); omega
  | cons b r =>
    unfold flagR at h ⊢
    dsimp only at h ⊢
    by_cases h1 : c = 0
    · rw [if_neg (by simp [h1])] at h ⊢
      by_cases h2 : 1 < b.toNat
      · rw [if_pos h2] at h; simp at h
      · rw [if_neg h2]
        refine ⟨h1, ?_⟩
        have hb : b.toNat = 0 ∨ b.toNat = 1 := by omega
        have e : b = UInt8.ofNat (bitN (decide (b.toNat = 1))) := by
          apply UInt8.toNat_inj.1
          rcases hb with h | h <;> simp [h, bitN]
        show b :: r = [UInt8.ofNat (bitN (decide (b.toNat = 1)))] ++ r
        rw [← e]; rfl
    · rw [if_pos h1] at h; exact absurd h h1
theorem textR_ok {c : Int} {bs : List UInt8} {most : Int} (h : (textR c bs most).1 = 0) : c = 0 ∧ bs = txtB ⟨(textR c bs most).2.2.toArray⟩ ++ (textR c bs most).2.1 ∧ ((textR c bs most).2.2.length : Int) ≤ most := by
  cases bs with
  | nil => have := first_zero (show first_ c 6 = 0 from h); omega
  | cons b r =>
    unfold textR at h ⊢
    dsimp only at h ⊢
    by_cases h1 : c = 0
    · rw [if_neg (by simp [h1])] at h ⊢
      by_cases h2 : most < (b.toNat : Int)
      · rw [if_pos h2] at h; simp at h
      · rw [if_neg h2] at h ⊢
        by_cases h3 : r.length < b.toNat
        · rw [if_pos h3] at h; simp at h
        · rw [if_neg h3]
          have hl : (r.take b.toNat).length = b.toNat := by simp; omega
          refine ⟨h1, ?_, by show ((r.take b.toNat).length : Int) ≤ most; rw [hl]; omega⟩
          have e : txtB ⟨(r.take b.toNat).toArray⟩ = b :: r.take b.toNat := by
            unfold txtB
            show UInt8.ofNat (r.take b.toNat).toArray.size :: (r.take b.toNat).toArray.toList = _
            rw [List.size_toArray, hl]
            congr 1
            apply UInt8.toNat_inj.1
            simp
          show b :: r = txtB ⟨(r.take b.toNat).toArray⟩ ++ r.drop b.toNat
          rw [e, List.cons_append, List.take_append_drop]
    · rw [if_pos h1] at h; exact absurd h h1
theorem stampR_ok {c : Int} {bs : List UInt8} (h : (stampR c bs).1 = 0) : c = 0 ∧ ∃ a b : Nat, (stampR c bs).2.2 = ⟨a, b⟩ ∧ a < 4294967296 ∧ b < 256 ∧ bs = leBytes a 4 ++ (leBytes b 1 ++ (stampR c bs).2.1) := by
  unfold stampR at h ⊢
  dsimp only at h ⊢
  have k2 := numR_ok (m := 1) (by omega) (by omega) (show (numR (numR c bs 4).1 (numR c bs 4).2.1 ((1 : Nat) : Int)).1 = 0 from h)
  have k1 := numR_ok (m := 4) (by omega) (by omega) (show (numR c bs ((4 : Nat) : Int)).1 = 0 from k2.1)
  refine ⟨k1.1, _, _, rfl, numR_lt c bs 4, numR_lt _ _ 1, ?_⟩
  have e1 : bs = leBytes (numR c bs 4).2.2 4 ++ (numR c bs 4).2.1 := k1.2
  have e2 : (numR c bs 4).2.1 = leBytes (numR (numR c bs 4).1 (numR c bs 4).2.1 1).2.2 1 ++ (numR (numR c bs 4).1 (numR c bs 4).2.1 1).2.1 := k2.2
  rw [← e2, ← e1]
theorem fields_ok {bs : List UInt8} (h : (fieldsF 0 bs).a7.1 = 0) : ∃ m : Ne, (fieldsF 0 bs).en = m.en ∧ m.ok ∧ bs = layB m ++ (fieldsF 0 bs).a7.2.1 := by
  unfold fieldsF at h ⊢
  dsimp only at h ⊢
  obtain ⟨a1, e1⟩ : ∃ a, textR 0 bs 16 = a := ⟨_, rfl⟩
  rw [e1] at h ⊢
  obtain ⟨a2, e2⟩ : ∃ a, flagR a1.1 a1.2.1 = a := ⟨_, rfl⟩
  rw [e2] at h ⊢
  obtain ⟨a3, e3⟩ : ∃ a, textR a2.1 a2.2.1 32 = a := ⟨_, rfl⟩
  rw [e3] at h ⊢
  obtain ⟨a4, e4⟩ : ∃ a, stampR a3.1 a3.2.1 = a := ⟨_, rfl⟩
  rw [e4] at h ⊢
  obtain ⟨a5, e5⟩ : ∃ a, stampR a4.1 a4.2.1 = a := ⟨_, rfl⟩
  rw [e5] at h ⊢
  obtain ⟨a6, e6⟩ : ∃ a, numR a5.1 a5.2.1 2 = a := ⟨_, rfl⟩
  rw [e6] at h ⊢
  obtain ⟨a7, e7⟩ : ∃ a, numR a6.1 a6.2.1 4 = a := ⟨_, rfl⟩
  rw [e7] at h ⊢
  have k7 := numR_ok (c := a6.1) (bs := a6.2.1) (m := 4) (by omega) (by omega) (by rw [show ((4 : Nat) : Int) = 4 from rfl, e7]; exact h)
  rw [show ((4 : Nat) : Int) = 4 from rfl, e7] at k7
  have k6 := numR_ok (c := a5.1) (bs := a5.2.1) (m := 2) (by omega) (by omega) (by rw [show ((2 : Nat) : Int) = 2 from rfl, e6]; exact k7.1)
  rw [show ((2 : Nat) : Int) = 2 from rfl, e6] at k6
  have k5 := stampR_ok (c := a4.1) (bs := a4.2.1) (by rw [e5]; exact k6.1)
  rw [e5] at k5
  have k4 := stampR_ok (c := a3.1) (bs := a3.2.1) (by rw [e4]; exact k5.1)
  rw [e4] at k4
  have k3 := textR_ok (c := a2.1) (bs := a2.2.1) (most := 32) (by rw [e3]; exact k4.1)
  rw [e3] at k3
  have k2 := flagR_ok (c := a1.1) (bs := a1.2.1) (by rw [e2]; exact k3.1)
  rw [e2] at k2
  have k1 := textR_ok (c := 0) (bs := bs) (most := 16) (by rw [e1]; exact k2.1)
  rw [e1] at k1
  obtain ⟨_, s1, s2, es, hs1, hs2, b4⟩ := k4
  obtain ⟨_, t1, t2, et, ht1, ht2, b5⟩ := k5
  have l6 : a6.2.2 < 256 ^ 2 := e6 ▸ numR_lt a5.1 a5.2.1 2
  have l7 : a7.2.2 < 256 ^ 4 := e7 ▸ numR_lt a6.1 a6.2.1 4
  refine ⟨⟨⟨a1.2.2.toArray⟩, ⟨a3.2.2.toArray⟩, a2.2.2, s1, s2, t1, t2, a6.2.2, a7.2.2⟩, ?_, ⟨?_, ?_, hs1, hs2, ht1, ht2, by omega, by omega⟩, ?_⟩
  · simp only [Fr7.en, Ne.en, es, et]
  · show a1.2.2.toArray.size ≤ 255
    rw [List.size_toArray]
    have := k1.2.2; omega
  · show a3.2.2.toArray.size ≤ 255
    rw [List.size_toArray]
    have := k3.2.2; omega
  · simp only [layB, List.append_assoc]
    rw [← k7.2, ← k6.2, ← b5, ← b4, ← k3.2.1, ← k2.2, ← k1.2.1]
end Go.Proofs.YtlieolehpmobfaaGreatDoor
end
section
namespace Go.Proofs.YtlieolehpmobfaaGreatDoor
open Go.RowKit
set_option linter.all false
set_option maxRecDepth 100000
theorem nodeR_ok {c : Int} {bs : List UInt8} (h : (nodeR c bs).1 = 0) : c = 0 ∧ bs = nodeL (nodeR c bs).2.2 ++ (nodeR c bs).2.1 :=
  numR_ok (m := 1) (by omega) (by omega) h
theorem lenR_ok {c : Int} {bs : List UInt8} (h : (lenR c bs).1 = 0) : c = 0 ∧ bs = leBytes (lenR c bs).2.2 1 ++ (lenR c bs).2.1 := by
  unfold lenR at h ⊢
  split
  · next h8 => rw [if_pos h8] at h; exact absurd h (first_four _)
  · next h8 => rw [if_neg h8] at h; exact numR_ok (m := 1) (by omega) (by omega) h
theorem listR_ok {α : Type} {f : Tkn α} {g : α → List UInt8} (hf : ∀ c bs, (f c bs).1 = 0 → c = 0 ∧ bs = g (f c bs).2.2 ++ (f c bs).2.1) : ∀ (n : Nat) (c : Int) (bs : List UInt8), (listR f n c bs).1 = 0 → c = 0 ∧ bs = (listR f n c bs).2.2.flatMap g ++ (listR f n c bs).2.1
  | 0, c, bs, h => ⟨h, by simp [listR]⟩
  | n + 1, c, bs, h => by
    have k := hf _ _ (show (f (listR f n c bs).1 (listR f n c bs).2.1).1 = 0 from h)
    have i := listR_ok hf n c bs k.1
    refine ⟨i.1, ?_⟩
    show bs = ((listR f n c bs).2.2 ++ [(f (listR f n c bs).1 (listR f n c bs).2.1).2.2]).flatMap g ++ (f (listR f n c bs).1 (listR f n c bs).2.1).2.1
    rw [List.flatMap_append, List.append_assoc]
    have e : [(f (listR f n c bs).1 (listR f n c bs).2.1).2.2].flatMap g = g (f (listR f n c bs).1 (listR f n c bs).2.1).2.2 := by simp
    rw [e, ← k.2]
    exact i.2
theorem manyR_ok {α : Type} {f : Tkn α} {g : α → List UInt8} (hf : ∀ c bs, (f c bs).1 = 0 → c = 0 ∧ bs = g (f c bs).2.2 ++ (f c bs).2.1) {c : Int} {bs : List UInt8} (h : (manyR f c bs).1 = 0) : c = 0 ∧ bs = listB g (manyR f c bs).2.2 ++ (manyR f c bs).2.1 := by
  have i := listR_ok hf _ _ _ (show (listR f (lenR c bs).2.2 (lenR c bs).1 (lenR c bs).2.1).1 = 0 from h)
  have k := lenR_ok i.1
  have hc := listR_count f (lenR c bs).1 (lenR c bs).2.1 (lenR c bs).2.2
  refine ⟨k.1, ?_⟩
  show bs = (leBytes (listR f (lenR c bs).2.2 (lenR c bs).1 (lenR c bs).2.1).2.2.length 1 ++ (listR f (lenR c bs).2.2 (lenR c bs).1 (lenR c bs).2.1).2.2.flatMap g) ++ (listR f (lenR c bs).2.2 (lenR c bs).1 (lenR c bs).2.1).2.1
  rw [hc, List.append_assoc, ← i.2]
  exact k.2
theorem markR_ok (c : Int) (bs : List UInt8) (h : (markR c bs).1 = 0) : c = 0 ∧ bs = markB (markR c bs).2.2 ++ (markR c bs).2.1 := by
  have k := textR_ok (show (textR (stampR c bs).1 (stampR c bs).2.1 16).1 = 0 from h)
  obtain ⟨h0, a, b, e, _, _, hb⟩ := stampR_ok k.1
  refine ⟨h0, ?_⟩
  show bs = (leBytes (stampR c bs).2.2.c.toNat 4 ++ leBytes (stampR c bs).2.2.s.toNat 1 ++ txtB ⟨(textR (stampR c bs).1 (stampR c bs).2.1 16).2.2.toArray⟩) ++ (textR (stampR c bs).1 (stampR c bs).2.1 16).2.1
  rw [List.append_assoc, ← k.2.1, e, List.append_assoc]
  exact hb
theorem fieldsF_zero {c : Int} {bs : List UInt8} (h : (fieldsF c bs).a7.1 = 0) : c = 0 := by
  unfold fieldsF at h
  dsimp only at h
  obtain ⟨a1, e1⟩ : ∃ a, textR c bs 16 = a := ⟨_, rfl⟩
  rw [e1] at h
  obtain ⟨a2, e2⟩ : ∃ a, flagR a1.1 a1.2.1 = a := ⟨_, rfl⟩
  rw [e2] at h
  obtain ⟨a3, e3⟩ : ∃ a, textR a2.1 a2.2.1 32 = a := ⟨_, rfl⟩
  rw [e3] at h
  obtain ⟨a4, e4⟩ : ∃ a, stampR a3.1 a3.2.1 = a := ⟨_, rfl⟩
  rw [e4] at h
  obtain ⟨a5, e5⟩ : ∃ a, stampR a4.1 a4.2.1 = a := ⟨_, rfl⟩
  rw [e5] at h
  obtain ⟨a6, e6⟩ : ∃ a, numR a5.1 a5.2.1 2 = a := ⟨_, rfl⟩
  rw [e6] at h
  have k7 := (numR_ok (c := a6.1) (bs := a6.2.1) (m := 4) (by omega) (by omega) h).1
  have k6 := (numR_ok (c := a5.1) (bs := a5.2.1) (m := 2) (by omega) (by omega) (by rw [show ((2 : Nat) : Int) = 2 from rfl, e6]; exact k7)).1
  have k5 := (stampR_ok (c := a4.1) (bs := a4.2.1) (by rw [e5]; exact k6)).1
  have k4 := (stampR_ok (c := a3.1) (bs := a3.2.1) (by rw [e4]; exact k5)).1
  have k3 := (textR_ok (c := a2.1) (bs := a2.2.1) (most := 32) (by rw [e3]; exact k4)).1
  have k2 := (flagR_ok (c := a1.1) (bs := a1.2.1) (by rw [e2]; exact k3)).1
  exact (textR_ok (c := c) (bs := bs) (most := 16) (by rw [e1]; exact k2)).1
theorem entR_ok (c : Int) (bs : List UInt8) (h : (entR c bs).1 = 0) : c = 0 ∧ bs = entB (entR c bs).2.2 ++ (entR c bs).2.1 := by
  have h1 : takeC c bs = 0 := h
  have h2 : (fieldsF c bs).a7.1 = 0 := by
    unfold takeC at h1
    split at h1
    · exact h1
    · exact absurd h1 (first_four _)
  have h0 := fieldsF_zero h2
  subst h0
  obtain ⟨m, e, ok, hb⟩ := fields_ok h2
  refine ⟨rfl, ?_⟩
  show bs = entB (takeE 0 bs) ++ takeB 0 bs
  have hE : takeE 0 bs = m.en := by rw [takeE, if_pos h1, e]
  have hn : enNe m.en = m := rfl
  rw [hE, entB, hn]
  exact hb
theorem fieldR_ok {i : Nat} {c : Int} {bs : List UInt8} {m : Ms} (h : (fieldR i c bs m).1 = 0) : c = 0 ∧ bs = fieldB (fieldR i c bs m).2.2 i ++ (fieldR i c bs m).2.1 := by
  match i with
  | 0 => exact nodeR_ok (show (nodeR c bs).1 = 0 from h)
  | 1 => exact nodeR_ok (show (nodeR c bs).1 = 0 from h)
  | 2 => exact flagR_ok (show (flagR c bs).1 = 0 from h)
  | 3 => exact manyR_ok (fun c bs => nodeR_ok) (show (manyR nodeR c bs).1 = 0 from h)
  | 4 => exact numR_ok (m := 4) (by omega) (by omega) (show (numR c bs 4).1 = 0 from h)
  | 5 => exact numR_ok (m := 8) (by omega) (by omega) (show (numR c bs 8).1 = 0 from h)
  | 6 => exact markR_ok c bs (show (markR c bs).1 = 0 from h)
  | 7 => exact manyR_ok markR_ok (show (manyR markR c bs).1 = 0 from h)
  | n + 8 => exact manyR_ok entR_ok (show (manyR entR c bs).1 = 0 from h)
theorem fieldR_far (i j : Nat) (hi : i < 9) (hj : j < 9) (hn : j ≠ i) (c : Int) (bs : List UInt8) (m : Ms) : fieldB (fieldR i c bs m).2.2 j = fieldB m j := by
  rcases (by omega : i = 0 ∨ i = 1 ∨ i = 2 ∨ i = 3 ∨ i = 4 ∨ i = 5 ∨ i = 6 ∨ i = 7 ∨ i = 8) with rfl | rfl | rfl | rfl | rfl | rfl | rfl | rfl | rfl <;>
  rcases (by omega : j = 0 ∨ j = 1 ∨ j = 2 ∨ j = 3 ∨ j = 4 ∨ j = 5 ∨ j = 6 ∨ j = 7 ∨ j = 8) with rfl | rfl | rfl | rfl | rfl | rfl | rfl | rfl | rfl <;>
  first | rfl | exact absurd rfl hn
theorem runB_far (i : Nat) (hi : i < 9) (c : Int) (bs : List UInt8) (m : Ms) : ∀ n, n ≤ i → runB (fieldR i c bs m).2.2 n = runB m n
  | 0, _ => rfl
  | n + 1, h => by
    show (if wHas (fieldR i c bs m).2.2.kd n = true then runB (fieldR i c bs m).2.2 n ++ fieldB (fieldR i c bs m).2.2 n else runB (fieldR i c bs m).2.2 n) = if wHas m.kd n = true then runB m n ++ fieldB m n else runB m n
    rw [fieldR_kd, runB_far i hi c bs m n (by omega), fieldR_far i n hi (by omega) (by omega)]
theorem runR_ok (k : Int) (bs : List UInt8) : ∀ n, n ≤ 9 → (runR k bs n).1 = 0 → bs = runB (runR k bs n).2.2 n ++ (runR k bs n).2.1
  | 0, _, _ => rfl
  | n + 1, hn, h => by
    have hk := runR_kd k bs n
    by_cases hh : wHas k n = true
    · have e : runR k bs (n + 1) = fieldR n (runR k bs n).1 (runR k bs n).2.1 (runR k bs n).2.2 := if_pos hh
      rw [e] at h ⊢
      have f := fieldR_ok h
      have i := runR_ok k bs n (by omega) f.1
      have e2 : runB (fieldR n (runR k bs n).1 (runR k bs n).2.1 (runR k bs n).2.2).2.2 (n + 1) = runB (runR k bs n).2.2 n ++ fieldB (fieldR n (runR k bs n).1 (runR k bs n).2.1 (runR k bs n).2.2).2.2 n := by
        show (if wHas (fieldR n (runR k bs n).1 (runR k bs n).2.1 (runR k bs n).2.2).2.2.kd n = true then _ else _) = _
        rw [fieldR_kd, hk, if_pos hh, runB_far n (by omega) _ _ _ n (Nat.le_refl _)]
      rw [e2, List.append_assoc, ← f.2]
      exact i
    · have e : runR k bs (n + 1) = runR k bs n := if_neg hh
      rw [e] at h ⊢
      have i := runR_ok k bs n (by omega) h
      have e2 : runB (runR k bs n).2.2 (n + 1) = runB (runR k bs n).2.2 n := by
        show (if wHas (runR k bs n).2.2.kd n = true then _ else _) = _
        rw [hk, if_neg hh]
      rw [e2]
      exact i
theorem wd_back {k : Int} {bs : List UInt8} (h : wdC k bs = 0) : wGood (wdM k bs) = 0 ∧ wEnc (wdM k bs) = bs ∧ (wdM k bs).kd = k := by
  have hM : wdM k bs = (runR k bs 9).2.2 := if_pos h
  unfold wdC at h
  split at h
  · split at h
    · next hd =>
      have h1 : (runR k bs 9).1 = 0 ∧ (runR k bs 9).2.1 = [] := by
        unfold doneCode at hd
        split at hd
        · exact absurd hd (first_four _)
        · next hl => exact ⟨hd, List.eq_nil_of_length_eq_zero (by omega)⟩
      have r := runR_ok k bs 9 (Nat.le_refl _) h1.1
      rw [h1.2, List.append_nil] at r
      rw [hM]
      exact ⟨h, r.symm, runR_kd k bs 9⟩
    · next hd => exact absurd h hd
  · exact absurd h (by omega)
end Go.Proofs.YtlieolehpmobfaaGreatDoor
end
section
namespace Go.Proofs.YtlieolehpmobfaaGreatDoor
open Go.ChangeShapes Go.WideShapes Go.ChangeAt Go.RowKit
set_option linter.unusedVariables false
theorem byt_in {w : World} {A : Option Addr} {len cap : Nat} {zs : List Int} (hl : len ≤ cap) (hm : cap ≤ maxLen) (hz : zs.length = cap) {x : Addr} (hA : A = some x)
    (hc : ∀ i, i < zs.length → w.cell? (x.add i) = some (.int .u8 (zs.getD i 0))) (hw : ∀ n ∈ zs, (Lit.int .u8 n).wf = true) :
    Byt w (fun b => b < w.heap.size) (.slice A len cap) ((zs.take len).map fun z => UInt8.ofNat z.toNat) := by
  subst hA
  have hn : ((zs.take len).map fun z => UInt8.ofNat z.toNat).length = len := by simp; omega
  refine ⟨_, cap, by rw [hn], by omega, hm, by simp, fun hp => ?_⟩
  rw [hn] at hp
  obtain ⟨b, off, spot⟩ := x
  have h0 := hc 0 (by omega)
  have hspot : spot = none := by simpa [Addr.add] using World.cell?_spot h0
  subst hspot
  refine ⟨b, off, rfl, World.block_lt_of_cell? w _ (by simpa [Addr.add] using h0), World.block_lt_of_cell? w _ (by simpa [Addr.add] using h0), fun j hj => ?_⟩
  rw [hn] at hj
  have h1 := hc j (by omega)
  have e2 : (⟨b, off, none⟩ : Addr).add j = ⟨b, off + j, none⟩ := by unfold Addr.add; split <;> simp_all
  rw [e2] at h1
  rw [h1]
  have hjl : j < zs.length := by omega
  have hwf := hw zs[j] (List.getElem_mem hjl)
  have hb := bounds_u8 hwf
  simp only [byt, List.getElem_map, List.getElem_take, List.getD_eq_getElem?_getD, List.getElem?_eq_getElem hjl, Option.getD_some]
  congr 2
  have : (UInt8.ofNat zs[j].toNat).toNat = zs[j].toNat := by simp; omega
  rw [this]
  omega
theorem byt_arg {H : Type} {enc : TypeId × Value → H} {W : World} {a : Option Addr} {len cap : Nat} {d : DataW H} {p : List MemPlace} (h : DataW.Trod enc Tryz.prog W 0 (fun _ => true) true 35 (.slice a len cap) d p) :
    ∃ bs, len = bs.length ∧ Byt W (fun b => b < W.heap.size) (.slice a len cap) bs := by
  obtain ⟨fuel, hf⟩ := h
  rcases open_ints Tryz.underlying35 Tryz.underlying5 (by kernel_rfl) hf with ⟨hcs, _⟩ | ⟨x, l, c, zs, hcs, _, hl, hm, hz, _, hcell, hwz⟩
  · simp [Value.cells] at hcs
    obtain ⟨rfl, rfl, rfl⟩ := hcs
    exact ⟨[], rfl, Byt.nil _ _⟩
  · simp [Value.cells] at hcs
    obtain ⟨rfl, rfl, rfl⟩ := hcs
    have hz' : zs.length = cap := by simpa using hz
    exact ⟨_, by simp; omega, byt_in hl hm hz' rfl hcell hwz⟩
end Go.Proofs.YtlieolehpmobfaaGreatDoor
end
section
namespace Go.Proofs.YtlieolehpmobfaaGreatDoor
open Go.Joins Go.ChangeShapes Go.WideShapes Go.ChangeAt Go.RowKit
set_option linter.all false
set_option maxRecDepth 100000
theorem gKinds : Tryz.prog.globalNamed "quidnunc/wire.kinds" = some 0 := by kernel_rfl
theorem tKinds : (Tryz.prog.globals[0]?).map (·.type) = some 140 := by kernel_rfl
def laidK {H : Type} : List (String × DataW H) := [("quidnunc/wire.kinds", Rows.laid_quidnunc_wire_kinds)]
theorem shape_cells {H : Type} {enc : TypeId × Value → H} {W : World} {sp : Nat → Bool} {held : Bool} (m : Nat) (cs : List Value) (x : DataW H × List MemPlace) (h : DataW.trod enc Tryz.prog W 0 sp held m 139 cs = some x) :
    ∃ (s : ByteArray) (a b c : Int), cs = [.string s, .int .i64 a, .int .i64 b, .int .i64 c] ∧ x.1 = .agg [.lit (.string s.data.toList), .lit (.int .i64 a), .lit (.int .i64 b), .lit (.int .i64 c)] := by
  obtain ⟨y0, y1, y2, y3, n, hx, hlen, g0, g1, g2, g3⟩ := trod_struct4 Tryz.underlying139 h
  have c4 : Tryz.prog.cellsOf 139 = 4 := by kernel_rfl
  have e9 : Tryz.prog.cellsOf 9 = 1 := by kernel_rfl
  have e3 : Tryz.prog.cellsOf 3 = 1 := by kernel_rfl
  rw [c4] at hlen
  match cs, hlen with
  | [c0, c1, c2, c3], _ =>
      simp only [e9, e3, List.drop_zero, List.drop_succ_cons, List.take_succ_cons, List.take_zero] at g0 g1 g2 g3
      obtain ⟨s, q0, r0, _⟩ := DataW.trod_string Tryz.underlying9 g0
      obtain ⟨a, q1, r1, _⟩ := DataW.trod_int Tryz.underlying3 g1
      obtain ⟨b, q2, r2, _⟩ := DataW.trod_int Tryz.underlying3 g2
      obtain ⟨c, q3, r3, _⟩ := DataW.trod_int Tryz.underlying3 g3
      simp only [List.cons.injEq, and_true] at q0 q1 q2 q3
      subst q0 q1 q2 q3 r0 r1 r2 r3
      exact ⟨s, a, b, c, rfl, by rw [hx]⟩
theorem kinds_at {H : Type} : ∀ k : Nat, k < 20 → (match (Rows.laid_quidnunc_wire_kinds : DataW H) with | .agg l => l[k]? | _ => none) = some (.agg [.lit (.string (wNm k).data.toList), .lit (.int .i64 (wFld k)), .lit (.int .i64 (wLo k)), .lit (.int .i64 (wUp k))]) := by
  intro k hk
  rcases (by omega : k = 0 ∨ k = 1 ∨ k = 2 ∨ k = 3 ∨ k = 4 ∨ k = 5 ∨ k = 6 ∨ k = 7 ∨ k = 8 ∨ k = 9 ∨ k = 10 ∨ k = 11 ∨ k = 12 ∨ k = 13 ∨ k = 14 ∨ k = 15 ∨ k = 16 ∨ k = 17 ∨ k = 18 ∨ k = 19) with rfl | rfl | rfl | rfl | rfl | rfl | rfl | rfl | rfl | rfl | rfl | rfl | rfl | rfl | rfl | rfl | rfl | rfl | rfl | rfl
  all_goals rfl
theorem kd_of_laid {W : World} (h : laidMetH Tryz.prog laidK W) : Kd W := by
  rw [MakeChecks.laidMetH_plain _ _ _ (by kernel_rfl)] at h
  obtain ⟨ps, ⟨g0, t0, cs0, f0, p0, q0, hg0, ht0, hv0, hd0, _, _⟩, _, _⟩ := h
  obtain rfl := Option.some.inj (gKinds.symm.trans hg0)
  obtain rfl := Option.some.inj (tKinds.symm.trans ht0)
  obtain ⟨xs, m1, _, hx1, hlen, hn3, hel⟩ := DataW.trod_array Tryz.underlying140 hd0
  have c4 : Tryz.prog.cellsOf 139 = 4 := by kernel_rfl
  have hc : ∀ k : Nat, k < 20 → ∀ j u, (shRow (wNm k) (wFld k) (wLo k) (wUp k)).toList[j]? = some u → W.cell? ⟨0, k * 4 + j, none⟩ = some u := by
    intro k hk j u hu
    obtain ⟨y, hy⟩ : ∃ y, xs[k]? = some y := ⟨_, List.getElem?_eq_getElem (by omega)⟩
    have g := hel k hk
    rw [hy, c4] at g
    obtain ⟨s, a, b, c, e1, e2⟩ := shape_cells m1 _ y g
    have hkk := kinds_at (H := Unit) k hk
    have hxx : (Rows.laid_quidnunc_wire_kinds : DataW Unit) = .agg (xs.map (·.1)) := (Prod.mk.inj hx1).1
    rw [hxx] at hkk
    simp only [List.getElem?_map, hy, Option.map_some, Option.some.injEq] at hkk
    rw [e2] at hkk
    simp only [DataW.agg.injEq, List.cons.injEq, DataW.lit.injEq, Lit.string.injEq, Lit.int.injEq, true_and, and_true] at hkk
    obtain ⟨h1, h2, h3, h4⟩ := hkk
    have hs : s = wNm k := key_ext h1
    subst hs h2 h3 h4
    rw [World.var?_cell hg0 hv0, ← Array.getElem?_toList]
    have hj : j < 4 := (List.getElem?_eq_some_iff.1 hu).1
    have e3 := congrArg (fun l => l[j]?) e1
    simp only [List.getElem?_take, List.getElem?_drop, hj, if_true] at e3
    rw [e3]
    exact hu
  refine ⟨?_, hc⟩
  have h0 := hc 0 (by omega) 0 _ rfl
  unfold World.cell? at h0
  by_cases hz : 0 < W.heap.size
  · exact hz
  · have e : W.heap[0]? = none := Array.getElem?_eq_none (by omega)
    simp [e] at h0
theorem door_met (os : Os) (args : Array Value) : laidMetH Tryz.prog laidK ((World.doorLaid Tryz.prog 400 os).forCall (fun _ _ => 0) ⟨#[], args, []⟩).memory :=
  laidMetH_of_parts3 (fuel := 8) (laidMet_of_run' 8 (by kernel_rfl) (by kernel_rfl)) (by kernel_rfl) (by kernel_rfl)
end Go.Proofs.YtlieolehpmobfaaGreatDoor
end
