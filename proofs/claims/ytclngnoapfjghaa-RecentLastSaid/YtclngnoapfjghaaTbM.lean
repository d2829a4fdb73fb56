/- Tables as plain values: keys in order, the place of a key, what is put and dropped. No statement of the seat is proved here. -/
import Derived.Test.YtclngnoapfjghaaBase
import Derived.Lib.Bytealg
import Derived.Lib.Strings
namespace Go.Proofs.Ytclngnoapfjghaa
open Go.RowKit
set_option linter.all false

/-- Is one key below another one? -/
def lt_ (a b : ByteArray) : Bool := Op.bytesLess a.data.toList b.data.toList
theorem less_cmp : ∀ a b : List UInt8, (Op.bytesLess a b = decide (Lib.compareBytes a b < 0)) ∧ (Lib.compareBytes a b = 0 → a = b) ∧ (Lib.compareBytes b a = - Lib.compareBytes a b) ∧ (-1 ≤ Lib.compareBytes a b ∧ Lib.compareBytes a b ≤ 1)
  | [], [] => by simp [Op.bytesLess, Lib.compareBytes]
  | _ :: _, [] => by simp [Op.bytesLess, Lib.compareBytes]
  | [], _ :: _ => by simp [Op.bytesLess, Lib.compareBytes]
  | a :: x, b :: y => by
    obtain ⟨h1, h2, h3, h4⟩ := less_cmp x y
    unfold Op.bytesLess Lib.compareBytes
    rw [h1]
    by_cases hab : a = b
    · subst hab
      have hlt : ¬ a < a := UInt8.lt_irrefl a
      simp only [hlt, decide_false, Bool.false_or, beq_self_eq_true, Bool.true_and, if_false]
      exact ⟨trivial, fun h => by rw [h2 h], h3, h4⟩
    · by_cases hlt : a < b
      · have h5 : ¬ b < a := fun h => UInt8.lt_irrefl a (UInt8.lt_trans hlt h)
        simp [hlt, h5]
      · have h5 : b < a := UInt8.lt_of_le_of_ne (UInt8.not_lt.1 hlt) (Ne.symm hab)
        simp [hlt, h5, hab]
theorem cmp_self : ∀ a : List UInt8, Lib.compareBytes a a = 0
  | [] => rfl
  | a :: x => by unfold Lib.compareBytes; simp [UInt8.lt_irrefl, cmp_self x]
theorem less_trans : ∀ a b c : List UInt8, Op.bytesLess a b = true → Op.bytesLess b c = true → Op.bytesLess a c = true
  | _, [], _ => fun h => by cases ‹List UInt8› <;> simp [Op.bytesLess] at h
  | _, _ :: _, [] => fun _ h => by simp [Op.bytesLess] at h
  | [], _ :: _, _ :: _ => fun _ _ => by simp [Op.bytesLess]
  | a :: x, b :: y, c :: z => fun h k => by
    unfold Op.bytesLess at h k ⊢
    simp only [Bool.or_eq_true, decide_eq_true_eq, Bool.and_eq_true, beq_iff_eq] at h k ⊢
    rcases h with h | ⟨rfl, h⟩
    · rcases k with k | ⟨rfl, k⟩
      · exact .inl (UInt8.lt_trans h k)
      · exact .inl h
    · rcases k with k | ⟨rfl, k⟩
      · exact .inl k
      · exact .inr ⟨rfl, less_trans x y z h k⟩
theorem lt_cmp (a b : ByteArray) : lt_ a b = decide (Lib.compareBytes a.data.toList b.data.toList < 0) := (less_cmp _ _).1
theorem lt_irr (a : ByteArray) : lt_ a a = false := by rw [lt_cmp, cmp_self]; rfl
theorem lt_tr {a b c : ByteArray} (h : lt_ a b = true) (k : lt_ b c = true) : lt_ a c = true := less_trans _ _ _ h k
theorem key_ext {a b : ByteArray} (h : a.data.toList = b.data.toList) : a = b := by
  obtain ⟨⟨a⟩⟩ := a
  obtain ⟨⟨b⟩⟩ := b
  simpa using h
theorem lt_tri {a b : ByteArray} (h : lt_ a b = false) (k : lt_ b a = false) : a = b := by
  obtain ⟨h1, h2, h3, h4⟩ := less_cmp a.data.toList b.data.toList
  rw [lt_cmp] at h k
  rw [h3] at k
  have h5 : Lib.compareBytes a.data.toList b.data.toList = 0 := by
    have e1 := of_decide_eq_false h
    have e2 := of_decide_eq_false k
    omega
  exact key_ext (h2 h5)
theorem cmp_zero (a b : ByteArray) : (Lib.compareBytes a.data.toList b.data.toList == 0) = decide (a = b) := by
  by_cases h : a = b
  · subst h; simp [cmp_self]
  · simp only [h, decide_false, beq_eq_false_iff_ne, ne_eq]
    exact fun e => h (key_ext ((less_cmp _ _).2.1 e))
theorem cmp_neg (a b : ByteArray) : decide (Lib.compareBytes a.data.toList b.data.toList < 0) = lt_ a b := (lt_cmp a b).symm
theorem cmp_i64 (a b : ByteArray) : -1 ≤ Lib.compareBytes a.data.toList b.data.toList ∧ Lib.compareBytes a.data.toList b.data.toList ≤ 1 := (less_cmp _ _).2.2.2

/-- A key, and what it has. -/
structure Pr (α : Type) where
  k : ByteArray
  v : α
section
variable {α : Type}
/-- Keys that rise. -/
def Ris (l : List (Pr α)) : Prop := ∀ i j : Nat, ∀ hi : i < l.length, ∀ hj : j < l.length, i < j → lt_ l[i].k l[j].k = true
/-- How many keys are below one. -/
def rnk (l : List (Pr α)) (x : ByteArray) : Nat := l.countP fun p => lt_ p.k x
/-- Is a key there? -/
def has (l : List (Pr α)) (x : ByteArray) : Bool := l.any fun p => decide (p.k = x)
theorem rnk_le (l : List (Pr α)) (x : ByteArray) : rnk l x ≤ l.length := List.countP_le_length
theorem ris_nil : Ris ([] : List (Pr α)) := fun i _ h => absurd h (by simp)
theorem ris_tail {p : Pr α} {l : List (Pr α)} (h : Ris (p :: l)) : Ris l := fun i j hi hj hij => h (i + 1) (j + 1) (by simpa using hi) (by simpa using hj) (by omega)
theorem ris_head {p : Pr α} {l : List (Pr α)} (h : Ris (p :: l)) (q : Pr α) (hq : q ∈ l) : lt_ p.k q.k = true := by
  obtain ⟨j, hj, rfl⟩ := List.mem_iff_getElem.1 hq
  exact h 0 (j + 1) (by simp) (by simpa using hj) (by omega)
/-- Just the first ones are below. -/
theorem rnk_at {l : List (Pr α)} (h : Ris l) (x : ByteArray) : ∀ i (hi : i < l.length), lt_ l[i].k x = decide (i < rnk l x) := by
  induction l with
  | nil => intro i hi; simp at hi
  | cons p l ih =>
    intro i hi
    have ih := ih (ris_tail h)
    have hc : rnk (p :: l) x = rnk l x + if lt_ p.k x = true then 1 else 0 := by simp [rnk, List.countP_cons]
    by_cases hp : lt_ p.k x = true
    · rw [hc, if_pos hp]
      cases i with
      | zero => simp [hp]
      | succ i => rw [List.getElem_cons_succ, ih i (by simpa using hi)]; congr 1; simp
    · have hz : rnk l x = 0 := by
        refine List.countP_eq_zero.2 (fun q hq hlt => hp (lt_tr (ris_head h q hq) hlt))
      rw [hc, if_neg hp, hz]
      cases i with
      | zero => simpa using hp
      | succ i =>
        rw [List.getElem_cons_succ, ih i (by simpa using hi), hz]
        simp
/-- A number that parts those below from the others is the rank. -/
theorem rnk_of {l : List (Pr α)} (h : Ris l) (x : ByteArray) (n : Nat) (hn : n ≤ l.length) (h1 : ∀ i (hi : i < l.length), i < n → lt_ l[i].k x = true) (h2 : ∀ (hi : n < l.length), lt_ l[n].k x = false) : n = rnk l x := by
  have hr := rnk_le l x
  rcases Nat.lt_trichotomy n (rnk l x) with hlt | he | hgt
  · have := h2 (by omega)
    rw [rnk_at h] at this
    simp at this; omega
  · exact he
  · have := h1 (rnk l x) (by omega) hgt
    rw [rnk_at h] at this
    simp at this
/-- A key that is there stands at its rank. -/
theorem has_at {l : List (Pr α)} (h : Ris l) (x : ByteArray) : has l x = (decide (rnk l x < l.length) && decide (∃ hi : rnk l x < l.length, l[rnk l x].k = x)) := by
  rw [Bool.eq_iff_iff]
  simp only [has, List.any_eq_true, decide_eq_true_eq, Bool.and_eq_true]
  constructor
  · rintro ⟨p, hp, rfl⟩
    obtain ⟨i, hi, rfl⟩ := List.mem_iff_getElem.1 hp
    have hr : i = rnk l l[i].k := by
      refine rnk_of h _ i (by omega) (fun j hj hji => h j i hj hi hji) (fun _ => lt_irr _)
    have hr2 : rnk l l[i].k < l.length := by omega
    refine ⟨hr2, hr2, ?_⟩
    have : l[rnk l l[i].k] = l[i] := by congr 1; exact hr.symm
    rw [this]
  · rintro ⟨_, hi, e⟩
    exact ⟨_, List.getElem_mem hi, e⟩
/-- A key that isn't there has none at its rank. -/
theorem not_has {l : List (Pr α)} {x : ByteArray} (h : has l x = false) (i : Nat) (hi : i < l.length) : l[i].k ≠ x := fun e => by
  have : has l x = true := List.any_eq_true.2 ⟨_, List.getElem_mem hi, by simpa using e⟩
  rw [h] at this; cases this
/-- Behind its rank all are above a key. -/
theorem above {l : List (Pr α)} (h : Ris l) {x : ByteArray} (hx : has l x = false) (i : Nat) (hi : i < l.length) (hr : rnk l x ≤ i) : lt_ x l[i].k = true := by
  have h1 : lt_ l[i].k x = false := by rw [rnk_at h]; simp; omega
  cases h2 : lt_ x l[i].k with
  | true => rfl
  | false => exact absurd (lt_tri h1 h2) (not_has hx i hi)

/-- What a table holds behind a put, and behind a drop. -/
def putL (l : List (Pr α)) (x : ByteArray) (v : α) : List (Pr α) := if has l x then l.set (rnk l x) ⟨x, v⟩ else l.take (rnk l x) ++ ⟨x, v⟩ :: l.drop (rnk l x)
def dropL (l : List (Pr α)) (x : ByteArray) : List (Pr α) := if has l x then l.take (rnk l x) ++ l.drop (rnk l x + 1) else l
theorem put_len (l : List (Pr α)) (x : ByteArray) (v : α) : (putL l x v).length = if has l x then l.length else l.length + 1 := by
  have := rnk_le l x
  unfold putL
  split
  · simp
  · simp; omega
theorem ris_set {l : List (Pr α)} (h : Ris l) (n : Nat) (p : Pr α) (hp : ∀ hn : n < l.length, l[n].k = p.k) : Ris (l.set n p) := by
  intro i j hi hj hij
  have hi' : i < l.length := by simpa using hi
  have hj' : j < l.length := by simpa using hj
  have e : ∀ m (hm : m < l.length), ((l.set n p)[m]'(by simpa using hm)).k = l[m].k := by
    intro m hm
    rw [List.getElem_set]
    split
    · next e => subst e; exact (hp hm).symm
    · rfl
  rw [e i hi', e j hj']
  exact h i j hi' hj' hij
theorem ris_put {l : List (Pr α)} (h : Ris l) (x : ByteArray) (v : α) : Ris (putL l x v) := by
  unfold putL
  by_cases hx : has l x = true
  · rw [if_pos hx]
    refine ris_set h _ _ (fun hn => ?_)
    rw [has_at h] at hx
    simp only [Bool.and_eq_true, decide_eq_true_eq] at hx
    obtain ⟨_, _, e⟩ := hx
    exact e
  · have hx' : has l x = false := by simpa using hx
    rw [if_neg hx]
    have hr := rnk_le l x
    have g : ∀ m (hm : m < (l.take (rnk l x) ++ (⟨x, v⟩ : Pr α) :: l.drop (rnk l x)).length), ((l.take (rnk l x) ++ (⟨x, v⟩ : Pr α) :: l.drop (rnk l x))[m]'hm).k = if hlt : m < rnk l x then (l[m]'(by omega)).k else if he : m = rnk l x then x else (l[m - 1]'(by simp at hm; omega)).k := by
      intro m hm
      rw [List.getElem_append]
      by_cases h1 : m < rnk l x
      · rw [dif_pos (by simp; omega), dif_pos h1, List.getElem_take]
      · rw [dif_neg (by simp; omega), dif_neg h1]
        have hl : (l.take (rnk l x)).length = rnk l x := by simp; omega
        by_cases h2 : m = rnk l x
        · rw [dif_pos h2]
          subst h2
          simp only [hl, Nat.sub_self, List.getElem_cons_zero]
        · rw [dif_neg h2]
          obtain ⟨q, hq⟩ : ∃ q, m - (l.take (rnk l x)).length = q + 1 := ⟨m - rnk l x - 1, by rw [hl]; omega⟩
          simp only [hq, List.getElem_cons_succ, List.getElem_drop]
          congr 2
          omega
    intro i j hi hj hij
    rw [g i hi, g j hj]
    have hlen : (l.take (rnk l x) ++ (⟨x, v⟩ : Pr α) :: l.drop (rnk l x)).length = l.length + 1 := by simp; omega
    rw [hlen] at hi hj
    by_cases h1 : j < rnk l x
    · rw [dif_pos (by omega : i < rnk l x), dif_pos h1]
      exact h i j _ _ hij
    · by_cases h2 : j = rnk l x
      · rw [dif_pos (by omega : i < rnk l x), dif_neg h1, dif_pos h2, rnk_at h]
        simp; omega
      · rw [dif_neg h1, dif_neg h2]
        by_cases h3 : i < rnk l x
        · rw [dif_pos h3]
          exact h i (j - 1) _ _ (by omega)
        · rw [dif_neg h3]
          by_cases h4 : i = rnk l x
          · rw [dif_pos h4]
            exact above h hx' (j - 1) _ (by omega)
          · rw [dif_neg h4]
            exact h (i - 1) (j - 1) _ _ (by omega)
theorem ris_cut {l : List (Pr α)} (h : Ris l) (n : Nat) : Ris (l.take n ++ l.drop (n + 1)) := by
  by_cases hn : n < l.length
  · have hl : (l.take n).length = n := by simp; omega
    have g : ∀ m (hm : m < (l.take n ++ l.drop (n + 1)).length), (l.take n ++ l.drop (n + 1))[m]'hm = if hlt : m < n then l[m]'(by omega) else l[m + 1]'(by simp at hm; omega) := by
      intro m hm
      rw [List.getElem_append]
      by_cases h1 : m < n
      · rw [dif_pos (by omega), dif_pos h1, List.getElem_take]
      · rw [dif_neg (by omega), dif_neg h1, List.getElem_drop]
        congr 1
        omega
    intro i j hi hj hij
    rw [g i hi, g j hj]
    by_cases h1 : j < n
    · rw [dif_pos (by omega : i < n), dif_pos h1]; exact h i j _ _ hij
    · rw [dif_neg h1]
      by_cases h2 : i < n
      · rw [dif_pos h2]; exact h i (j + 1) _ _ (by omega)
      · rw [dif_neg h2]; exact h (i + 1) (j + 1) _ _ (by omega)
  · rw [List.take_of_length_le (by omega), List.drop_of_length_le (by omega), List.append_nil]
    exact h
theorem ris_drop {l : List (Pr α)} (h : Ris l) (x : ByteArray) : Ris (dropL l x) := by
  unfold dropL
  split
  · exact ris_cut h _
  · exact h
theorem drop_len (l : List (Pr α)) (x : ByteArray) : (dropL l x).length ≤ l.length := by
  unfold dropL
  split
  · simp; omega
  · exact Nat.le_refl _
end
end Go.Proofs.Ytclngnoapfjghaa
