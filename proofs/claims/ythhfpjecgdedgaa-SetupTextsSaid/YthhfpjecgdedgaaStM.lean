/- Stamps as plain values: which may be, which is later, the latest of a list; clocks. No statement of the seat is proved here. -/
import Derived.WalkKit
import Derived.Lib.Hide
namespace Go.Proofs.Ythhfpjecgdedgaa

structure St where
  c : Int
  s : Int
def stZero : St := ⟨0, 0⟩
def stSite (n : Int) : Bool := decide (0 ≤ n ∧ n ≤ 11)
def stGood (x : St) : Bool := decide (1 ≤ x.c ∧ x.c ≤ 4294967295) && stSite x.s
def cmpI (a b : Int) : Int := if a < b then -1 else if b < a then 1 else 0
def stCmp (x y : St) : Int := if x.c = y.c then cmpI x.s y.s else cmpI x.c y.c
def stLater (x y : St) : Bool := if x.c = y.c then decide (y.s < x.s) else decide (y.c < x.c)
def stMax (m y : St) : St := if 0 < stCmp y m then y else m
def stLatest : List St → St
  | [] => stZero
  | x :: l => l.foldl stMax x

theorem St.eq {x y : St} (h1 : x.c = y.c) (h2 : x.s = y.s) : x = y := by cases x; cases y; simp_all
theorem cmpI_pos (a b : Int) : 0 < cmpI a b ↔ b < a := by unfold cmpI; split <;> (try split) <;> omega
theorem cmpI_neg (a b : Int) : cmpI b a = - cmpI a b := by unfold cmpI; split <;> (try split) <;> (try split) <;> omega
theorem cmpI_zero (a b : Int) : cmpI a b = 0 ↔ a = b := by unfold cmpI; split <;> (try split) <;> omega
theorem stCmp_pos (x y : St) : 0 < stCmp x y ↔ stLater x y = true := by
  unfold stCmp stLater
  split
  · rw [cmpI_pos, decide_eq_true_eq]
  · rw [cmpI_pos, decide_eq_true_eq]
theorem stCmp_neg (x y : St) : stCmp y x = - stCmp x y := by
  unfold stCmp
  by_cases h : x.c = y.c
  · rw [if_pos h, if_pos h.symm, cmpI_neg]
  · rw [if_neg h, if_neg (fun e => h e.symm), cmpI_neg]
theorem stCmp_zero (x y : St) : stCmp x y = 0 ↔ x = y := by
  unfold stCmp
  constructor
  · intro h
    split at h
    · next e => exact St.eq e ((cmpI_zero _ _).1 h)
    · next e => exact absurd ((cmpI_zero _ _).1 h) e
  · rintro rfl
    rw [if_pos rfl, cmpI_zero]
theorem later_def (x y : St) : stLater x y = true ↔ y.c < x.c ∨ (x.c = y.c ∧ y.s < x.s) := by
  unfold stLater
  split
  · next h => rw [decide_eq_true_eq]; omega
  · next h => rw [decide_eq_true_eq]; omega
theorem later_false (x y : St) : stLater x y = false ↔ ¬ (y.c < x.c ∨ (x.c = y.c ∧ y.s < x.s)) := by
  rw [← later_def]
  cases stLater x y <;> simp
theorem cmpI_one {a b : Int} (h : b < a) : cmpI a b = 1 := by unfold cmpI; rw [if_neg (by omega), if_pos h]
theorem stCmp_one {x y : St} (h : stLater x y = true) : stCmp x y = 1 := by
  rw [later_def] at h
  unfold stCmp
  by_cases e : x.c = y.c
  · rw [if_pos e]; exact cmpI_one (by omega)
  · rw [if_neg e]; exact cmpI_one (by omega)
/-- The law's want: 1 if the first is later, -1 if the second is. -/
theorem cmp_want (x y : St) : stCmp x y = (if stLater y x = true then -1 else if stLater x y = true then 1 else 0) := by
  by_cases h1 : stLater y x = true
  · rw [if_pos h1, stCmp_neg, stCmp_one h1]
  · rw [if_neg h1]
    have n1 : ¬ 0 < stCmp y x := fun h => h1 ((stCmp_pos y x).1 h)
    rw [stCmp_neg] at n1
    by_cases h2 : stLater x y = true
    · rw [if_pos h2, stCmp_one h2]
    · rw [if_neg h2]
      have n2 : ¬ 0 < stCmp x y := fun h => h2 ((stCmp_pos x y).1 h)
      omega
theorem max_ge (m y : St) : stLater m (stMax m y) = false ∧ stLater y (stMax m y) = false := by
  unfold stMax
  have e := stCmp_pos y m
  by_cases h : 0 < stCmp y m
  · rw [if_pos h]
    have h1 := (later_def _ _).1 (e.1 h)
    exact ⟨(later_false _ _).2 (by omega), (later_false _ _).2 (by omega)⟩
  · rw [if_neg h]
    refine ⟨(later_false _ _).2 (by omega), ?_⟩
    cases hh : stLater y m
    · rfl
    · exact absurd (e.2 hh) h
theorem max_one (m y : St) : stMax m y = m ∨ stMax m y = y := by
  unfold stMax
  split
  · exact .inr rfl
  · exact .inl rfl
theorem later_trans {x y z : St} (h1 : stLater x y = false) (h2 : stLater y z = false) : stLater x z = false := by
  rw [later_false] at h1 h2 ⊢
  omega
theorem later_anti {x y : St} (h1 : stLater x y = false) (h2 : stLater y x = false) : x = y := by
  rw [later_false] at h1 h2
  exact St.eq (by omega) (by omega)
theorem fold_top : ∀ (l : List St) (m : St), stLater m (l.foldl stMax m) = false ∧ (∀ x ∈ l, stLater x (l.foldl stMax m) = false) ∧ (l.foldl stMax m = m ∨ l.foldl stMax m ∈ l)
  | [], m => ⟨(later_false _ _).2 (by simp), by simp, .inl rfl⟩
  | y :: l, m => by
    obtain ⟨h1, h2, h3⟩ := fold_top l (stMax m y)
    obtain ⟨g1, g2⟩ := max_ge m y
    refine ⟨later_trans g1 h1, fun x hx => ?_, ?_⟩
    · rcases List.mem_cons.1 hx with rfl | hx
      · exact later_trans g2 h1
      · exact h2 x hx
    · rw [List.foldl_cons]
      rcases h3 with h3 | h3
      · rw [h3]
        rcases max_one m y with h | h
        · exact .inl h
        · exact .inr (by simp [h])
      · exact .inr (List.mem_cons_of_mem _ h3)
/-- None is later than the latest one, which is one of them. -/
theorem latest_top {l : List St} (h : l ≠ []) : stLatest l ∈ l ∧ ∀ x ∈ l, stLater x (stLatest l) = false := by
  cases l with
  | nil => exact absurd rfl h
  | cons y l =>
    obtain ⟨h1, h2, h3⟩ := fold_top l y
    refine ⟨?_, fun x hx => ?_⟩
    · rcases h3 with h3 | h3
      · exact List.mem_cons.2 (.inl h3)
      · exact List.mem_cons_of_mem _ h3
    · rcases List.mem_cons.1 hx with rfl | hx
      · exact h1
      · exact h2 x hx
theorem latest_is {l : List St} {m : St} (h1 : m ∈ l) (h2 : ∀ x ∈ l, stLater x m = false) : stLatest l = m := by
  obtain ⟨g1, g2⟩ := latest_top (l := l) (fun e => by rw [e] at h1; cases h1)
  exact later_anti (h2 _ g1) (g2 _ h1)
end Go.Proofs.Ythhfpjecgdedgaa
