/- Which versions are newer, as plain values: an order. No statement of the seat is proved here. -/
import Derived.Test.YtkddmdgehnijiaaEnM
namespace Go.Proofs.Ytkddmdgehnijiaa
set_option maxRecDepth 100000

def nwP (x y : En) : Prop := y.s.c < x.s.c ∨ (x.s.c = y.s.c ∧ y.s.s < x.s.s) ∨ (x.s.c = y.s.c ∧ x.s.s = y.s.s ∧ (y.a.c < x.a.c ∨ (x.a.c = y.a.c ∧ y.a.s < x.a.s)))
theorem newer_def (x y : En) : enNewer x y = true ↔ nwP x y := by
  unfold enNewer nwP
  by_cases h : stEq x.s y.s = true
  · rw [if_pos h, later_def]
    rw [stEq_iff] at h
    rw [h]
    omega
  · rw [if_neg h, later_def]
    have h1 : ¬ (x.s.c = y.s.c ∧ x.s.s = y.s.s) := fun e => h ((stEq_iff _ _).2 (St.eq e.1 e.2))
    omega
theorem newer_no (x y : En) : enNewer x y = false ↔ ¬ nwP x y := by
  rw [← newer_def]
  cases enNewer x y <;> simp
theorem stEq_no (x y : St) : stEq x y = false ↔ ¬ (x.c = y.c ∧ x.s = y.s) := by
  rw [← Bool.not_eq_true, stEq_iff]
  exact ⟨fun h e => h (St.eq e.1 e.2), fun h e => h (by rw [e]; exact ⟨rfl, rfl⟩)⟩
theorem newer_self (x : En) : enNewer x x = false := by
  rw [newer_no]
  unfold nwP
  omega
/-- The ways that the law of three versions goes. -/
theorem orders_ways (a b c : En) (p q r s e1 e2 : Bool) (hp : enNewer a b = p) (hq : enNewer b a = q) (hr : enNewer b c = r) (hs : enNewer a c = s) (h1 : stEq a.s b.s = e1) (h2 : stEq a.a b.a = e2) :
    (p = true ∧ q = false ∧ r = true ∧ s = true ∧ e1 = true ∧ e2 = false) ∨ (p = true ∧ q = false ∧ r = true ∧ s = true ∧ e1 = false) ∨ (p = true ∧ q = false ∧ r = false ∧ e1 = true ∧ e2 = false) ∨ (p = true ∧ q = false ∧ r = false ∧ e1 = false) ∨
    (p = false ∧ q = true ∧ e1 = true ∧ e2 = false) ∨ (p = false ∧ q = true ∧ e1 = false) ∨ (p = false ∧ q = false ∧ e1 = true ∧ e2 = true) := by
  subst hp hq hr hs h1 h2
  by_cases hP : nwP a b
  · have hQ : ¬ nwP b a := by unfold nwP at *; omega
    rw [(newer_def a b).2 hP, (newer_no b a).2 hQ]
    have hE : ¬ (stEq a.s b.s = true ∧ stEq a.a b.a = true) := by
      rintro ⟨h1, h2⟩
      rw [stEq_iff] at h1 h2
      unfold nwP at hP
      rw [h1, h2] at hP
      omega
    by_cases hR : nwP b c
    · have hS : nwP a c := by unfold nwP at *; omega
      rw [(newer_def b c).2 hR, (newer_def a c).2 hS]
      cases h1 : stEq a.s b.s <;> cases h2 : stEq a.a b.a <;> simp_all
    · rw [(newer_no b c).2 hR]
      cases h1 : stEq a.s b.s <;> cases h2 : stEq a.a b.a <;> simp_all
  · by_cases hQ : nwP b a
    · rw [(newer_no a b).2 hP, (newer_def b a).2 hQ]
      have hE : ¬ (stEq a.s b.s = true ∧ stEq a.a b.a = true) := by
        rintro ⟨h1, h2⟩
        rw [stEq_iff] at h1 h2
        unfold nwP at hQ
        rw [h1, h2] at hQ
        omega
      cases h1 : stEq a.s b.s <;> cases h2 : stEq a.a b.a <;> simp_all
    · rw [(newer_no a b).2 hP, (newer_no b a).2 hQ]
      have h1 : stEq a.s b.s = true := by
        rw [stEq_iff]
        unfold nwP at *
        exact St.eq (by omega) (by omega)
      have h2 : stEq a.a b.a = true := by
        rw [stEq_iff]
        unfold nwP at *
        exact St.eq (by omega) (by omega)
      simp [h1, h2]
end Go.Proofs.Ytkddmdgehnijiaa
