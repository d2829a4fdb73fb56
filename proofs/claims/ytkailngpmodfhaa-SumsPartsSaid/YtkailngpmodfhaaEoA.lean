/- Entries that may be, as plain values; what Encode of package entry does. No statement of the seat is proved here. -/
import Derived.Test.YtkailngpmodfhaaEnZ
namespace Go.Proofs.Ytkailngpmodfhaa
open Go.RowKit
set_option maxRecDepth 100000

/-- An entry that may be has numbers no less than 0. -/
theorem chk_ne {e : En} (h : enCheck e = 0) : ∃ m : Ne, e = m.en ∧ m.ok ∧ m.k.size ≤ 16 ∧ m.v.size ≤ 32 := by
  obtain ⟨k, v, d, ⟨sc, ss⟩, ⟨ac, as_⟩, p, q⟩ := e
  unfold enCheck at h
  have e1 : enKeyBad ⟨k, v, d, ⟨sc, ss⟩, ⟨ac, as_⟩, p, q⟩ = false := by
    cases hb : enKeyBad ⟨k, v, d, ⟨sc, ss⟩, ⟨ac, as_⟩, p, q⟩ with
    | false => rfl
    | true => rw [hb, if_pos rfl] at h; omega
  rw [e1, if_neg (by simp)] at h
  have e2 : enValBad ⟨k, v, d, ⟨sc, ss⟩, ⟨ac, as_⟩, p, q⟩ = false := by
    cases hb : enValBad ⟨k, v, d, ⟨sc, ss⟩, ⟨ac, as_⟩, p, q⟩ with
    | false => rfl
    | true => rw [hb, if_pos rfl] at h; omega
  rw [e2, if_neg (by simp)] at h
  have e3 : enStBad ⟨k, v, d, ⟨sc, ss⟩, ⟨ac, as_⟩, p, q⟩ = false := by
    cases hb : enStBad ⟨k, v, d, ⟨sc, ss⟩, ⟨ac, as_⟩, p, q⟩ with
    | false => rfl
    | true => rw [hb, if_pos rfl] at h; omega
  rw [e3, if_neg (by simp)] at h
  have e4 : enRestBad ⟨k, v, d, ⟨sc, ss⟩, ⟨ac, as_⟩, p, q⟩ = false := by
    cases hb : enRestBad ⟨k, v, d, ⟨sc, ss⟩, ⟨ac, as_⟩, p, q⟩ with
    | false => rfl
    | true => rw [hb, if_pos rfl] at h; omega
  simp only [enKeyBad, Bool.or_eq_false_iff, decide_eq_false_iff_not] at e1
  simp only [enValBad, Bool.or_eq_false_iff, decide_eq_false_iff_not] at e2
  simp only [enStBad, Bool.or_eq_false_iff, Bool.not_eq_false', Bool.and_eq_true, stGood, stSite, decide_eq_true_eq] at e3
  have hp : 0 ≤ p ∧ p ≤ 4095 ∧ 0 ≤ q ∧ q ≤ 2147483647 := by
    cases d
    · simp only [enRestBad, enLive, Bool.not_eq_false', if_false, Bool.false_eq_true, Bool.and_eq_true, beq_iff_eq] at e4
      omega
    · simp only [enRestBad, enCert, Bool.not_eq_false', if_true, Bool.and_eq_true, decide_eq_true_eq] at e4
      omega
  refine ⟨⟨k, v, d, sc.toNat, ss.toNat, ac.toNat, as_.toNat, p.toNat, q.toNat⟩, ?_, ⟨?_, ?_, ?_, ?_, ?_, ?_, ?_, ?_⟩, ?_, ?_⟩
  · simp only [Ne.en]
    congr 1
    · congr 1 <;> omega
    · congr 1 <;> omega
    · omega
    · omega
  all_goals dsimp only
  all_goals omega
end Go.Proofs.Ytkailngpmodfhaa
