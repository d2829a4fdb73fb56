/- Lists that rise are told by their keys; keys put in whatever order. No statement of the seat is proved here. -/
import Derived.Test.YtkailngpmodfhaaTbEs
namespace Go.Proofs.Ytkailngpmodfhaa
open Go.RowKit
set_option linter.all false

section
variable {α : Type}
theorem has_iff (l : List (Pr α)) (y : ByteArray) : has l y = true ↔ ∃ p ∈ l, p.k = y := by simp [has]
theorem has_cons (p : Pr α) (l : List (Pr α)) (y : ByteArray) : has (p :: l) y = (decide (p.k = y) || has l y) := rfl
theorem has_set {l : List (Pr α)} {r : Nat} {x : ByteArray} {v : α} (hr : r < l.length) (hx : l[r].k = x) (y : ByteArray) : has (l.set r ⟨x, v⟩) y = has l y := by
  rw [Bool.eq_iff_iff, has_iff, has_iff]
  constructor
  · rintro ⟨p, hp, rfl⟩
    rcases List.mem_or_eq_of_mem_set hp with h | rfl
    · exact ⟨p, h, rfl⟩
    · exact ⟨l[r], List.getElem_mem hr, hx⟩
  · rintro ⟨p, hp, rfl⟩
    obtain ⟨i, hi, rfl⟩ := List.mem_iff_getElem.1 hp
    by_cases h : i = r
    · subst h
      exact ⟨⟨x, v⟩, List.mem_iff_getElem.2 ⟨i, by simpa using hi, by simp⟩, hx.symm⟩
    · exact ⟨l[i], List.mem_iff_getElem.2 ⟨i, by simpa using hi, by simp [List.getElem_set, Ne.symm h]⟩, rfl⟩
theorem has_put {l : List (Pr α)} (hr : Ris l) (x : ByteArray) (v : α) (y : ByteArray) : has (putL l x v) y = (decide (x = y) || has l y) := by
  unfold putL
  by_cases hx : has l x = true
  · rw [if_pos hx]
    have hat := has_at hr x
    rw [hx] at hat
    have hat := hat.symm
    simp only [Bool.and_eq_true, decide_eq_true_eq] at hat
    obtain ⟨h1, h2, h3⟩ := hat
    rw [has_set h1 h3]
    by_cases hxy : x = y
    · subst hxy; simp [hx]
    · simp [hxy]
  · rw [if_neg hx]
    have e : has l y = (has (l.take (rnk l x)) y || has (l.drop (rnk l x)) y) := by
      unfold has
      rw [← List.any_append, List.take_append_drop]
    rw [e]
    simp only [has, List.any_append, List.any_cons]
    generalize (l.take (rnk l x)).any _ = b1
    generalize (l.drop (rnk l x)).any _ = b2
    cases decide (x = y) <;> cases b1 <;> cases b2 <;> rfl
theorem ris_ext : ∀ (l m : List (Pr α)), Ris l → Ris m → (∀ y, has l y = has m y) → l.map (·.k) = m.map (·.k)
  | [], [], _, _, _ => rfl
  | [], q :: m, _, _, h => by have := h q.k; rw [has_cons] at this; simp [has] at this
  | p :: l, [], _, _, h => by have := h p.k; rw [has_cons] at this; simp [has] at this
  | p :: l, q :: m, hl, hm, h => by
    have no : ∀ (a : Pr α) (t : List (Pr α)), Ris (a :: t) → ∀ y, lt_ y a.k = true → has (a :: t) y = false := fun a t ht y hy => by
      cases hh : has (a :: t) y with
      | false => rfl
      | true =>
        obtain ⟨z, hz, rfl⟩ := (has_iff _ _).1 hh
        rcases List.mem_cons.1 hz with rfl | hz
        · rw [lt_irr] at hy; cases hy
        · have := lt_tr hy (ris_head ht z hz); rw [lt_irr] at this; cases this
    have self : ∀ (a : Pr α) (t : List (Pr α)), has (a :: t) a.k = true := fun a t => by rw [has_cons]; simp
    have e1 : lt_ p.k q.k = false := by
      cases hh : lt_ p.k q.k with
      | false => rfl
      | true => have := no q m hm _ hh; rw [← h, self] at this; cases this
    have e2 : lt_ q.k p.k = false := by
      cases hh : lt_ q.k p.k with
      | false => rfl
      | true => have := no p l hl _ hh; rw [h, self] at this; cases this
    have e := lt_tri e1 e2
    have tl : ∀ (a : Pr α) (t : List (Pr α)), Ris (a :: t) → has t a.k = false := fun a t ht => by
      cases hh : has t a.k with
      | false => rfl
      | true =>
        obtain ⟨z, hz, hk⟩ := (has_iff _ _).1 hh
        have := ris_head ht z hz; rw [hk, lt_irr] at this; cases this
    have ih := ris_ext l m (ris_tail hl) (ris_tail hm) (fun y => by
      have hy := h y
      rw [has_cons, has_cons, e] at hy
      by_cases hq : q.k = y
      · rw [← hq, tl q m hm, ← e, tl p l hl]
      · simpa [hq] using hy)
    rw [List.map_cons, List.map_cons, e, ih]
end
namespace Sv
/-- Each key has itself. -/
def KV (l : List (Pr ByteArray)) : Prop := ∀ p ∈ l, p.v = p.k
theorem kv_ext {l m : List (Pr ByteArray)} (hl : KV l) (hm : KV m) (h : l.map (·.k) = m.map (·.k)) : l = m := by
  have e : ∀ l : List (Pr ByteArray), KV l → l = (l.map (·.k)).map (fun k => (⟨k, k⟩ : Pr ByteArray)) := fun l hl => by
    rw [List.map_map]
    conv => lhs; rw [← List.map_id l]
    refine List.map_congr_left (fun p hp => ?_)
    have := hl p hp
    obtain ⟨k, v⟩ := p
    simp only at this
    subst this
    rfl
  rw [e l hl, e m hm, h]
/-- The list behind keys that were put. -/
def pAll (ks : List ByteArray) : List (Pr ByteArray) := ks.foldl (fun t k => putT 64 t k k) []
theorem pAll_succ {ks : List ByteArray} {i : Nat} {k : ByteArray} (h : ks[i]? = some k) : pAll (ks.take (i + 1)) = putT 64 (pAll (ks.take i)) k k := by
  obtain ⟨hk, hb⟩ := List.getElem?_eq_some_iff.1 h
  unfold pAll
  rw [List.take_succ_eq_append_getElem hk, List.foldl_append, hb, List.foldl_cons, List.foldl_nil]
theorem pAll_all (ks : List ByteArray) : (pAll ks).length ≤ ks.length ∧ Ris (pAll ks) ∧ (ks.length ≤ 64 → KV (pAll ks) ∧ ∀ y, has (pAll ks) y = ks.any (fun k => decide (k = y))) := by
  suffices h : ∀ i, i ≤ ks.length → (pAll (ks.take i)).length ≤ i ∧ Ris (pAll (ks.take i)) ∧ (i ≤ 64 → KV (pAll (ks.take i)) ∧ ∀ y, has (pAll (ks.take i)) y = (ks.take i).any (fun k => decide (k = y))) by
    have := h ks.length (Nat.le_refl _)
    rwa [List.take_length] at this
  intro i
  induction i with
  | zero => exact fun _ => ⟨by simp [pAll], by simp [pAll, ris_nil], fun _ => ⟨fun p hp => by simp [pAll] at hp, fun y => by simp [pAll, has]⟩⟩
  | succ i ih =>
    intro hi
    obtain ⟨h1, h2, h3⟩ := ih (by omega)
    have hk := List.getElem?_eq_getElem (l := ks) (i := i) (by omega)
    rw [pAll_succ hk]
    have hrs : Ris (putT 64 (pAll (ks.take i)) ks[i] ks[i]) := by
      unfold putT; split
      · exact h2
      · exact ris_put h2 _ _
    have hln : (putT 64 (pAll (ks.take i)) ks[i] ks[i]).length ≤ i + 1 := by
      unfold putT; split
      · omega
      · rw [put_len]; split <;> omega
    refine ⟨hln, hrs, fun h64 => ?_⟩
    obtain ⟨h4, h5⟩ := h3 (by omega)
    have ep : putT 64 (pAll (ks.take i)) ks[i] ks[i] = putL (pAll (ks.take i)) ks[i] ks[i] := by
      unfold putT; rw [if_neg (fun e => by have := e.2; omega)]
    rw [ep]
    constructor
    · intro p hp
      unfold putL at hp
      split at hp
      · rcases List.mem_or_eq_of_mem_set hp with h | rfl
        · exact h4 p h
        · rfl
      · rcases List.mem_append.1 hp with h | h
        · exact h4 p (List.mem_of_mem_take h)
        · rcases List.mem_cons.1 h with rfl | h
          · rfl
          · exact h4 p (List.mem_of_mem_drop h)
    · intro y
      rw [has_put h2, h5, List.take_succ_eq_append_getElem (by omega), List.any_append]
      simp [Bool.or_comm]
theorem pAll_rev (ks : List ByteArray) (h : ks.length ≤ 64) : pAll ks.reverse = pAll ks := by
  obtain ⟨_, h2, h3⟩ := pAll_all ks
  obtain ⟨_, g2, g3⟩ := pAll_all ks.reverse
  obtain ⟨h4, h5⟩ := h3 h
  obtain ⟨g4, g5⟩ := g3 (by simpa using h)
  exact kv_ext g4 h4 (ris_ext _ _ g2 h2 (fun y => by rw [g5, h5, List.any_reverse]))
end Sv
end Go.Proofs.Ytkailngpmodfhaa
