/- Words for opening what came in, for any types: a slice whose elements take several cells reads as a list. No statement of the seat is proved here. -/
import Derived.Test.YtiigebdmkibnbaaRows
import Derived.Test.YtiigebdmkibnbaaBase
import Derived.Test.YtiigebdmkibnbaaSl
import Derived.ProofKit
import Derived.OpenShut
import Derived.ShutString
import Derived.ChangeOld
import Derived.Deep.Slices
import Derived.Deep.Fields
import Derived.Lib.SmallJoins
namespace Go.Proofs.Ytiigebdmkibnbaa
open Go.ChangeShapes Go.WideShapes Go.ChangeAt Go.RowKit
set_option linter.unusedVariables false

theorem own : ownKnob Try.prog.godebug = none := by kernel_rfl
theorem laidOut : laidOutB Try.prog = true := by kernel_rfl

theorem slice_one {H : Type} {enc : TypeId × Value → H} {P : Program} {w : World} {t e : TypeId} {n : Nat} {x : Value} {y : DataW H × List MemPlace} (ht : P.underlying t = some (.slice e)) (h : DataW.trod enc P w 0 (fun _ => true) true n t [x] = some y) :
    ∃ A l c, x = .slice A l c := by
  rcases Go.Deep.open_slice ht h with ⟨h0, _⟩ | ⟨a, len, cap, m, n, D, Pl, hcs, _⟩
  · simp at h0; exact ⟨_, _, _, h0⟩
  · simp at hcs; exact ⟨_, _, _, hcs⟩

theorem add_plain (b off n : Nat) : (⟨b, off, none⟩ : Addr).add n = ⟨b, off + n, none⟩ := by unfold Addr.add; split <;> simp_all
theorem list_of {α : Type} (n : Nat) (p : Nat → α → Prop) (h : ∀ i, i < n → ∃ a, p i a) : ∃ l : List α, l.length = n ∧ ∀ i (hi : i < l.length), p i l[i] := by
  induction n with
  | zero => exact ⟨[], rfl, fun i hi => absurd hi (by simp)⟩
  | succ n ih =>
    obtain ⟨l, hl, hp⟩ := ih fun i hi => h i (by omega)
    obtain ⟨a, ha⟩ := h n (by omega)
    refine ⟨l ++ [a], by simp [hl], fun i hi => ?_⟩
    by_cases hin : i < l.length
    · rw [List.getElem_append_left hin]; exact hp i hin
    · have : i = n := by simp at hi; omega
      subst this
      rw [List.getElem_append_right (by omega)]
      simpa [hl] using ha
theorem okWide_array {P : Program} {w : World} {r : Reach} {base : Nat} {t e : TypeId} {n : Nat} {v : Value} (ht : P.underlying t = some (.array n e)) (h : Value.okWide P w r base t v) : ∃ cs, v = .agg cs ∧ cs.size = P.cellsOf t := by
  unfold Value.okWide at h
  rw [ht] at h
  obtain ⟨cs, h1, h2, _⟩ := h
  exact ⟨cs, h1, h2⟩

/-- Elements of k cells each, one behind the other: cell j of element i. -/
theorem flat_at {α : Type} {k : Nat} (f : α → List Value) (hk : ∀ x, (f x).length = k) : ∀ (l : List α) (i : Nat) (x : α), l[i]? = some x → ∀ j, j < k → (l.flatMap f)[i * k + j]? = (f x)[j]?
  | [], i, x, h => by simp at h
  | y :: l, 0, x, h => fun j hj => by
    have : y = x := by simpa using h
    subst this
    rw [List.flatMap_cons, Nat.zero_mul, Nat.zero_add, List.getElem?_append_left (by rw [hk]; exact hj)]
  | y :: l, i + 1, x, h => fun j hj => by
    have := flat_at f hk l i x (by simpa using h) j hj
    rw [List.flatMap_cons, List.getElem?_append_right (by rw [hk, Nat.succ_mul]; omega), hk, ← this]
    congr 1
    rw [Nat.succ_mul]
    omega
theorem flat_len {α : Type} {k : Nat} (f : α → List Value) (hk : ∀ x, (f x).length = k) : ∀ l : List α, (l.flatMap f).length = l.length * k
  | [] => by simp
  | y :: l => by rw [List.flatMap_cons, List.length_append, hk, flat_len f hk l, List.length_cons, Nat.succ_mul]; omega

/-- A slice that came in, of elements of k cells each: it reads as a list, if each element does. -/
theorem cel_in {H : Type} {enc : TypeId × Value → H} {P : Program} {W : World} {t e : TypeId} {k : Nat} {α : Type} (f : α → List Value) (Q : α → Prop) (ht : P.underlying t = some (.slice e)) (hC : P.cellsOf e = k) (hk : ∀ x, (f x).length = k) (h0 : 0 < k)
    (read : ∀ (n : Nat) (r : List Value) (y : DataW H × List MemPlace), r.length = k → DataW.trod enc P W 0 (fun _ => true) true n e r = some y → ∃ x, r = f x ∧ Q x)
    {a : Option Addr} {len cap : Nat} {d : DataW H} {p : List MemPlace} (h : DataW.Trod enc P W 0 (fun _ => true) true t (.slice a len cap) d p) :
    ∃ l : List α, len = l.length ∧ Cel W (fun b => b < W.heap.size) (.slice a len cap) len k (l.flatMap f) ∧ ∀ x ∈ l, Q x := by
  obtain ⟨fuel, hf⟩ := h
  rcases Go.Deep.open_slice ht hf with ⟨hcs, _⟩ | ⟨x, len', cap', m, n, D, Pl, hcs, _, hl, hm, hmm, _, hi⟩
  · simp [Value.cells] at hcs
    obtain ⟨rfl, rfl, rfl⟩ := hcs
    exact ⟨[], rfl, Cel.nil _ _ _, by simp⟩
  · simp [Value.cells] at hcs
    obtain ⟨rfl, rfl, rfl⟩ := hcs
    rw [hC] at hi
    have hlm : len ≤ m := by rw [hmm]; split <;> omega
    obtain ⟨ls, hls, hp⟩ := list_of len (fun i (u : α) => (∀ j, j < k → W.cell? (x.add (i * k + j)) = (f u)[j]?) ∧ Q u) (fun i hil => by
      obtain ⟨r, hr, htr⟩ := hi i (by omega)
      obtain ⟨_, hrl, hat⟩ := World.cells?_some hr
      obtain ⟨u, rfl, hq⟩ := read _ _ _ hrl htr
      refine ⟨u, fun j hj => ?_, hq⟩
      have h2 := hat j hj
      rw [Go.Deep.add_add] at h2
      exact h2)
    subst hls
    refine ⟨ls, rfl, ⟨some x, cap, rfl, flat_len f hk ls, hl, hm, by simp, fun hpos => ?_⟩, fun u hu => ?_⟩
    · have c0 := (hp 0 hpos).1 0 h0
      obtain ⟨b, off, spot⟩ := x
      have hfl : (f ls[0])[0]? = some ((f ls[0])[0]'(by rw [hk]; exact h0)) := List.getElem?_eq_getElem (by rw [hk]; exact h0)
      rw [hfl] at c0
      have hspot : spot = none := by simpa [Addr.add] using World.cell?_spot c0
      subst hspot
      have hlt : b < W.heap.size := World.block_lt_of_cell? W _ (by simpa [Addr.add] using c0)
      refine ⟨b, off, rfl, hlt, hlt, fun j u hu => ?_⟩
      have hjl : j < ls.length * k := by
        have := (List.getElem?_eq_some_iff.1 hu).1
        rw [flat_len f hk] at this
        exact this
      have hdiv : j / k < ls.length := (Nat.div_lt_iff_lt_mul h0).2 hjl
      have hmod : j % k < k := Nat.mod_lt _ h0
      have h3 := (hp (j / k) hdiv).1 (j % k) hmod
      have h4 := flat_at f hk ls (j / k) _ (List.getElem?_eq_getElem hdiv) (j % k) hmod
      have e : j / k * k + j % k = j := Nat.div_add_mod' j k
      rw [e] at h3 h4
      rw [add_plain, ← h4, hu] at h3
      exact h3
    · obtain ⟨j, hj, rfl⟩ := List.mem_iff_getElem.1 hu
      exact (hp j hj).2
end Go.Proofs.Ytiigebdmkibnbaa
