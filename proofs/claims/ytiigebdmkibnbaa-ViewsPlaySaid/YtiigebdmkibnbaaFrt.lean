/- A region that draws its order, as in Fre, whose last operations wait for all others, and may write what they like. No statement of the seat is proved here. -/
import Derived.Test.YtiigebdmkibnbaaFre
namespace Go.Proofs.Ytiigebdmkibnbaa
open Go.RowKit
set_option linter.all false

section
variable {P : Program} {S : World → Prop} {R : World → World → Prop}

theorem unl_set_eq {n : Nat} {listed : Array Bool} {i : Nat} (hin : i < n) (hs : n ≤ listed.size) (h : listed.getD i true = false) : unl n (listed.setIfInBounds i true) + 1 = unl n listed := by
  unfold unl
  have e : ∀ m, i < m → (List.range m).countP (fun j => !(listed.setIfInBounds i true).getD j true) + 1 = (List.range m).countP fun j => !listed.getD j true := by
    intro m
    induction m with
    | zero => intro h; omega
    | succ m ih =>
      intro hm
      rw [List.range_succ, List.countP_append, List.countP_append]
      by_cases h1 : i < m
      · have hne : i ≠ m := by omega
        have := ih h1
        simp only [List.countP_singleton, getD_set_ne true hne]
        omega
      · obtain rfl : i = m := by omega
        have e1 : (List.range i).countP (fun j => !(listed.setIfInBounds i true).getD j true) = (List.range i).countP fun j => !listed.getD j true := by
          refine List.countP_congr fun j hj => ?_
          have : i ≠ j := by have := List.mem_range.1 hj; omega
          rw [getD_set_ne true this]
        have e2 : (listed.setIfInBounds i true).getD i true = true := by
          simp [Array.getD_eq_getD_getElem?, Array.getElem?_setIfInBounds]
          split <;> simp
        simp only [List.countP_singleton, e1, e2, h]
        simp
  exact e n hin
theorem wanted_take {l : List Oper} {n m : Nat} {o : Oper} (hs : frSlot (l.take n) m = true) (ho : o ∈ l.take n) (t : Array Value) : Region.wanted o (yielded l.toArray t) = Region.wanted o (yielded (l.take n).toArray t) := by
  simp only [frSlot, List.all_eq_true, Bool.and_eq_true] at hs
  have h1 := (hs o ho).2
  unfold Region.wanted
  cases hg : o.guard with
  | none => rfl
  | some jb =>
    obtain ⟨j, b⟩ := jb
    rw [hg] at h1
    simp only at h1 ⊢
    cases hj : (l.take n)[j]? with
    | none => rw [hj] at h1; cases h1
    | some oj =>
      have hl : l[j]? = some oj := by
        rw [List.getElem?_take] at hj
        split at hj
        · exact hj
        · cases hj
      unfold yielded
      simp only [List.getElem?_toArray, hj, hl]

theorem frt_wp {l : List Oper} {n : Nat} {F : (Nat → Value) → Act} {a : Act} {Q : Exit → Act → World → Prop} {ps : List Pst} (hnl : n < l.length) (hd : frDst (l.take n) = true) (ha : frAft (l.take n) 0 = true) (hsl : frSlot (l.take n) a.tmps.size = true) (hF : ∀ x, putsL x (l.take n) 0 a = F x) (hlen : ps.length = n)
    (hsk : Region.sinkB .any l.toArray n = true) (hch : Region.chainB .any l.toArray n = true) (hsq : Region.seqB .any l.toArray (l.length - n) n (Array.replicate n true ++ Array.replicate (l.length - n) false) = true)
    (hO : ∀ i o p, (l.take n)[i]? = some o → ps[i]? = some p → (∀ v w w', S w → S w' → R w w' → p v w → p v w') ∧ Owed P S R F (ps.take i) o p)
    (hQ : ∀ x w, S w → knEnd x w ps 0 → wpList P l.toArray Q (l.drop n) (F x) w) :
    ∀ (f : Nat) (listed : Array Bool) (x : Nat → Value) (w : World), unl n listed = f → HeadInv .any l.toArray n listed → S w → (∀ (j : Nat) (q : Pst), listed.getD j false = true → ps[j]? = some q → q (x j) w) → wpAny P .any l.toArray Q (f + (l.length - n)) listed (F x) w := by
  have hln : (l.take n).length = n := by rw [List.length_take]; omega
  intro f
  induction f with
  | zero =>
    intro listed x w hu inv hS hk
    have hall : ∀ i, i < n → listed.getD i false = true := fun i hi => by
      have h1 := unl_zero hu i hi
      cases h2 : listed.getD i false with
      | true => rfl
      | false => rw [getD_in (by have := inv.size; simp at this; omega) h2] at h1; cases h1
    have hA : listed = Array.replicate n true ++ Array.replicate (l.length - n) false := by
      have hsz : listed.size = l.length := by have := inv.size; simpa using this
      apply Array.ext
      · simp [hsz]; omega
      · intro i h1 h2
        have hget : listed[i] = listed.getD i false := by simp [Array.getD_eq_getD_getElem?, h1]
        rw [hget]
        rcases Nat.lt_or_ge i n with hi | hi
        · rw [hall i hi, Array.getElem_append_left (by simpa using hi)]; simp
        · rw [getD_both (inv.tail i hi (by simp; omega)), Array.getElem_append_right (by simpa using hi)]; simp
    rw [Nat.zero_add]
    have := wpAny_of_seq (md := .any) (P := P) (Q' := Q) (ops := l.toArray) (l.drop n) n listed (F x) w (fun j => by simp [List.getElem?_drop]) (by rw [List.length_drop, hA]; exact hsq) (hQ x w hS (knEnd_of x w ps 0 fun j q hq => by
      have hj : j < ps.length := (List.getElem?_eq_some_iff.1 hq).1
      rw [Nat.zero_add]
      exact hk j q (hall j (by omega)) hq))
    rwa [List.length_drop] at this
  | succ f ih =>
    intro listed x w hu inv hS hk
    have hsz : listed.size = l.length := by have := inv.size; simpa using this
    have hun : ∃ i, i < n ∧ listed.getD i true = false := by
      have h0 : 0 < unl n listed := by omega
      obtain ⟨i, hi, hp⟩ := List.countP_pos_iff.1 h0
      exact ⟨i, List.mem_range.1 hi, by simpa using hp⟩
    rw [show f + 1 + (l.length - n) = (f + (l.length - n)) + 1 by omega]
    refine ⟨fun h => ?_, fun i hi => ?_⟩
    · exfalso
      have : ∀ i, i < n → listed.getD i false = true := by
        intro i
        induction i using Nat.strongRecOn with
        | _ i ihi =>
          intro hi
          cases hl : listed.getD i false with
          | true => rfl
          | false =>
            have hm : i ∈ Region.ready .any l.toArray listed := by
              refine mem_ready.2 ⟨getD_in (by omega) hl, l[i], by simp, fun e he _ => ?_⟩
              have := frAft_at (l.take n) 0 i l[i] ha (by rw [List.getElem?_take, if_pos hi]; exact List.getElem?_eq_getElem (by omega)) e he
              exact ihi e.on (by omega) (by omega)
            rw [h] at hm
            cases hm
      obtain ⟨i, hi, hf⟩ := hun
      have h1 := getD_both hf
      rw [this i hi] at h1
      cases h1
    · obtain ⟨h1, o, ho, hw⟩ := mem_ready.1 hi
      have hin : i < n := by
        rcases Nat.lt_or_ge i n with h | h
        · exact h
        · obtain ⟨j, hj, hf⟩ := hun
          exact absurd hi (tail_waits hsk hch (by simpa using hnl) inv _ j rfl hj hf i h)
      have hol : (l.take n)[i]? = some o := by rw [List.getElem?_take, if_pos hin]; simpa using ho
      have hp : ps[i]? = some ps[i] := List.getElem?_eq_getElem (by omega)
      obtain ⟨_, how⟩ := hO i o _ hol hp
      have hkk : knAll (ps.take i) x w o.after.toList := knAll_of ps _ x w (fun j q hq => by
        rw [List.getElem?_take] at hq
        split at hq
        · exact hq
        · cases hq) _ fun e he hb q hq => hk e.on q (hw e (by simpa using he) hb) hq
      have step : ∀ v w', S w' → R w w' → ps[i] v w' → wpAny P .any l.toArray Q (f + (l.length - n)) (listed.setIfInBounds i true) ((F x).put o.dst v) w' := by
        intro v w' hS' hR hpv
        have e : (F x).put o.dst v = F (updN x i v) := by
          have := puts_set x v (l.take n) 0 i a o hd hol
          rw [Nat.zero_add] at this
          rw [← hF, this, hF]
        rw [e]
        refine ih _ _ _ (by have := unl_set_eq hin (by omega) h1; omega) (inv.set hi hin) hS' (fun j q hj hq => ?_)
        by_cases hji : j = i
        · subst hji
          rw [hp] at hq
          injection hq with hq
          subst hq
          simp only [updN, if_true]
          exact hpv
        · simp only [updN, if_neg hji]
          have hj' : listed.getD j false = true := by
            have : i ≠ j := fun e => hji e.symm
            rwa [getD_set_ne false this] at hj
          have hjl : j < n := by
            have := (List.getElem?_eq_some_iff.1 hq).1
            omega
          exact (hO j l[j] q (by rw [List.getElem?_take, if_pos hjl]; exact List.getElem?_eq_getElem (by omega)) hq).1 _ w w' hS hS' hR (hk j q hj' hq)
      unfold wpOp
      simp only [ho]
      have hgot : Got P S R w ps[i] ((execOp (F x).eval o).run P w) → o.wp P (F x) w (wpAny P .any l.toArray Q (f + (l.length - n)) (listed.setIfInBounds i true)) Q := by
        intro hg
        unfold Oper.wp
        generalize (execOp (F x).eval o).run P w = r at hg ⊢
        cases r with
        | halt z w' => exact hg.elim
        | ok n w' =>
          cases n <;> simp only [Got] at hg <;> simp only [Oper.upon]
          case value u => exact step u w' hg.2.1 hg.2.2 hg.1
          case skip => exact step undef w' hg.2.1 hg.2.2 hg.1
          case enter g args => exact hg.mono fun e w'' ⟨v, he, h1, h2, h3⟩ => by subst he; exact step v w'' h2 h3 h1
      have how := how x w hS hkk
      have hmem : o ∈ l.take n := List.mem_of_getElem? hol
      cases hgd : o.guard with
      | none =>
        rw [hgd] at how
        rw [if_pos (by simp [Region.wanted, hgd])]
        exact .inl (hgot how)
      | some jb =>
        obtain ⟨j, b⟩ := jb
        rw [hgd] at how
        have hw2 := puts_want (x := x) (a := a) hd hsl hmem hgd
        rw [hF, ← wanted_take hsl hmem] at hw2
        rcases how with ⟨e, hg⟩ | ⟨e, hg, hr⟩
        · rw [if_pos (hw2.1 e)]
          exact .inl (hgot hg)
        · rw [if_neg (by rw [hw2.2 e]; simp)]
          exact step undef w hS hr hg

/-- What the kernel is asked of such a region. -/
def frTail (l : List Oper) (n m : Nat) : Bool :=
  decide (n < l.length) && frDst (l.take n) && frAft (l.take n) 0 && frSlot (l.take n) m && Region.sinkB .any l.toArray n && Region.chainB .any l.toArray n && Region.seqB .any l.toArray (l.length - n) n (Array.replicate n true ++ Array.replicate (l.length - n) false)
/-- The region's law, with operations behind. -/
theorem wp_region_free_tail (S : World → Prop) (R : World → World → Prop) {id : Nat} {Q : Exit → Act → World → Prop} {a : Act} {w : World} {l : List Oper} {F : (Nat → Value) → Act} (hm : P.follows .mixedOrders = true) (n m : Nat) (hn : a.tmps.size = m) (hB : frTail l n m = true) (hF : ∀ x, putsL x (l.take n) 0 a = F x) (hS : S w.drew)
    (h : frList P S R F (fun ps => ∀ x w', S w' → knEnd x w' ps 0 → wpList P l.toArray Q (l.drop n) (F x) w') (l.take n) []) : (Code.region id l.toArray true).wp P Q a w := by
  simp only [frTail, Bool.and_eq_true, decide_eq_true_eq] at hB
  obtain ⟨⟨⟨⟨⟨⟨b1, b2⟩, b3⟩, b4⟩, b5⟩, b6⟩, b7⟩ := hB
  obtain ⟨qs, k1, k2, k3⟩ := fr_all (l.take n) [] h
  rw [List.nil_append] at k1
  have hln : (l.take n).length = n := by rw [List.length_take]; omega
  refine wp_region_any hm ?_
  have hx : F (oldV (l.take n) 0 a) = a := by
    rw [← hF]
    refine puts_old a _ (l.take n) 0 fun i o d hi hd => ?_
    simp only [oldV, Nat.zero_add, Nat.sub_zero, hi, Option.bind_some, hd]
  have inv0 : HeadInv .any l.toArray n (Array.replicate l.toArray.size false) :=
    ⟨by simp, fun j oj _ hl => (by rw [getD_replicate_false] at hl; cases hl), fun t _ ht => getD_in (by simpa using ht) (getD_replicate_false _ _)⟩
  have hu : unl n (Array.replicate l.toArray.size false) = n := by
    unfold unl
    have : (List.range n).countP (fun i => !(Array.replicate l.toArray.size false).getD i true) = (List.range n).length := by
      refine List.countP_eq_length.2 fun i hi => ?_
      have hi := List.mem_range.1 hi
      simp [Array.getD_eq_getD_getElem?, Array.getElem?_replicate]
      rw [if_pos (by omega)]; rfl
    rw [this, List.length_range]
  have := frt_wp (P := P) (S := S) (R := R) (F := F) (a := a) (Q := Q) b1 b2 b3 (hn ▸ b4) hF (by rw [k2, hln]) b5 b6 b7 (fun i o p hi hp => by have := k3 i o p hi hp; rwa [List.nil_append] at this) k1 n _ (oldV (l.take n) 0 a) w.drew hu inv0 hS (fun j q hj _ => by rw [getD_replicate_false] at hj; cases hj)
  rw [hx, show n + (l.length - n) = l.toArray.size by simp; omega] at this
  exact this
/-- An operation that comes to a value, and may make memory. -/
theorem got_value {w w' : World} {p : Pst} {v : Value} {z : Result Next} (hz : z = .ok (.value v) w') (h : p v w' ∧ S w' ∧ R w w') : Got P S R w p z := by
  subst hz; exact h
end
end Go.Proofs.Ytiigebdmkibnbaa
