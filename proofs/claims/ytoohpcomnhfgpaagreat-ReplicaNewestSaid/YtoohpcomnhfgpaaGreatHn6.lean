/- Texts of mine, one behind the other: Fre, Frt, TbEe. No statement of the seat is proved here. -/
import Derived.StillTail
import Derived.RegionTactic
import Derived.WalkKit
import Derived.Test.YtoohpcomnhfgpaaGreatHn5
import Derived.Test.YtoohpcomnhfgpaaGreatHn2
section
namespace Go.Proofs.YtoohpcomnhfgpaaGreat
open Go.RowKit
set_option linter.all false
abbrev Pst := Value → World → Prop
def putsL (x : Nat → Value) : List Oper → Nat → Act → Act
  | [], _, a => a
  | o :: r, i, a => putsL x r (i + 1) (a.put o.dst (x i))
def knAll (ps : List Pst) (x : Nat → Value) (w : World) : List Edge → Prop
  | [] => True
  | e :: r => (match Region.binds .any e with
      | true => (match ps[e.on]? with
        | some q => q (x e.on) w
        | none => True)
      | false => True) ∧ knAll ps x w r
def knEnd (x : Nat → Value) (w : World) : List Pst → Nat → Prop
  | [], _ => True
  | p :: r, i => p (x i) w ∧ knEnd x w r (i + 1)
section
variable {P : Program} {S : World → Prop} {R : World → World → Prop}
def Got (P : Program) (S : World → Prop) (R : World → World → Prop) (w0 : World) (p : Pst) : Result Next → Prop
  | .ok (.value u) w => p u w ∧ S w ∧ R w0 w
  | .ok .skip w => p undef w ∧ S w ∧ R w0 w
  | .ok (.enter f args) w => Calls P f args w fun e w' => ∃ v, e = .returned v ∧ p v w' ∧ S w' ∧ R w0 w'
  | _ => False
def Owed (P : Program) (S : World → Prop) (R : World → World → Prop) (F : (Nat → Value) → Act) (ps : List Pst) (o : Oper) (p : Pst) : Prop :=
  ∀ x w, S w → knAll ps x w o.after.toList →
    match o.guard with
    | none => Got P S R w p ((execOp (F x).eval o).run P w)
    | some (j, b) => (x j = .bool b ∧ Got P S R w p ((execOp (F x).eval o).run P w)) ∨ ((x j = .bool (!b) ∨ x j = undef) ∧ p undef w ∧ R w w)
def frList (P : Program) (S : World → Prop) (R : World → World → Prop) (F : (Nat → Value) → Act) (K : List Pst → Prop) : List Oper → List Pst → Prop
  | [], ps => K ps
  | o :: r, ps => ∃ p : Pst, (∀ v w w', S w → S w' → R w w' → p v w → p v w') ∧ Owed P S R F ps o p ∧ frList P S R F K r (ps ++ [p])
def frDst : List Oper → Bool
  | [] => true
  | o :: r => (match o.dst with
      | none => true
      | some d => r.all fun o' => !(o'.dst == some d)) && frDst r
def frAft : List Oper → Nat → Bool
  | [], _ => true
  | o :: r, i => (o.after.toList.all fun e => decide (e.on < i)) && frAft r (i + 1)
def frSlot (l : List Oper) (n : Nat) : Bool := l.all fun o => (match o.dst with
  | none => true
  | some d => decide (d < n)) && (match o.guard with
  | none => true
  | some (j, _) => ((l[j]?).bind (·.dst)).isSome)
theorem frAft_at : ∀ (l : List Oper) (k i : Nat) (o : Oper), frAft l k = true → l[i]? = some o → ∀ e ∈ o.after, e.on < k + i
  | [], _, _, _, _, h => by simp at h
  | p :: r, k, 0, o, hk, h => by
    simp only [frAft, Bool.and_eq_true, List.all_eq_true, decide_eq_true_eq] at hk
    simp only [List.getElem?_cons_zero, Option.some.injEq] at h
    subst h
    intro e he
    exact hk.1 e (by simpa using he)
  | p :: r, k, i + 1, o, hk, h => by
    simp only [frAft, Bool.and_eq_true] at hk
    have := frAft_at r (k + 1) i o hk.2 (by simpa using h)
    intro e he
    have := this e he
    omega
theorem put_put (a : Act) (d : Option Tmp) (v u : Value) : (a.put d v).put d u = a.put d u := by
  cases d with
  | none => rfl
  | some d => simp [Act.put]
theorem put_same (a : Act) (d : Tmp) : a.put (some d) (a.tmps.getD d undef) = a := by
  unfold Act.put
  simp only
  congr 1
  apply Array.ext_getElem?
  intro i
  rw [Array.getElem?_setIfInBounds]
  split
  · next h =>
    subst h
    split
    · next h2 => simp [Array.getD, h2]
    · next h2 => simp [h2]
  · rfl
def oldV (l : List Oper) (k : Nat) (a : Act) : Nat → Value := fun i => match (l[i - k]?).bind (·.dst) with
  | some d => a.tmps.getD d undef
  | none => undef
theorem puts_old (a : Act) (x : Nat → Value) : ∀ (l : List Oper) (k : Nat), (∀ i o d, l[i]? = some o → o.dst = some d → x (k + i) = a.tmps.getD d undef) → putsL x l k a = a
  | [], _, _ => rfl
  | o :: r, k, h => by
    rw [putsL]
    have e : a.put o.dst (x k) = a := by
      cases hd : o.dst with
      | none => rfl
      | some d =>
        have := h 0 o d rfl hd
        rw [Nat.add_zero] at this
        rw [this, put_same]
    rw [e]
    exact puts_old a x r (k + 1) fun i o d hi hd => by
      have := h (i + 1) o d (by simpa using hi) hd
      rw [← this]; congr 1; omega
theorem puts_put (x : Nat → Value) (d : Option Tmp) (v : Value) : ∀ (l : List Oper) (k : Nat) (a : Act), (∀ o ∈ l, ∀ e, d = some e → o.dst ≠ some e) → (putsL x l k a).put d v = putsL x l k (a.put d v)
  | [], _, _, _ => rfl
  | o :: r, k, a, h => by
    rw [putsL, putsL, puts_put x d v r (k + 1) _ (fun o ho => h o (List.mem_cons_of_mem _ ho)), Act.put_comm a v (x k) (fun e he => h o List.mem_cons_self e he)]
theorem puts_congr (x y : Nat → Value) : ∀ (l : List Oper) (k : Nat) (a : Act), (∀ i, k ≤ i → x i = y i) → putsL x l k a = putsL y l k a
  | [], _, _, _ => rfl
  | o :: r, k, a, h => by rw [putsL, putsL, h k (Nat.le_refl _)]; exact puts_congr x y r (k + 1) _ fun i hi => h i (by omega)
def updN (x : Nat → Value) (i : Nat) (v : Value) : Nat → Value := fun j => if j = i then v else x j
theorem puts_set (x : Nat → Value) (v : Value) : ∀ (l : List Oper) (k i : Nat) (a : Act) (o : Oper), frDst l = true → l[i]? = some o → (putsL x l k a).put o.dst v = putsL (updN x (k + i) v) l k a
  | [], _, _, _, _, _, h => by simp at h
  | p :: r, k, 0, a, o, hd, h => by
    simp only [List.getElem?_cons_zero, Option.some.injEq] at h
    subst h
    simp only [frDst, Bool.and_eq_true] at hd
    rw [putsL, putsL, puts_put, put_put]
    simp only [Nat.add_zero]
    · have e : updN x k v k = v := by simp [updN]
      rw [e]
      exact puts_congr _ _ _ _ _ fun i hi => by simp only [updN]; rw [if_neg (by omega)]
    · intro o ho e he hc
      have hd := hd.1
      rw [he] at hd
      simp only [List.all_eq_true] at hd
      have := hd o ho
      rw [hc] at this
      simp at this
  | p :: r, k, i + 1, a, o, hd, h => by
    simp only [frDst, Bool.and_eq_true] at hd
    rw [putsL, putsL]
    have e : updN x (k + (i + 1)) v k = x k := by simp only [updN]; rw [if_neg (by omega)]
    rw [e, puts_set x v r (k + 1) i _ o hd.2 (by simpa using h)]
    congr 2
    omega
theorem put_size (a : Act) (d : Option Tmp) (v : Value) : (a.put d v).tmps.size = a.tmps.size := by
  cases d with
  | none => rfl
  | some d => simp [Act.put]
theorem puts_size (x : Nat → Value) : ∀ (l : List Oper) (k : Nat) (a : Act), (putsL x l k a).tmps.size = a.tmps.size
  | [], _, _ => rfl
  | o :: r, k, a => by rw [putsL, puts_size x r (k + 1), put_size]
theorem puts_at (x : Nat → Value) (l : List Oper) (i : Nat) (a : Act) (o : Oper) (d : Tmp) (hd : frDst l = true) (hi : l[i]? = some o) (ho : o.dst = some d) (hs : d < a.tmps.size) : (putsL x l 0 a).tmps[d]? = some (x i) := by
  have h := puts_set x (x i) l 0 i a o hd hi
  have e : updN x (0 + i) (x i) = x := by funext j; simp only [updN, Nat.zero_add]; split <;> simp_all
  rw [e, ho] at h
  have h2 : ((putsL x l 0 a).put (some d) (x i)).tmps[d]? = some (x i) := by
    simp [Act.put, Array.getElem?_setIfInBounds, puts_size, hs]
  rwa [h] at h2
theorem puts_want {x : Nat → Value} {l : List Oper} {a : Act} {o : Oper} {j : Nat} {b : Bool} (hd : frDst l = true) (hs : frSlot l a.tmps.size = true) (ho : o ∈ l) (hg : o.guard = some (j, b)) :
    (x j = .bool b → Region.wanted o (yielded l.toArray (putsL x l 0 a).tmps) = true) ∧ ((x j = .bool (!b) ∨ x j = undef) → Region.wanted o (yielded l.toArray (putsL x l 0 a).tmps) = false) := by
  have hs' := hs
  simp only [frSlot, List.all_eq_true, Bool.and_eq_true] at hs
  have h1 := (hs o ho).2
  rw [hg] at h1
  simp only at h1
  cases hj : l[j]? with
  | none => rw [hj] at h1; cases h1
  | some oj =>
    rw [hj] at h1
    simp only [Option.bind_some] at h1
    cases hdj : oj.dst with
    | none => rw [hdj] at h1; cases h1
    | some d =>
      have hlt : d < a.tmps.size := by
        have h2 := (hs oj (List.mem_of_getElem? hj)).1
        rw [hdj] at h2
        simpa using h2
      have h3 := puts_at x l j a oj d hd hj hdj hlt
      have hy : ∀ v, x j = v → yielded l.toArray (putsL x l 0 a).tmps j = (match v with
        | .bool b => some b
        | _ => none) := by
        intro v hv
        subst hv
        unfold yielded
        simp only [List.getElem?_toArray, hj, Option.bind_some, hdj, h3]
        cases x j <;> rfl
      unfold Region.wanted
      rw [hg]
      simp only
      constructor
      · intro e; rw [hy _ e]; simp
      · rintro (e | e)
        · rw [hy _ e]; cases b <;> rfl
        · rw [hy _ e]; cases b <;> rfl
structure FrInv (l : List Oper) (S : World → Prop) (ps : List Pst) (listed : Array Bool) (x : Nat → Value) (w : World) : Prop where
  sz : listed.size = l.length
  s : S w
  kn : ∀ (j : Nat) (q : Pst), listed.getD j false = true → ps[j]? = some q → q (x j) w
def unl (n : Nat) (listed : Array Bool) : Nat := (List.range n).countP fun i => !listed.getD i true
theorem unl_zero {n : Nat} {listed : Array Bool} (h : unl n listed = 0) (i : Nat) (hi : i < n) : listed.getD i true = true := by
  have := List.countP_eq_zero.1 h i (List.mem_range.2 hi)
  simpa using this
theorem unl_set {n : Nat} {listed : Array Bool} {i : Nat} (hs : listed.size = n) (h : listed.getD i true = false) : unl n (listed.setIfInBounds i true) + 1 ≤ unl n listed := by
  have hi : i < n := by
    rcases Nat.lt_or_ge i n with h1 | h1
    · exact h1
    · rw [Array.getD_eq_getD_getElem?, Array.getElem?_eq_none (by omega)] at h; cases h
  unfold unl
  have e : ∀ m, i < m → (List.range m).countP (fun j => !(listed.setIfInBounds i true).getD j true) + 1 = (List.range m).countP fun j => !listed.getD j true := by
    intro m
    induction m with
    | zero => intro h; omega
    | succ m ih =>
      intro hm
      rw [List.range_succ, List.countP_append, List.countP_append]
      by_cases h1 : i < m
      · have hne : i ≠ m := by omega
        have := ih h1
        simp only [List.countP_singleton, getD_set_ne true hne]
        omega
      · obtain rfl : i = m := by omega
        have e1 : (List.range i).countP (fun j => !(listed.setIfInBounds i true).getD j true) = (List.range i).countP fun j => !listed.getD j true := by
          refine List.countP_congr fun j hj => ?_
          have : i ≠ j := by have := List.mem_range.1 hj; omega
          rw [getD_set_ne true this]
        have e2 : (listed.setIfInBounds i true).getD i true = true := by
          simp [Array.getD_eq_getD_getElem?, Array.getElem?_setIfInBounds]
          split <;> simp
        simp only [List.countP_singleton, e1, e2, h]
        simp
  have := e n hi
  omega
theorem ready_none {l : List Oper} {listed : Array Bool} (ha : frAft l 0 = true) (hs : listed.size = l.length) (h : Region.ready .any l.toArray listed = []) : ∀ i, i < l.length → listed.getD i false = true := by
  intro i
  induction i using Nat.strongRecOn with
  | _ i ih =>
    intro hi
    cases hl : listed.getD i false with
    | true => rfl
    | false =>
      have hm : i ∈ Region.ready .any l.toArray listed := by
        refine mem_ready.2 ⟨getD_in (by omega) hl, l[i], by simp [hi], fun e he _ => ?_⟩
        have := frAft_at l 0 i l[i] ha (List.getElem?_eq_getElem hi) e he
        exact ih e.on (by omega) (by omega)
      rw [h] at hm
      cases hm
theorem knAll_of (ps qs : List Pst) (x : Nat → Value) (w : World) (hpq : ∀ (j : Nat) (q : Pst), qs[j]? = some q → ps[j]? = some q) : ∀ (es : List Edge), (∀ e ∈ es, Region.binds .any e = true → ∀ q : Pst, ps[e.on]? = some q → q (x e.on) w) → knAll qs x w es
  | [], _ => trivial
  | e :: r, h => by
    refine ⟨?_, knAll_of ps qs x w hpq r fun e he => h e (List.mem_cons_of_mem _ he)⟩
    split
    · next hb =>
      split
      · next q hq => exact h e List.mem_cons_self hb q (hpq _ _ hq)
      · trivial
    · trivial
theorem knEnd_of (x : Nat → Value) (w : World) : ∀ (ps : List Pst) (k : Nat), (∀ (j : Nat) (q : Pst), ps[j]? = some q → q (x (k + j)) w) → knEnd x w ps k
  | [], _, _ => trivial
  | p :: r, k, h => ⟨by have := h 0 p rfl; rwa [Nat.add_zero] at this, knEnd_of x w r (k + 1) fun j q hq => by have := h (j + 1) q (by simpa using hq); rw [show k + 1 + j = k + (j + 1) by omega]; exact this⟩
theorem fr_all {F : (Nat → Value) → Act} {K : List Pst → Prop} : ∀ (r : List Oper) (ps : List Pst), frList P S R F K r ps →
    ∃ qs : List Pst, K (ps ++ qs) ∧ qs.length = r.length ∧ ∀ i o p, r[i]? = some o → qs[i]? = some p → (∀ v w w', S w → S w' → R w w' → p v w → p v w') ∧ Owed P S R F (ps ++ qs.take i) o p
  | [], ps, h => ⟨[], by rw [List.append_nil]; exact h, rfl, fun i o p h => by simp at h⟩
  | o :: r, ps, h => by
    obtain ⟨p, h1, h2, h3⟩ := h
    obtain ⟨qs, k1, k2, k3⟩ := fr_all r (ps ++ [p]) h3
    refine ⟨p :: qs, by simpa using k1, by simp [k2], fun i o' p' ho hp => ?_⟩
    cases i with
    | zero =>
      simp only [List.getElem?_cons_zero, Option.some.injEq] at ho hp
      subst ho hp
      refine ⟨h1, ?_⟩
      rw [List.take_zero, List.append_nil]
      exact h2
    | succ i =>
      have := k3 i o' p' (by simpa using ho) (by simpa using hp)
      rw [List.take_succ_cons]
      simpa using this
theorem fr_wp {l : List Oper} {F : (Nat → Value) → Act} {a : Act} {Q : Exit → Act → World → Prop} {ps : List Pst} (hd : frDst l = true) (ha : frAft l 0 = true) (hsl : frSlot l a.tmps.size = true) (hF : ∀ x, putsL x l 0 a = F x) (hlen : ps.length = l.length)
    (hO : ∀ i o p, l[i]? = some o → ps[i]? = some p → (∀ v w w', S w → S w' → R w w' → p v w → p v w') ∧ Owed P S R F (ps.take i) o p)
    (hQ : ∀ x w, S w → knEnd x w ps 0 → Q .normal (F x) w) :
    ∀ (f : Nat) (listed : Array Bool) (x : Nat → Value) (w : World), unl l.length listed ≤ f → FrInv l S ps listed x w → wpAny P .any l.toArray Q f listed (F x) w := by
  have hend : ∀ (listed : Array Bool) (x : Nat → Value) (w : World), FrInv l S ps listed x w → (∀ i, i < l.length → listed.getD i false = true) → Q .normal (F x) w := fun listed x w inv h =>
    hQ x w inv.s (knEnd_of x w ps 0 fun j q hq => by
      have hj : j < ps.length := (List.getElem?_eq_some_iff.1 hq).1
      rw [Nat.zero_add]
      exact inv.kn j q (h j (by omega)) hq)
  intro f
  induction f with
  | zero =>
    intro listed x w hu inv
    have hall : ∀ i, i < l.length → listed.getD i false = true := fun i hi => by
      have h1 := unl_zero (listed := listed) (n := l.length) (by omega) i hi
      cases h2 : listed.getD i false with
      | true => rfl
      | false => rw [getD_in (by have := inv.sz; omega) h2] at h1; cases h1
    refine ⟨?_, hend listed x w inv hall⟩
    refine List.eq_nil_iff_forall_not_mem.2 fun i hi => ?_
    obtain ⟨h1, o, ho, _⟩ := mem_ready.1 hi
    have hil : i < l.length := by simpa using (Array.getElem?_eq_some_iff.1 ho).1
    rw [unl_zero (n := l.length) (by omega) i hil] at h1
    cases h1
  | succ f ih =>
    intro listed x w hu inv
    refine ⟨fun h => hend listed x w inv (ready_none ha inv.sz h), fun i hi => ?_⟩
    obtain ⟨h1, o, ho, hw⟩ := mem_ready.1 hi
    have hil : i < l.length := by simpa using (Array.getElem?_eq_some_iff.1 ho).1
    have hol : l[i]? = some o := by simpa using ho
    have hp : ps[i]? = some ps[i] := List.getElem?_eq_getElem (by omega)
    obtain ⟨_, how⟩ := hO i o _ hol hp
    have hk : knAll (ps.take i) x w o.after.toList := knAll_of ps _ x w (fun j q hq => by
      rw [List.getElem?_take] at hq
      split at hq
      · exact hq
      · cases hq) _ fun e he hb q hq => inv.kn e.on q (hw e (by simpa using he) hb) hq
    have step : ∀ v w', S w' → R w w' → ps[i] v w' → wpAny P .any l.toArray Q f (listed.setIfInBounds i true) ((F x).put o.dst v) w' := by
      intro v w' hS hR hpv
      have e : (F x).put o.dst v = F (updN x i v) := by
        have := puts_set x v l 0 i a o hd hol
        rw [Nat.zero_add] at this
        rw [← hF, this, hF]
      rw [e]
      refine ih _ _ _ (by have := unl_set (n := l.length) inv.sz h1; omega) ⟨by rw [Array.size_setIfInBounds]; exact inv.sz, hS, fun j q hj hq => ?_⟩
      by_cases hji : j = i
      · subst hji
        rw [hp] at hq
        injection hq with hq
        subst hq
        simp only [updN, if_true]
        exact hpv
      · simp only [updN, if_neg hji]
        have hj' : listed.getD j false = true := by
          have : i ≠ j := fun e => hji e.symm
          rwa [getD_set_ne false this] at hj
        have hjl : j < l.length := by
          have := (List.getElem?_eq_some_iff.1 hq).1
          omega
        exact (hO j l[j] q (List.getElem?_eq_getElem hjl) hq).1 _ w w' inv.s hS hR (inv.kn j q hj' hq)
    unfold wpOp
    simp only [ho]
    have hgot : Got P S R w ps[i] ((execOp (F x).eval o).run P w) → o.wp P (F x) w (wpAny P .any l.toArray Q f (listed.setIfInBounds i true)) Q := by
      intro hg
      unfold Oper.wp
      generalize (execOp (F x).eval o).run P w = r at hg ⊢
      cases r with
      | halt z w' => exact hg.elim
      | ok n w' =>
        cases n <;> simp only [Got] at hg <;> simp only [Oper.upon]
        case value u => exact step u w' hg.2.1 hg.2.2 hg.1
        case skip => exact step undef w' hg.2.1 hg.2.2 hg.1
        case enter g args => exact hg.mono fun e w'' ⟨v, he, h1, h2, h3⟩ => by subst he; exact step v w'' h2 h3 h1
    have how := how x w inv.s hk
    cases hgd : o.guard with
    | none =>
      rw [hgd] at how
      rw [if_pos (by simp [Region.wanted, hgd])]
      exact .inl (hgot how)
    | some jb =>
      obtain ⟨j, b⟩ := jb
      rw [hgd] at how
      have hw2 := puts_want (x := x) (a := a) hd hsl (List.mem_of_getElem? hol) hgd
      rw [hF] at hw2
      rcases how with ⟨e, hg⟩ | ⟨e, hg, hr⟩
      · rw [if_pos (hw2.1 e)]
        exact .inl (hgot hg)
      · rw [if_neg (by rw [hw2.2 e]; simp)]
        exact step undef w inv.s hr hg
theorem any_region_free (S : World → Prop) (R : World → World → Prop) {Q : Exit → Act → World → Prop} {a : Act} {w : World} {l : List Oper} {F : (Nat → Value) → Act} (n : Nat) (hn : a.tmps.size = n) (hB : (frDst l && frAft l 0 && frSlot l n) = true) (hF : ∀ x, putsL x l 0 a = F x) (hS : S w.drew)
    (h : frList P S R F (fun ps => ∀ x w', S w' → knEnd x w' ps 0 → Q .normal (F x) w') l []) : wpAny P .any l.toArray Q l.toArray.size (Array.replicate l.toArray.size false) a w.drew := by
  simp only [Bool.and_eq_true] at hB
  obtain ⟨qs, k1, k2, k3⟩ := fr_all l [] h
  rw [List.nil_append] at k1
  have hx : F (oldV l 0 a) = a := by
    rw [← hF]
    refine puts_old a _ l 0 fun i o d hi hd => ?_
    simp only [oldV, Nat.zero_add, Nat.sub_zero, hi, Option.bind_some, hd]
  have inv : FrInv l S qs (Array.replicate l.length false) (oldV l 0 a) w.drew := ⟨by simp, hS, fun j q hj _ => by rw [getD_replicate_false] at hj; cases hj⟩
  have := fr_wp (P := P) (S := S) (R := R) (F := F) (a := a) (Q := Q) hB.1.1 hB.1.2 (hn ▸ hB.2) hF k2 (fun i o p hi hp => by have := k3 i o p hi hp; rwa [List.nil_append] at this) k1 l.length _ _ _ (by
    unfold unl
    have := List.countP_le_length (p := fun i => !(Array.replicate l.length false).getD i true) (l := List.range l.length)
    simpa using this) inv
  rw [hx] at this
  simpa using this
theorem wp_region_free (S : World → Prop) (R : World → World → Prop) {id : Nat} {Q : Exit → Act → World → Prop} {a : Act} {w : World} {l : List Oper} {F : (Nat → Value) → Act} (hm : P.follows .mixedOrders = true) (n : Nat) (hn : a.tmps.size = n) (hB : (frDst l && frAft l 0 && frSlot l n) = true) (hF : ∀ x, putsL x l 0 a = F x) (hS : S w.drew)
    (h : frList P S R F (fun ps => ∀ x w', S w' → knEnd x w' ps 0 → Q .normal (F x) w') l []) : (Code.region id l.toArray true).wp P Q a w :=
  wp_region_any hm (any_region_free S R n hn hB hF hS h)
/-! The steps of a walk. -/
variable {F : (Nat → Value) → Act} {K : List Pst → Prop} {o : Oper} {r : List Oper} {ps : List Pst}
theorem kn_at {x : Nat → Value} {w : World} {j : Nat} {q : Pst} (hj : ps[j]? = some q) : ∀ {es : List Edge}, knAll ps x w es → (es.any fun e => Region.binds .any e && (e.on == j)) = true → q (x j) w
  | [], _, h => by simp at h
  | e :: es, hk, h => by
    simp only [List.any_cons, Bool.or_eq_true, Bool.and_eq_true, beq_iff_eq] at h
    rcases h with ⟨h1, h2⟩ | h
    · have := hk.1
      rw [h1] at this
      simp only [h2, hj] at this
      exact this
    · exact kn_at hj hk.2 h
theorem fr_value {c : Value} (hg : o.guard = none) (hR : ∀ w, R w w) (hv : ∀ x w, S w → knAll ps x w o.after.toList → (execOp (F x).eval o).run P w = .ok (.value c) w) (h : frList P S R F K r (ps ++ [fun v _ => v = c])) : frList P S R F K (o :: r) ps :=
  ⟨_, fun _ _ _ _ _ _ h => h, fun x w hS hk => by rw [hg]; simp only; rw [hv x w hS hk]; exact ⟨rfl, hS, hR w⟩, h⟩
theorem fr_value_if {c : Value} {j : Nat} {b : Bool} (hg : o.guard = some (j, b)) (hj : ps[j]? = some fun v _ => v = .bool b) (he : (o.after.toList.any fun e => Region.binds .any e && (e.on == j)) = true) (hR : ∀ w, R w w) (hv : ∀ x w, S w → knAll ps x w o.after.toList → (execOp (F x).eval o).run P w = .ok (.value c) w) (h : frList P S R F K r (ps ++ [fun v _ => v = c])) : frList P S R F K (o :: r) ps :=
  ⟨_, fun _ _ _ _ _ _ h => h, fun x w hS hk => by rw [hg]; simp only; rw [hv x w hS hk]; exact .inl ⟨kn_at hj hk he, rfl, hS, hR w⟩, h⟩
theorem fr_skip {j : Nat} {b : Bool} (hg : o.guard = some (j, b)) (hj : ps[j]? = some fun v _ => v = .bool (!b)) (he : (o.after.toList.any fun e => Region.binds .any e && (e.on == j)) = true) (hR : ∀ w, R w w) (h : frList P S R F K r (ps ++ [fun v _ => v = undef])) : frList P S R F K (o :: r) ps :=
  ⟨_, fun _ _ _ _ _ _ h => h, fun x w hS hk => by rw [hg]; exact .inr ⟨.inl (kn_at hj hk he), rfl, hR w⟩, h⟩
theorem fr_skip_too {j : Nat} {b : Bool} (hg : o.guard = some (j, b)) (hj : ps[j]? = some fun v _ => v = undef) (he : (o.after.toList.any fun e => Region.binds .any e && (e.on == j)) = true) (hR : ∀ w, R w w) (h : frList P S R F K r (ps ++ [fun v _ => v = undef])) : frList P S R F K (o :: r) ps :=
  ⟨_, fun _ _ _ _ _ _ h => h, fun x w hS hk => by rw [hg]; exact .inr ⟨.inr (kn_at hj hk he), rfl, hR w⟩, h⟩
theorem fr_some (p : Pst) (hp : ∀ v w w', S w → S w' → R w w' → p v w → p v w') (hg : o.guard = none) (hv : ∀ x w, S w → knAll ps x w o.after.toList → Got P S R w p ((execOp (F x).eval o).run P w)) (h : frList P S R F K r (ps ++ [p])) : frList P S R F K (o :: r) ps :=
  ⟨p, hp, fun x w hS hk => by rw [hg]; exact hv x w hS hk, h⟩
theorem fr_some_if (p : Pst) (hp : ∀ v w w', S w → S w' → R w w' → p v w → p v w') {j : Nat} {b : Bool} (hg : o.guard = some (j, b)) (hj : ps[j]? = some fun v _ => v = .bool b) (he : (o.after.toList.any fun e => Region.binds .any e && (e.on == j)) = true) (hv : ∀ x w, S w → knAll ps x w o.after.toList → Got P S R w p ((execOp (F x).eval o).run P w)) (h : frList P S R F K r (ps ++ [p])) : frList P S R F K (o :: r) ps :=
  ⟨p, hp, fun x w hS hk => by rw [hg]; exact .inl ⟨kn_at hj hk he, hv x w hS hk⟩, h⟩
theorem got_call {w : World} {p : Pst} {f : FuncId} {args : Array Value} {z : Result Next} (hz : z = .ok (.enter f args) w) (h : Calls P f args w fun e w' => ∃ v, e = .returned v ∧ p v w' ∧ S w' ∧ R w w') : Got P S R w p z := by
  subst hz; exact h
theorem kn_end_at {x : Nat → Value} {w : World} : ∀ {ps : List Pst} {k : Nat} (j : Nat) {q : Pst}, knEnd x w ps k → ps[j]? = some q → q (x (k + j)) w
  | [], _, _, _, _, h => by simp at h
  | p :: r, k, 0, q, hk, h => by
    simp only [List.getElem?_cons_zero, Option.some.injEq] at h
    subst h
    exact hk.1
  | p :: r, k, j + 1, q, hk, h => by
    have := kn_end_at j hk.2 (by simpa using h)
    rwa [show k + 1 + j = k + (j + 1) by omega] at this
theorem fr_end (h : K ps) : frList P S R F K [] ps := h
end
end Go.Proofs.YtoohpcomnhfgpaaGreat
end
section
namespace Go.Proofs.YtoohpcomnhfgpaaGreat
open Go.RowKit
set_option linter.all false
section
variable {P : Program} {S : World → Prop} {R : World → World → Prop}
theorem unl_set_eq {n : Nat} {listed : Array Bool} {i : Nat} (hin : i < n) (hs : n ≤ listed.size) (h : listed.getD i true = false) : unl n (listed.setIfInBounds i true) + 1 = unl n listed := by
  unfold unl
  have e : ∀ m, i < m → (List.range m).countP (fun j => !(listed.setIfInBounds i true).getD j true) + 1 = (List.range m).countP fun j => !listed.getD j true := by
    intro m
    induction m with
    | zero => intro h; omega
    | succ m ih =>
      intro hm
      rw [List.range_succ, List.countP_append, List.countP_append]
      by_cases h1 : i < m
      · have hne : i ≠ m := by omega
        have := ih h1
        simp only [List.countP_singleton, getD_set_ne true hne]
        omega
      · obtain rfl : i = m := by omega
        have e1 : (List.range i).countP (fun j => !(listed.setIfInBounds i true).getD j true) = (List.range i).countP fun j => !listed.getD j true := by
          refine List.countP_congr fun j hj => ?_
          have : i ≠ j := by have := List.mem_range.1 hj; omega
          rw [getD_set_ne true this]
        have e2 : (listed.setIfInBounds i true).getD i true = true := by
          simp [Array.getD_eq_getD_getElem?, Array.getElem?_setIfInBounds]
          split <;> simp
        simp only [List.countP_singleton, e1, e2, h]
        simp
  exact e n hin
theorem wanted_take {l : List Oper} {n m : Nat} {o : Oper} (hs : frSlot (l.take n) m = true) (ho : o ∈ l.take n) (t : Array Value) : Region.wanted o (yielded l.toArray t) = Region.wanted o (yielded (l.take n).toArray t) := by
  simp only [frSlot, List.all_eq_true, Bool.and_eq_true] at hs
  have h1 := (hs o ho).2
  unfold Region.wanted
  cases hg : o.guard with
  | none => rfl
  | some jb =>
    obtain ⟨j, b⟩ := jb
    rw [hg] at h1
    simp only at h1 ⊢
    cases hj : (l.take n)[j]? with
    | none => rw [hj] at h1; cases h1
    | some oj =>
      have hl : l[j]? = some oj := by
        rw [List.getElem?_take] at hj
        split at hj
        · exact hj
        · cases hj
      unfold yielded
      simp only [List.getElem?_toArray, hj, hl]
theorem frt_wp {l : List Oper} {n : Nat} {F : (Nat → Value) → Act} {a : Act} {Q : Exit → Act → World → Prop} {ps : List Pst} (hnl : n < l.length) (hd : frDst (l.take n) = true) (ha : frAft (l.take n) 0 = true) (hsl : frSlot (l.take n) a.tmps.size = true) (hF : ∀ x, putsL x (l.take n) 0 a = F x) (hlen : ps.length = n)
    (hsk : Region.sinkB .any l.toArray n = true) (hch : Region.chainB .any l.toArray n = true) (hsq : Region.seqB .any l.toArray (l.length - n) n (Array.replicate n true ++ Array.replicate (l.length - n) false) = true)
    (hO : ∀ i o p, (l.take n)[i]? = some o → ps[i]? = some p → (∀ v w w', S w → S w' → R w w' → p v w → p v w') ∧ Owed P S R F (ps.take i) o p)
    (hQ : ∀ x w, S w → knEnd x w ps 0 → wpList P l.toArray Q (l.drop n) (F x) w) :
    ∀ (f : Nat) (listed : Array Bool) (x : Nat → Value) (w : World), unl n listed = f → HeadInv .any l.toArray n listed → S w → (∀ (j : Nat) (q : Pst), listed.getD j false = true → ps[j]? = some q → q (x j) w) → wpAny P .any l.toArray Q (f + (l.length - n)) listed (F x) w := by
  have hln : (l.take n).length = n := by rw [List.length_take]; omega
  intro f
  induction f with
  | zero =>
    intro listed x w hu inv hS hk
    have hall : ∀ i, i < n → listed.getD i false = true := fun i hi => by
      have h1 := unl_zero hu i hi
      cases h2 : listed.getD i false with
      | true => rfl
      | false => rw [getD_in (by have := inv.size; simp at this; omega) h2] at h1; cases h1
    have hA : listed = Array.replicate n true ++ Array.replicate (l.length - n) false := by
      have hsz : listed.size = l.length := by have := inv.size; simpa using this
      apply Array.ext
      · simp [hsz]; omega
      · intro i h1 h2
        have hget : listed[i] = listed.getD i false := by simp [Array.getD_eq_getD_getElem?, h1]
        rw [hget]
        rcases Nat.lt_or_ge i n with hi | hi
        · rw [hall i hi, Array.getElem_append_left (by simpa using hi)]; simp
        · rw [getD_both (inv.tail i hi (by simp; omega)), Array.getElem_append_right (by simpa using hi)]; simp
    rw [Nat.zero_add]
    have := wpAny_of_seq (md := .any) (P := P) (Q' := Q) (ops := l.toArray) (l.drop n) n listed (F x) w (fun j => by simp [List.getElem?_drop]) (by rw [List.length_drop, hA]; exact hsq) (hQ x w hS (knEnd_of x w ps 0 fun j q hq => by
      have hj : j < ps.length := (List.getElem?_eq_some_iff.1 hq).1
      rw [Nat.zero_add]
      exact hk j q (hall j (by omega)) hq))
    rwa [List.length_drop] at this
  | succ f ih =>
    intro listed x w hu inv hS hk
    have hsz : listed.size = l.length := by have := inv.size; simpa using this
    have hun : ∃ i, i < n ∧ listed.getD i true = false := by
      have h0 : 0 < unl n listed := by omega
      obtain ⟨i, hi, hp⟩ := List.countP_pos_iff.1 h0
      exact ⟨i, List.mem_range.1 hi, by simpa using hp⟩
    rw [show f + 1 + (l.length - n) = (f + (l.length - n)) + 1 by omega]
    refine ⟨fun h => ?_, fun i hi => ?_⟩
    · exfalso
      have : ∀ i, i < n → listed.getD i false = true := by
        intro i
        induction i using Nat.strongRecOn with
        | _ i ihi =>
          intro hi
          cases hl : listed.getD i false with
          | true => rfl
          | false =>
            have hm : i ∈ Region.ready .any l.toArray listed := by
              refine mem_ready.2 ⟨getD_in (by omega) hl, l[i], by simp, fun e he _ => ?_⟩
              have := frAft_at (l.take n) 0 i l[i] ha (by rw [List.getElem?_take, if_pos hi]; exact List.getElem?_eq_getElem (by omega)) e he
              exact ihi e.on (by omega) (by omega)
            rw [h] at hm
            cases hm
      obtain ⟨i, hi, hf⟩ := hun
      have h1 := getD_both hf
      rw [this i hi] at h1
      cases h1
    · obtain ⟨h1, o, ho, hw⟩ := mem_ready.1 hi
      have hin : i < n := by
        rcases Nat.lt_or_ge i n with h | h
        · exact h
        · obtain ⟨j, hj, hf⟩ := hun
          exact absurd hi (tail_waits hsk hch (by simpa using hnl) inv _ j rfl hj hf i h)
      have hol : (l.take n)[i]? = some o := by rw [List.getElem?_take, if_pos hin]; simpa using ho
      have hp : ps[i]? = some ps[i] := List.getElem?_eq_getElem (by omega)
      obtain ⟨_, how⟩ := hO i o _ hol hp
      have hkk : knAll (ps.take i) x w o.after.toList := knAll_of ps _ x w (fun j q hq => by
        rw [List.getElem?_take] at hq
        split at hq
        · exact hq
        · cases hq) _ fun e he hb q hq => hk e.on q (hw e (by simpa using he) hb) hq
      have step : ∀ v w', S w' → R w w' → ps[i] v w' → wpAny P .any l.toArray Q (f + (l.length - n)) (listed.setIfInBounds i true) ((F x).put o.dst v) w' := by
        intro v w' hS' hR hpv
        have e : (F x).put o.dst v = F (updN x i v) := by
          have := puts_set x v (l.take n) 0 i a o hd hol
          rw [Nat.zero_add] at this
          rw [← hF, this, hF]
        rw [e]
        refine ih _ _ _ (by have := unl_set_eq hin (by omega) h1; omega) (inv.set hi hin) hS' (fun j q hj hq => ?_)
        by_cases hji : j = i
        · subst hji
          rw [hp] at hq
          injection hq with hq
          subst hq
          simp only [updN, if_true]
          exact hpv
        · simp only [updN, if_neg hji]
          have hj' : listed.getD j false = true := by
            have : i ≠ j := fun e => hji e.symm
            rwa [getD_set_ne false this] at hj
          have hjl : j < n := by
            have := (List.getElem?_eq_some_iff.1 hq).1
            omega
          exact (hO j l[j] q (by rw [List.getElem?_take, if_pos hjl]; exact List.getElem?_eq_getElem (by omega)) hq).1 _ w w' hS hS' hR (hk j q hj' hq)
      unfold wpOp
      simp only [ho]
      have hgot : Got P S R w ps[i] ((execOp (F x).eval o).run P w) → o.wp P (F x) w (wpAny P .any l.toArray Q (f + (l.length - n)) (listed.setIfInBounds i true)) Q := by
        intro hg
        unfold Oper.wp
        generalize (execOp (F x).eval o).run P w = r at hg ⊢
        cases r with
        | halt z w' => exact hg.elim
        | ok n w' =>
          cases n <;> simp only [Got] at hg <;> simp only [Oper.upon]
          case value u => exact step u w' hg.2.1 hg.2.2 hg.1
          case skip => exact step undef w' hg.2.1 hg.2.2 hg.1
          case enter g args => exact hg.mono fun e w'' ⟨v, he, h1, h2, h3⟩ => by subst he; exact step v w'' h2 h3 h1
      have how := how x w hS hkk
      have hmem : o ∈ l.take n := List.mem_of_getElem? hol
      cases hgd : o.guard with
      | none =>
        rw [hgd] at how
        rw [if_pos (by simp [Region.wanted, hgd])]
        exact .inl (hgot how)
      | some jb =>
        obtain ⟨j, b⟩ := jb
        rw [hgd] at how
        have hw2 := puts_want (x := x) (a := a) hd hsl hmem hgd
        rw [hF, ← wanted_take hsl hmem] at hw2
        rcases how with ⟨e, hg⟩ | ⟨e, hg, hr⟩
        · rw [if_pos (hw2.1 e)]
          exact .inl (hgot hg)
        · rw [if_neg (by rw [hw2.2 e]; simp)]
          exact step undef w hS hr hg
def frTail (l : List Oper) (n m : Nat) : Bool :=
  decide (n < l.length) && frDst (l.take n) && frAft (l.take n) 0 && frSlot (l.take n) m && Region.sinkB .any l.toArray n && Region.chainB .any l.toArray n && Region.seqB .any l.toArray (l.length - n) n (Array.replicate n true ++ Array.replicate (l.length - n) false)
theorem wp_region_free_tail (S : World → Prop) (R : World → World → Prop) {id : Nat} {Q : Exit → Act → World → Prop} {a : Act} {w : World} {l : List Oper} {F : (Nat → Value) → Act} (hm : P.follows .mixedOrders = true) (n m : Nat) (hn : a.tmps.size = m) (hB : frTail l n m = true) (hF : ∀ x, putsL x (l.take n) 0 a = F x) (hS : S w.drew)
    (h : frList P S R F (fun ps => ∀ x w', S w' → knEnd x w' ps 0 → wpList P l.toArray Q (l.drop n) (F x) w') (l.take n) []) : (Code.region id l.toArray true).wp P Q a w := by
  simp only [frTail, Bool.and_eq_true, decide_eq_true_eq] at hB
  obtain ⟨⟨⟨⟨⟨⟨b1, b2⟩, b3⟩, b4⟩, b5⟩, b6⟩, b7⟩ := hB
  obtain ⟨qs, k1, k2, k3⟩ := fr_all (l.take n) [] h
  rw [List.nil_append] at k1
  have hln : (l.take n).length = n := by rw [List.length_take]; omega
  refine wp_region_any hm ?_
  have hx : F (oldV (l.take n) 0 a) = a := by
    rw [← hF]
    refine puts_old a _ (l.take n) 0 fun i o d hi hd => ?_
    simp only [oldV, Nat.zero_add, Nat.sub_zero, hi, Option.bind_some, hd]
  have inv0 : HeadInv .any l.toArray n (Array.replicate l.toArray.size false) :=
    ⟨by simp, fun j oj _ hl => (by rw [getD_replicate_false] at hl; cases hl), fun t _ ht => getD_in (by simpa using ht) (getD_replicate_false _ _)⟩
  have hu : unl n (Array.replicate l.toArray.size false) = n := by
    unfold unl
    have : (List.range n).countP (fun i => !(Array.replicate l.toArray.size false).getD i true) = (List.range n).length := by
      refine List.countP_eq_length.2 fun i hi => ?_
      have hi := List.mem_range.1 hi
      simp [Array.getD_eq_getD_getElem?, Array.getElem?_replicate]
      rw [if_pos (by omega)]; rfl
    rw [this, List.length_range]
  have := frt_wp (P := P) (S := S) (R := R) (F := F) (a := a) (Q := Q) b1 b2 b3 (hn ▸ b4) hF (by rw [k2, hln]) b5 b6 b7 (fun i o p hi hp => by have := k3 i o p hi hp; rwa [List.nil_append] at this) k1 n _ (oldV (l.take n) 0 a) w.drew hu inv0 hS (fun j q hj _ => by rw [getD_replicate_false] at hj; cases hj)
  rw [hx, show n + (l.length - n) = l.toArray.size by simp; omega] at this
  exact this
theorem got_value {w w' : World} {p : Pst} {v : Value} {z : Result Next} (hz : z = .ok (.value v) w') (h : p v w' ∧ S w' ∧ R w w') : Got P S R w p z := by
  subst hz; exact h
end
end Go.Proofs.YtoohpcomnhfgpaaGreat
end
section
namespace Go.Proofs.YtoohpcomnhfgpaaGreat.Se
open Go.RowKit
set_option maxRecDepth 100000
set_option linter.all false
theorem step_call {P : Program} {ops : Array Oper} {o : Oper} {a : Act} {w : World} {K : Act → World → Prop} {Q : Exit → Act → World → Prop} {E : Prop} (hwd : Region.wanted o (yielded ops a.tmps) = true) (f : FuncId) (args : Array Value)
    (hrun : (execOp a.eval o).run P w = .ok (.enter f args) w) (h : Calls P f args w fun e w' => ∃ v, e = .returned v ∧ K (a.put o.dst v) w') :
    if Region.wanted o (yielded ops a.tmps) = true then Oper.wp P o a w K Q else E := by
  rw [if_pos hwd]
  unfold Oper.wp
  rw [hrun]
  exact h.mono fun e w'' ⟨v, he, hk⟩ => by subst he; exact hk
theorem flat_take {α : Type} {k : Nat} (f : α → List Value) (hk : ∀ x, (f x).length = k) : ∀ (l : List α) (n : Nat), n ≤ l.length → (l.flatMap f).take (n * k) = (l.take n).flatMap f
  | _, 0, _ => by simp
  | [], n + 1, h => by simp at h
  | x :: l, n + 1, h => by
    have e : (n + 1) * k = k + n * k := by rw [Nat.succ_mul, Nat.add_comm]
    rw [List.flatMap_cons, List.take_succ_cons, List.flatMap_cons, e, List.take_append, hk, Nat.add_sub_cancel_left, List.take_of_length_le (by rw [hk]; omega), flat_take f hk l n (by simpa using h)]
theorem flat_drop {α : Type} {k : Nat} (f : α → List Value) (hk : ∀ x, (f x).length = k) : ∀ (l : List α) (n : Nat), n ≤ l.length → (l.flatMap f).drop (n * k) = (l.drop n).flatMap f
  | _, 0, _ => by simp
  | [], n + 1, h => by simp at h
  | x :: l, n + 1, h => by
    have e : (n + 1) * k = k + n * k := by rw [Nat.succ_mul, Nat.add_comm]
    rw [List.flatMap_cons, List.drop_succ_cons, e, ← List.drop_drop, List.drop_left' (hk x), flat_drop f hk l n (by simpa using h)]
def LeftT (B : World) (g : Nat) (room : Int) (v : Value) (w : World) (l' : List (Pr En)) (w' : World) : Prop := ∃ v', Tb B g room l' v' w' ∧ Only (foot g v) w w' ∧ Moved w v v'
theorem LeftT.after0 {B w w1 w' : World} {g : Nat} {room : Int} {v : Value} {l' : List (Pr En)} (o : Only none_ w w1) (h : LeftT B g room v w1 l' w') : LeftT B g room v w l' w' := by
  obtain ⟨v', h1, h2, h3⟩ := h
  exact ⟨v', h1, o.of_none.trans' h2 (fun k _ h => h), fun k hk => (h3 k hk).imp id (fun h => Nat.le_trans o.size h)⟩
theorem LeftT.same {B w : World} {g : Nat} {room : Int} {v : Value} {l : List (Pr En)} (h : Tb B g room l v w) : LeftT B g room v w l w := ⟨v, h, Only.refl _ _, Moved.refl _ _⟩
set_option maxHeartbeats 800000 in
theorem tb_new_yes (B : World) (room : Int) (w : World) (hB : Only none_ B w) (h1 : ¬ room < 1) (h2 : ¬ 4096 < room) :
    Calls Tryz.prog 112 #[.int .i64 room] w fun e w' => ∃ g, e = .returned (.tuple #[.pointer (some ⟨g, 0, none⟩), .int .i64 0]) ∧ w.heap.size ≤ g ∧ Tb B g room [] (.slice none 0 0) w' ∧ Only none_ w w' := by
  have HB := Lib.hid hB
  have HR : Hid (1 ≤ room ∧ room ≤ 4096) := by simp only [Hid]; omega
  clear hB
  go_enter Tryz.func112, Tryz.ntmps112
  go_wp2_with fail
  go_ret2
  have o := (Only.refl none_ w).alloc (.cells #[.int .i64 room, .slice none 0 0] 243)
  exact ⟨w.heap.size, rfl, Nat.le_refl _, ⟨Blk.new _ _ _, World.ownsRow_nil _ _ _ _, HB.out.trans o, HB.out.size, ris_nil, by have := HR.out; simp; omega, HR.out.2⟩, o⟩
theorem insI (base : Nat) (A : Option Addr) (n c i vb : Nat) (xs ys : List Value) (w : World) (h : w.ownsRow base 240 10 (.slice A n c) n xs) (hi : i ≤ n) (hn : n ≤ 4096) (hb : base ≤ w.heap.size)
    (hv : Blk w vb 240 ys.toArray) (hne : (Value.slice A n c).ownBlock ≠ some vb) (hy : ys.length = 10) (h1x : ∀ u ∈ xs, u.oneCell' = true) (h1y : ∀ u ∈ ys, u.oneCell' = true) :
    Calls Tryz.prog 203 #[.slice A n c, .int .i64 i, .slice (some ⟨vb, 0, none⟩) 1 1] w fun e w' => ∃ v', e = .returned v' ∧ w'.ownsRow base 240 10 v' (n + 1) (xs.take (i * 10) ++ ys ++ xs.drop (i * 10)) ∧ Only (ownb (.slice A n c)) w w' ∧ Moved w (.slice A n c) v' := by
  have hxl : xs.length = n * 10 := h.1
  by_cases hin : i = n
  · subst hin
    refine (insI_end base A i c vb xs ys w h hn hb hv hy h1y).mono ?_
    rintro e w' ⟨v', rfl, h1, h2, h3⟩
    refine ⟨v', rfl, ?_, h2, h3⟩
    rw [List.take_of_length_le (by omega), List.drop_of_length_le (by omega), List.append_nil]
    exact h1
  · obtain ⟨g, cur, rfl, hr, hnc, hx⟩ := own_rw h (by omega)
    have hvg : vb ≠ g := fun e => hne (by rw [e]; rfl)
    refine (insI_mid base g n c i vb cur xs ys w hr hx (by omega) hnc hn hb hv hvg hy h1x h1y).mono ?_
    rintro e w' ⟨v', rfl, h1, h2, h3⟩
    refine ⟨v', rfl, h1, h2.mono (fun k _ e => by have e' : k = g := e; rw [e']; rfl), fun k hk => (h3 k hk).imp (fun e => by rw [e]; rfl) id⟩
theorem putAt_cons (x : Value) (l cs : List Value) (o : Nat) : putAt (x :: l) (o + 1) cs = x :: putAt l o cs := by
  unfold putAt
  rw [List.take_succ_cons, show o + 1 + cs.length = (o + cs.length) + 1 by omega, List.drop_succ_cons]
  rfl
theorem putAt_far (r l cs : List Value) (o : Nat) : putAt (r ++ l) (r.length + o) cs = r ++ putAt l o cs := by
  induction r with
  | nil => simp
  | cons x r ih => rw [List.cons_append, List.length_cons, show r.length + 1 + o = (r.length + o) + 1 by omega, putAt_cons, ih]; rfl
theorem flat_set (l : List (Pr En)) (r : Nat) (x : ByteArray) (v : En) (hr : r < l.length) (hx : l[r].k = x) : (l.set r ⟨x, v⟩).flatMap prI = putAt (l.flatMap prI) (r * 10 + 1) (#[.string v.k, .string v.v, .bool v.d, .int .i64 v.s.c, .int .i64 v.s.s, .int .i64 v.a.c, .int .i64 v.a.s, .int .i64 v.p, .int .i64 v.g] : Array Value).toList := by
  induction l generalizing r with
  | nil => simp at hr
  | cons p l ih =>
    cases r with
    | zero =>
      simp only [List.getElem_cons_zero] at hx
      subst hx
      rfl
    | succ r =>
      have e : (r + 1) * 10 + 1 = (prI p).length + (r * 10 + 1) := by rw [prI_len]; omega
      rw [List.set_cons_succ, List.flatMap_cons, List.flatMap_cons, ih r (by simpa using hr) (by simpa using hx), e, putAt_far]
theorem putAt_in (cur vs : List Value) (o m : Nat) (h : o + vs.length ≤ m) (hm : m ≤ cur.length) : (putAt cur o vs).take m = putAt (cur.take m) o vs := by
  refine List.ext_getElem? fun j => ?_
  rw [List.getElem?_take, putAt_get (by omega), putAt_get (by rw [List.length_take]; omega), List.getElem?_take]
  by_cases h1 : j < m
  · rw [if_pos h1, if_pos h1]
  · rw [if_neg h1, if_neg (by omega), if_neg h1]
set_option maxHeartbeats 6400000 in
theorem tb_put_has (B : World) (g : Nat) (room : Int) (l : List (Pr En)) (v : Value) (x : ByteArray) (y : En) (w : World) (h : Tb B g room l v w) (hs : has l x = true) :
    Calls Tryz.prog 158 #[.pointer (some ⟨g, 0, none⟩), .string x, .agg #[.string y.k, .string y.v, .bool y.d, .int .i64 y.s.c, .int .i64 y.s.s, .int .i64 y.a.c, .int .i64 y.a.s, .int .i64 y.p, .int .i64 y.g]] w fun e w' => e = .returned (.int .i64 0) ∧ LeftT B g room v w (putL l x y) w' := by
  have O0 := Lib.hid ((Only.refl none_ w).alloc (.cells #[.string y.k, .string y.v, .bool y.d, .int .i64 y.s.c, .int .i64 y.s.s, .int .i64 y.a.c, .int .i64 y.a.s, .int .i64 y.p, .int .i64 y.g] 82))
  have B0 := Lib.hid (Blk.new w 82 #[.string y.k, .string y.v, .bool y.d, .int .i64 y.s.c, .int .i64 y.s.s, .int .i64 y.a.c, .int .i64 y.a.s, .int .i64 y.p, .int .i64 y.g])
  have HB := Lib.hid (fun (w' : World) (o : Only none_ w w') => tb_place B g room l v x w' (h.keep o))
  have hrl := rnk_le l x
  have et : putL l x y = l.set (rnk l x) ⟨x, y⟩ := by rw [putL, if_pos hs]
  rw [et]
  rw [hs] at HB
  have hat := (has_at h.rs x).symm
  rw [hs] at hat
  simp only [Bool.and_eq_true, decide_eq_true_eq] at hat
  obtain ⟨hlt, _, hkx⟩ := hat
  obtain ⟨A, c, rfl⟩ := h.shape
  obtain ⟨r, hr⟩ : ∃ r, rnk l x = r := ⟨_, rfl⟩
  simp only [hr] at hlt HB hkx ⊢
  obtain ⟨b, cur, hA, hrw, hnc, htk⟩ := own_rw h.ow (by omega)
  subst hA
  have hcl : l.length * 10 ≤ cur.length := by rw [hrw.cs]; exact Nat.mul_le_mul_right 10 hnc
  have HF : Hid (∀ (w1 : World), Only none_ w w1 → Blk w1 b 240 cur.toArray ∧ w1.cell? ⟨g, 1, none⟩ = some (.slice (some ⟨b, 0, none⟩) l.length c) ∧
      LeftT B g room (.slice (some ⟨b, 0, none⟩) l.length c) w (l.set r ⟨x, y⟩) (w1.setRow b (putAt cur (r * 10 + 1) (#[.string y.k, .string y.v, .bool y.d, .int .i64 y.s.c, .int .i64 y.s.s, .int .i64 y.a.c, .int .i64 y.a.s, .int .i64 y.p, .int .i64 y.g] : Array Value).toList).toArray)) := by
    intro w1 o1
    have h1 := h.keep o1
    have hrw1 := hrw.only o1 (fun h => h)
    refine ⟨hrw1.bk, h1.bk.cell_ (i := 1) rfl, .slice (some ⟨b, 0, none⟩) l.length c, ?_, ?_, Moved.refl _ _⟩
    · have o2 : Only (one b) w1 (w1.setRow b (putAt cur (r * 10 + 1) (#[.string y.k, .string y.v, .bool y.d, .int .i64 y.s.c, .int .i64 y.s.s, .int .i64 y.a.c, .int .i64 y.a.s, .int .i64 y.p, .int .i64 y.g] : Array Value).toList).toArray) := only_row b _
      have hgb : g ≠ b := Blk.ne_ h1.bk (show Blk w1 b 240 _ from hrw1.bk) (by decide)
      refine ⟨h1.bk.only o2 (fun e => hgb e), ?_, h1.ho.trans' o2 (fun k hk e => by have e' : k = b := e; have := hrw.ge; omega), h1.ge, ris_set h1.rs r _ (fun _ => hkx), by rw [List.length_set]; exact h1.lr, h1.rm⟩
      rw [flat_set l r x y hlt hkx, List.length_set]
      refine (hrw1.set (putAt_len (by simp; omega))).own l.length _ hnc ?_
      rw [putAt_in _ _ _ _ (by simp; omega) hcl, htk]
    · exact o1.of_none.trans' (only_row b _) (fun k _ e => .inr (by have e' : k = b := e; rw [e']; rfl))
  have hrn : (r : Int) < (l.length : Int) := by omega
  have HCR : Hid (r * 10 + 1 + 9 ≤ cur.length) := by simp only [Hid]; omega
  clear h hs et hrl hkx hr hrw hnc htk hcl
  generalize l.length = n at hlt hrn HF ⊢
  go_enter Tryz.func158, Tryz.ntmps158
  go_wp2_with (first
    | (go_at_call 132; refine (HB.out _ O0.out).mono ?_; rintro e w1 ⟨rfl, o1⟩
       have O1 := Lib.hid (O0.out.trans o1)
       have B1 : Hid (Blk w1 w.heap.size 82 #[.string y.k, .string y.v, .bool y.d, .int .i64 y.s.c, .int .i64 y.s.s, .int .i64 y.a.c, .int .i64 y.a.s, .int .i64 y.p, .int .i64 y.g]) := B0.out.only o1 (fun h => h)
       clear o1))
  (refine wp_region_free_tail (fun w' => Only none_ w1 w') (Only none_) (F := ?_) (by kernel_rfl) 8 46 (by rfl) (by kernel_rfl) (fun x => ?_) ((Only.refl none_ w1).drew) ?_; rotate_left; (· (simp only [List.take_succ_cons, List.take_zero, putsL, Act.put, List.setIfInBounds_toArray, List.set_cons_zero, List.set_cons_succ, Nat.reduceAdd]; exact rfl)); simp only [List.take_succ_cons, List.take_zero, List.drop_succ_cons, List.drop_zero])
  repeat (first
    | ((first | refine fr_value (c := ?_) (by rfl) (fun w => Only.refl none_ w) (fun x w0 hS hk => ?_) ?_ | refine fr_value_if (c := ?_) (by rfl) (by rfl) (by rfl) (fun w => Only.refl none_ w) (fun x w0 hS hk => ?_) ?_); rotate_left; (· (have hk2 := hk; (try simp [knAll, Region.binds] at hk2); have hc := (HF.out _ (O1.out.trans hS)).2.1; obtain ⟨t0, t1, t2, t3, t4, t5, t6, t7, t8⟩ := nine_of (B1.out.only hS (fun h => h)); go_simp; try (with_reducible rfl))); try simp only [List.nil_append, List.cons_append]))
  (refine fr_end ?_; intro x w9 hS hk)
  have HFF := Lib.hid (HF.out _ (O1.out.trans hS))
  have e5 := kn_end_at 5 hk (by rfl)
  have e7 := kn_end_at 7 hk (by rfl)
  rw [Nat.zero_add] at e5 e7
  rw [e5, e7]
  clear hk hS e5 e7
  refine wpl_store_part rfl 82 _ _ rfl b (r * 10 + 1) #[.string y.k, .string y.v, .bool y.d, .int .i64 y.s.c, .int .i64 y.s.s, .int .i64 y.a.c, .int .i64 y.a.s, .int .i64 y.p, .int .i64 y.g] rfl rfl 240 cur HFF.out.1 (by kernel_rfl) (by simpa using HCR.out) (en_cells_one y) ?_
  go_wp2_with fail
  go_ret
  exact ⟨rfl, HFF.out.2.2⟩
set_option maxHeartbeats 6400000 in
theorem tb_put_new (B : World) (g : Nat) (room : Int) (l : List (Pr En)) (v : Value) (x : ByteArray) (y : En) (w : World) (h : Tb B g room l v w) (hs' : has l x = false) (hful : ¬ room ≤ (l.length : Int)) :
    Calls Tryz.prog 158 #[.pointer (some ⟨g, 0, none⟩), .string x, .agg #[.string y.k, .string y.v, .bool y.d, .int .i64 y.s.c, .int .i64 y.s.s, .int .i64 y.a.c, .int .i64 y.a.s, .int .i64 y.p, .int .i64 y.g]] w fun e w' => e = .returned (.int .i64 0) ∧ LeftT B g room v w (putL l x y) w' := by
  have O0 := Lib.hid ((Only.refl none_ w).alloc (.cells #[.string y.k, .string y.v, .bool y.d, .int .i64 y.s.c, .int .i64 y.s.s, .int .i64 y.a.c, .int .i64 y.a.s, .int .i64 y.p, .int .i64 y.g] 82))
  have B0 := Lib.hid (Blk.new w 82 #[.string y.k, .string y.v, .bool y.d, .int .i64 y.s.c, .int .i64 y.s.s, .int .i64 y.a.c, .int .i64 y.a.s, .int .i64 y.p, .int .i64 y.g])
  have HB := Lib.hid (fun (w' : World) (o : Only none_ w w') => tb_place B g room l v x w' (h.keep o))
  have hrl := rnk_le l x
  have hris := ris_put h.rs x y
  have et : putL l x y = l.take (rnk l x) ++ ⟨x, y⟩ :: l.drop (rnk l x) := by rw [putL, if_neg (by rw [hs']; simp)]
  rw [et] at hris ⊢
  rw [hs'] at HB
  obtain ⟨A, c, rfl⟩ := h.shape
  have HLN := Lib.hid (fun (w' : World) (o : Only none_ w w') => tb_len B g room l _ w' (h.keep o))
  have HK := Lib.hid (fun (w' : World) (o : Only none_ w w') => (h.keep o).bk.cell_ (i := 0) rfl)
  have HK1 := Lib.hid (fun (w' : World) (o : Only none_ w w') => (h.keep o).bk.cell_ (i := 1) rfl)
  obtain ⟨r, hr⟩ : ∃ r, rnk l x = r := ⟨_, rfl⟩
  simp only [hr] at hrl HB hris ⊢
  have HIN : Hid (∀ w3 : World, Only none_ w w3 → Calls Tryz.prog 203 #[.slice A l.length c, .int .i64 r, .slice (some ⟨w3.heap.size, 0, none⟩) 1 1] (w3.alloc (.cells (prA ⟨x, y⟩) 240)).drew
      fun e w' => ∃ A' n' c', e = .returned (.slice A' n' c') ∧ w'.cell? ⟨g, 1, none⟩ = some (.slice A l.length c) ∧ w'.frozen? ⟨g, 1, none⟩ = false ∧ LeftT B g room (.slice A l.length c) w (l.take r ++ ⟨x, y⟩ :: l.drop r) (w'.setCell ⟨g, 1, none⟩ (.slice A' n' c'))) := by
    intro w3 o3
    have h3 := (h.keep o3)
    have o4 : Only none_ w3 (w3.alloc (.cells (prA ⟨x, y⟩) 240)).drew := ((Only.refl none_ w3).alloc _).drew
    have h4 := h3.keep o4
    have hsz : B.heap.size ≤ (w3.alloc (.cells (prA ⟨x, y⟩) 240)).drew.heap.size := h4.ho.size
    refine (insI B.heap.size A l.length c r w3.heap.size _ (prI ⟨x, y⟩) _ h4.ow hrl h4.ml hsz (Blk.drew (Blk.new w3 _ _)) (fun e => by have := (h3.ow.lt _ e).2; omega) rfl (prI_one l) (fun u hu => prI_one [⟨x, y⟩] u (by simpa using hu))).mono ?_
    rintro e w5 ⟨v5, rfl, own5, o5, m5⟩
    obtain ⟨A5, n5, c5, rfl⟩ := own_shape own5
    have b5 := h4.bk.only o5 (fun e => by have := own_blk_ne h4.ow h4.bk (by decide); exact this e)
    have hnew : (l.take r ++ (⟨x, y⟩ : Pr En) :: l.drop r).length = l.length + 1 := by simp; omega
    have hflat : (l.take r ++ (⟨x, y⟩ : Pr En) :: l.drop r).flatMap prI = (l.flatMap prI).take (r * 10) ++ prI ⟨x, y⟩ ++ (l.flatMap prI).drop (r * 10) := by
      rw [List.flatMap_append, List.flatMap_cons, flat_take prI prI_len l r hrl, flat_drop prI prI_len l r hrl, List.append_assoc]
    have o6 : Only (one g) w5 (w5.setCell ⟨g, 1, none⟩ (.slice A5 n5 c5)) := (Only.refl (one g) w5).setCell (.inl (show one g g from rfl)) _
    have hvg : (Value.slice A5 n5 c5).ownBlock ≠ some g := own_blk_ne own5 b5 (by decide)
    refine ⟨A5, n5, c5, rfl, b5.cell_ (i := 1) rfl, b5.frozen 1, .slice A5 n5 c5, ⟨b5.set_ 1 _, ?_, ?_, h4.ge, hris, by rw [hnew]; omega, h4.rm⟩, ?_, ?_⟩
    · rw [hflat, hnew]
      exact owns_only own5 o6 (fun k hk e => hvg (by rw [hk, show k = g from e]))
    · exact (h4.ho.trans' o5 (fun k hk e => by have := (h4.ow.lt k e).1; omega)).trans' o6 (fun k hk e => by have e' : k = g := e; have := h4.ge; omega)
    · exact (((o3.trans o4).of_none).trans' o5 (fun k _ e => .inr e)).trans' o6 (fun k _ e => .inl e)
    · exact fun k hk => (m5 k hk).imp id (fun h => by have := (o3.trans o4).size; omega)
  generalize l.length = n at hful HLN HIN HK1
  have hful2 : ¬ ((n : Int) ≥ room) := by omega
  clear h et hs' hris hr hrl
  go_enter Tryz.func158, Tryz.ntmps158
  go_wp2_with (first
    | (go_at_call 132; refine (HB.out _ O0.out).mono ?_; rintro e w1 ⟨rfl, o1⟩
       have O1 := Lib.hid (O0.out.trans o1)
       have B1 : Hid (Blk w1 w.heap.size 82 #[.string y.k, .string y.v, .bool y.d, .int .i64 y.s.c, .int .i64 y.s.s, .int .i64 y.a.c, .int .i64 y.a.s, .int .i64 y.p, .int .i64 y.g]) := B0.out.only o1 (fun h => h)
       clear o1))
  (refine wp_region_steady (fun w' => Only none_ w1 w') 7 (by kernel_rfl) (by kernel_rfl) ((Only.refl none_ w1).drew) ?_; simp only [List.take_succ_cons, List.take_zero, List.drop_succ_cons, List.drop_zero])
  repeat (first
    | (refine sd_value (v := ?_) (by rfl) (fun w0 hS => ?_) ?_; rotate_left; (· (have hc := HK.out _ (O1.out.trans hS); go_simp; try (with_reducible rfl))); try simp only [Act.put, List.setIfInBounds_toArray, List.set_cons_zero, List.set_cons_succ])
    | (refine sd_call (v := ?_) (f := 147) (args := ?_) (by rfl) (fun w0 hS => ?_) (fun w0 hS => ?_) ?_; rotate_left 2; (· (have hc := HK.out _ (O1.out.trans hS); go_simp; try (with_reducible rfl))); (· (refine (HLN.out _ (O1.out.trans hS)).mono ?_; rintro E w9 ⟨rfl, rfl⟩; refine ⟨?_, hS⟩; rfl)); try simp only [Act.put, List.setIfInBounds_toArray, List.set_cons_zero, List.set_cons_succ]))
  refine sd_nil ?_
  intro w3 t3
  have T3 := Lib.hid (O1.out.trans t3)
  have B3 : Hid (Blk w3 w.heap.size 82 #[.string y.k, .string y.v, .bool y.d, .int .i64 y.s.c, .int .i64 y.s.s, .int .i64 y.a.c, .int .i64 y.a.s, .int .i64 y.p, .int .i64 y.g]) := B1.out.only t3 (fun h => h)
  clear t3
  go_wp2_with fail
  have k1 : w3.drew.cell? ⟨g, 1, none⟩ = some (.slice A n c) := HK1.out w3 T3.out
  have k2 : (w3.alloc (.cells (prA ⟨x, y⟩) 240)).drew.cell? ⟨g, 1, none⟩ = some (.slice A n c) := HK1.out _ ((T3.out.alloc _).drew)
  obtain ⟨t0, t1, t2, t3, t4, t5, t6, t7, t8⟩ := nine_of (Blk.drew B3.out)
  go_region_law (first
    | (refine step_call (by simp [Region.wanted]) 203 #[.slice A n c, .int .i64 r, .slice (some ⟨w3.heap.size, 0, none⟩) 1 1] (by go_simp; try (with_reducible rfl)) ?_
       refine (HIN.out w3 T3.out).mono ?_
       rintro E w5 ⟨A5, n5, c5, rfl, hk5, hf5, hL⟩
       refine ⟨_, rfl, ?_⟩
       have HLL := Lib.hid hL
       clear hL))
  all_goals go_wp2_with fail
  all_goals go_ret
  all_goals exact ⟨rfl, HLL.out⟩
end Go.Proofs.YtoohpcomnhfgpaaGreat.Se
end
