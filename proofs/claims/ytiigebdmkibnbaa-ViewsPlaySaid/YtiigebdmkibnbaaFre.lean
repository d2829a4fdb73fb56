/- A region that draws its order, whose operations (calls of Go functions that make memory among them) each come to some value of which a condition holds that later operations keep: each operation is looked at once, whatever orders there are. No statement of the seat is proved here. -/
import Derived.StillTail
import Derived.RegionTactic
import Derived.WalkKit
namespace Go.Proofs.Ytiigebdmkibnbaa
open Go.RowKit
set_option linter.all false

/-- What is known of the value that an operation came to. -/
abbrev Pst := Value → World → Prop

/-- All operations' values written into a frame. -/
def putsL (x : Nat → Value) : List Oper → Nat → Act → Act
  | [], _, a => a
  | o :: r, i, a => putsL x r (i + 1) (a.put o.dst (x i))

/-- What is known of those that an operation waits for. -/
def knAll (ps : List Pst) (x : Nat → Value) (w : World) : List Edge → Prop
  | [] => True
  | e :: r => (match Region.binds .any e with
      | true => (match ps[e.on]? with
        | some q => q (x e.on) w
        | none => True)
      | false => True) ∧ knAll ps x w r
/-- What is known of all. -/
def knEnd (x : Nat → Value) (w : World) : List Pst → Nat → Prop
  | [], _ => True
  | p :: r, i => p (x i) w ∧ knEnd x w r (i + 1)

section
variable {P : Program} {S : World → Prop} {R : World → World → Prop}

/-- The operation came to a value of which p holds; S holds behind it, and the world has changed as R says. -/
def Got (P : Program) (S : World → Prop) (R : World → World → Prop) (w0 : World) (p : Pst) : Result Next → Prop
  | .ok (.value u) w => p u w ∧ S w ∧ R w0 w
  | .ok .skip w => p undef w ∧ S w ∧ R w0 w
  | .ok (.enter f args) w => Calls P f args w fun e w' => ∃ v, e = .returned v ∧ p v w' ∧ S w' ∧ R w0 w'
  | _ => False
/-- What an operation owes. -/
def Owed (P : Program) (S : World → Prop) (R : World → World → Prop) (F : (Nat → Value) → Act) (ps : List Pst) (o : Oper) (p : Pst) : Prop :=
  ∀ x w, S w → knAll ps x w o.after.toList →
    match o.guard with
    | none => Got P S R w p ((execOp (F x).eval o).run P w)
    | some (j, b) => (x j = .bool b ∧ Got P S R w p ((execOp (F x).eval o).run P w)) ∨ ((x j = .bool (!b) ∨ x j = undef) ∧ p undef w ∧ R w w)
def frList (P : Program) (S : World → Prop) (R : World → World → Prop) (F : (Nat → Value) → Act) (K : List Pst → Prop) : List Oper → List Pst → Prop
  | [], ps => K ps
  | o :: r, ps => ∃ p : Pst, (∀ v w w', S w → S w' → R w w' → p v w → p v w') ∧ Owed P S R F ps o p ∧ frList P S R F K r (ps ++ [p])

/-- What the kernel is asked: no two operations write one slot, each waits for earlier ones alone. -/
def frDst : List Oper → Bool
  | [] => true
  | o :: r => (match o.dst with
      | none => true
      | some d => r.all fun o' => !(o'.dst == some d)) && frDst r
def frAft : List Oper → Nat → Bool
  | [], _ => true
  | o :: r, i => (o.after.toList.all fun e => decide (e.on < i)) && frAft r (i + 1)

/-- Slots lie within the frame, guards are there. -/
def frSlot (l : List Oper) (n : Nat) : Bool := l.all fun o => (match o.dst with
  | none => true
  | some d => decide (d < n)) && (match o.guard with
  | none => true
  | some (j, _) => ((l[j]?).bind (·.dst)).isSome)

theorem frAft_at : ∀ (l : List Oper) (k i : Nat) (o : Oper), frAft l k = true → l[i]? = some o → ∀ e ∈ o.after, e.on < k + i
  | [], _, _, _, _, h => by simp at h
  | p :: r, k, 0, o, hk, h => by
    simp only [frAft, Bool.and_eq_true, List.all_eq_true, decide_eq_true_eq] at hk
    simp only [List.getElem?_cons_zero, Option.some.injEq] at h
    subst h
    intro e he
    exact hk.1 e (by simpa using he)
  | p :: r, k, i + 1, o, hk, h => by
    simp only [frAft, Bool.and_eq_true] at hk
    have := frAft_at r (k + 1) i o hk.2 (by simpa using h)
    intro e he
    have := this e he
    omega

theorem put_put (a : Act) (d : Option Tmp) (v u : Value) : (a.put d v).put d u = a.put d u := by
  cases d with
  | none => rfl
  | some d => simp [Act.put]
theorem put_same (a : Act) (d : Tmp) : a.put (some d) (a.tmps.getD d undef) = a := by
  unfold Act.put
  simp only
  congr 1
  apply Array.ext_getElem?
  intro i
  rw [Array.getElem?_setIfInBounds]
  split
  · next h =>
    subst h
    split
    · next h2 => simp [Array.getD, h2]
    · next h2 => simp [h2]
  · rfl
/-- The values that a frame has already. -/
def oldV (l : List Oper) (k : Nat) (a : Act) : Nat → Value := fun i => match (l[i - k]?).bind (·.dst) with
  | some d => a.tmps.getD d undef
  | none => undef
theorem puts_old (a : Act) (x : Nat → Value) : ∀ (l : List Oper) (k : Nat), (∀ i o d, l[i]? = some o → o.dst = some d → x (k + i) = a.tmps.getD d undef) → putsL x l k a = a
  | [], _, _ => rfl
  | o :: r, k, h => by
    rw [putsL]
    have e : a.put o.dst (x k) = a := by
      cases hd : o.dst with
      | none => rfl
      | some d =>
        have := h 0 o d rfl hd
        rw [Nat.add_zero] at this
        rw [this, put_same]
    rw [e]
    exact puts_old a x r (k + 1) fun i o d hi hd => by
      have := h (i + 1) o d (by simpa using hi) hd
      rw [← this]; congr 1; omega
theorem puts_put (x : Nat → Value) (d : Option Tmp) (v : Value) : ∀ (l : List Oper) (k : Nat) (a : Act), (∀ o ∈ l, ∀ e, d = some e → o.dst ≠ some e) → (putsL x l k a).put d v = putsL x l k (a.put d v)
  | [], _, _, _ => rfl
  | o :: r, k, a, h => by
    rw [putsL, putsL, puts_put x d v r (k + 1) _ (fun o ho => h o (List.mem_cons_of_mem _ ho)), Act.put_comm a v (x k) (fun e he => h o List.mem_cons_self e he)]
theorem puts_congr (x y : Nat → Value) : ∀ (l : List Oper) (k : Nat) (a : Act), (∀ i, k ≤ i → x i = y i) → putsL x l k a = putsL y l k a
  | [], _, _, _ => rfl
  | o :: r, k, a, h => by rw [putsL, putsL, h k (Nat.le_refl _)]; exact puts_congr x y r (k + 1) _ fun i hi => h i (by omega)
def updN (x : Nat → Value) (i : Nat) (v : Value) : Nat → Value := fun j => if j = i then v else x j
theorem puts_set (x : Nat → Value) (v : Value) : ∀ (l : List Oper) (k i : Nat) (a : Act) (o : Oper), frDst l = true → l[i]? = some o → (putsL x l k a).put o.dst v = putsL (updN x (k + i) v) l k a
  | [], _, _, _, _, _, h => by simp at h
  | p :: r, k, 0, a, o, hd, h => by
    simp only [List.getElem?_cons_zero, Option.some.injEq] at h
    subst h
    simp only [frDst, Bool.and_eq_true] at hd
    rw [putsL, putsL, puts_put, put_put]
    simp only [Nat.add_zero]
    · have e : updN x k v k = v := by simp [updN]
      rw [e]
      exact puts_congr _ _ _ _ _ fun i hi => by simp only [updN]; rw [if_neg (by omega)]
    · intro o ho e he hc
      have hd := hd.1
      rw [he] at hd
      simp only [List.all_eq_true] at hd
      have := hd o ho
      rw [hc] at this
      simp at this
  | p :: r, k, i + 1, a, o, hd, h => by
    simp only [frDst, Bool.and_eq_true] at hd
    rw [putsL, putsL]
    have e : updN x (k + (i + 1)) v k = x k := by simp only [updN]; rw [if_neg (by omega)]
    rw [e, puts_set x v r (k + 1) i _ o hd.2 (by simpa using h)]
    congr 2
    omega

theorem put_size (a : Act) (d : Option Tmp) (v : Value) : (a.put d v).tmps.size = a.tmps.size := by
  cases d with
  | none => rfl
  | some d => simp [Act.put]
theorem puts_size (x : Nat → Value) : ∀ (l : List Oper) (k : Nat) (a : Act), (putsL x l k a).tmps.size = a.tmps.size
  | [], _, _ => rfl
  | o :: r, k, a => by rw [putsL, puts_size x r (k + 1), put_size]
/-- What a slot that the region writes reads as. -/
theorem puts_at (x : Nat → Value) (l : List Oper) (i : Nat) (a : Act) (o : Oper) (d : Tmp) (hd : frDst l = true) (hi : l[i]? = some o) (ho : o.dst = some d) (hs : d < a.tmps.size) : (putsL x l 0 a).tmps[d]? = some (x i) := by
  have h := puts_set x (x i) l 0 i a o hd hi
  have e : updN x (0 + i) (x i) = x := by funext j; simp only [updN, Nat.zero_add]; split <;> simp_all
  rw [e, ho] at h
  have h2 : ((putsL x l 0 a).put (some d) (x i)).tmps[d]? = some (x i) := by
    simp [Act.put, Array.getElem?_setIfInBounds, puts_size, hs]
  rwa [h] at h2
theorem puts_want {x : Nat → Value} {l : List Oper} {a : Act} {o : Oper} {j : Nat} {b : Bool} (hd : frDst l = true) (hs : frSlot l a.tmps.size = true) (ho : o ∈ l) (hg : o.guard = some (j, b)) :
    (x j = .bool b → Region.wanted o (yielded l.toArray (putsL x l 0 a).tmps) = true) ∧ ((x j = .bool (!b) ∨ x j = undef) → Region.wanted o (yielded l.toArray (putsL x l 0 a).tmps) = false) := by
  have hs' := hs
  simp only [frSlot, List.all_eq_true, Bool.and_eq_true] at hs
  have h1 := (hs o ho).2
  rw [hg] at h1
  simp only at h1
  cases hj : l[j]? with
  | none => rw [hj] at h1; cases h1
  | some oj =>
    rw [hj] at h1
    simp only [Option.bind_some] at h1
    cases hdj : oj.dst with
    | none => rw [hdj] at h1; cases h1
    | some d =>
      have hlt : d < a.tmps.size := by
        have h2 := (hs oj (List.mem_of_getElem? hj)).1
        rw [hdj] at h2
        simpa using h2
      have h3 := puts_at x l j a oj d hd hj hdj hlt
      have hy : ∀ v, x j = v → yielded l.toArray (putsL x l 0 a).tmps j = (match v with
        | .bool b => some b
        | _ => none) := by
        intro v hv
        subst hv
        unfold yielded
        simp only [List.getElem?_toArray, hj, Option.bind_some, hdj, h3]
        cases x j <;> rfl
      unfold Region.wanted
      rw [hg]
      simp only
      constructor
      · intro e; rw [hy _ e]; simp
      · rintro (e | e)
        · rw [hy _ e]; cases b <;> rfl
        · rw [hy _ e]; cases b <;> rfl

/-- What holds while the region is under way. -/
structure FrInv (l : List Oper) (S : World → Prop) (ps : List Pst) (listed : Array Bool) (x : Nat → Value) (w : World) : Prop where
  sz : listed.size = l.length
  s : S w
  kn : ∀ (j : Nat) (q : Pst), listed.getD j false = true → ps[j]? = some q → q (x j) w
def unl (n : Nat) (listed : Array Bool) : Nat := (List.range n).countP fun i => !listed.getD i true
theorem unl_zero {n : Nat} {listed : Array Bool} (h : unl n listed = 0) (i : Nat) (hi : i < n) : listed.getD i true = true := by
  have := List.countP_eq_zero.1 h i (List.mem_range.2 hi)
  simpa using this
theorem unl_set {n : Nat} {listed : Array Bool} {i : Nat} (hs : listed.size = n) (h : listed.getD i true = false) : unl n (listed.setIfInBounds i true) + 1 ≤ unl n listed := by
  have hi : i < n := by
    rcases Nat.lt_or_ge i n with h1 | h1
    · exact h1
    · rw [Array.getD_eq_getD_getElem?, Array.getElem?_eq_none (by omega)] at h; cases h
  unfold unl
  have e : ∀ m, i < m → (List.range m).countP (fun j => !(listed.setIfInBounds i true).getD j true) + 1 = (List.range m).countP fun j => !listed.getD j true := by
    intro m
    induction m with
    | zero => intro h; omega
    | succ m ih =>
      intro hm
      rw [List.range_succ, List.countP_append, List.countP_append]
      by_cases h1 : i < m
      · have hne : i ≠ m := by omega
        have := ih h1
        simp only [List.countP_singleton, getD_set_ne true hne]
        omega
      · obtain rfl : i = m := by omega
        have e1 : (List.range i).countP (fun j => !(listed.setIfInBounds i true).getD j true) = (List.range i).countP fun j => !listed.getD j true := by
          refine List.countP_congr fun j hj => ?_
          have : i ≠ j := by have := List.mem_range.1 hj; omega
          rw [getD_set_ne true this]
        have e2 : (listed.setIfInBounds i true).getD i true = true := by
          simp [Array.getD_eq_getD_getElem?, Array.getElem?_setIfInBounds]
          split <;> simp
        simp only [List.countP_singleton, e1, e2, h]
        simp
  have := e n hi
  omega
theorem ready_none {l : List Oper} {listed : Array Bool} (ha : frAft l 0 = true) (hs : listed.size = l.length) (h : Region.ready .any l.toArray listed = []) : ∀ i, i < l.length → listed.getD i false = true := by
  intro i
  induction i using Nat.strongRecOn with
  | _ i ih =>
    intro hi
    cases hl : listed.getD i false with
    | true => rfl
    | false =>
      have hm : i ∈ Region.ready .any l.toArray listed := by
        refine mem_ready.2 ⟨getD_in (by omega) hl, l[i], by simp [hi], fun e he _ => ?_⟩
        have := frAft_at l 0 i l[i] ha (List.getElem?_eq_getElem hi) e he
        exact ih e.on (by omega) (by omega)
      rw [h] at hm
      cases hm

theorem knAll_of (ps qs : List Pst) (x : Nat → Value) (w : World) (hpq : ∀ (j : Nat) (q : Pst), qs[j]? = some q → ps[j]? = some q) : ∀ (es : List Edge), (∀ e ∈ es, Region.binds .any e = true → ∀ q : Pst, ps[e.on]? = some q → q (x e.on) w) → knAll qs x w es
  | [], _ => trivial
  | e :: r, h => by
    refine ⟨?_, knAll_of ps qs x w hpq r fun e he => h e (List.mem_cons_of_mem _ he)⟩
    split
    · next hb =>
      split
      · next q hq => exact h e List.mem_cons_self hb q (hpq _ _ hq)
      · trivial
    · trivial
theorem knEnd_of (x : Nat → Value) (w : World) : ∀ (ps : List Pst) (k : Nat), (∀ (j : Nat) (q : Pst), ps[j]? = some q → q (x (k + j)) w) → knEnd x w ps k
  | [], _, _ => trivial
  | p :: r, k, h => ⟨by have := h 0 p rfl; rwa [Nat.add_zero] at this, knEnd_of x w r (k + 1) fun j q hq => by have := h (j + 1) q (by simpa using hq); rw [show k + 1 + j = k + (j + 1) by omega]; exact this⟩

/-- All that operations owe, as a list. -/
theorem fr_all {F : (Nat → Value) → Act} {K : List Pst → Prop} : ∀ (r : List Oper) (ps : List Pst), frList P S R F K r ps →
    ∃ qs : List Pst, K (ps ++ qs) ∧ qs.length = r.length ∧ ∀ i o p, r[i]? = some o → qs[i]? = some p → (∀ v w w', S w → S w' → R w w' → p v w → p v w') ∧ Owed P S R F (ps ++ qs.take i) o p
  | [], ps, h => ⟨[], by rw [List.append_nil]; exact h, rfl, fun i o p h => by simp at h⟩
  | o :: r, ps, h => by
    obtain ⟨p, h1, h2, h3⟩ := h
    obtain ⟨qs, k1, k2, k3⟩ := fr_all r (ps ++ [p]) h3
    refine ⟨p :: qs, by simpa using k1, by simp [k2], fun i o' p' ho hp => ?_⟩
    cases i with
    | zero =>
      simp only [List.getElem?_cons_zero, Option.some.injEq] at ho hp
      subst ho hp
      refine ⟨h1, ?_⟩
      rw [List.take_zero, List.append_nil]
      exact h2
    | succ i =>
      have := k3 i o' p' (by simpa using ho) (by simpa using hp)
      rw [List.take_succ_cons]
      simpa using this

theorem fr_wp {l : List Oper} {F : (Nat → Value) → Act} {a : Act} {Q : Exit → Act → World → Prop} {ps : List Pst} (hd : frDst l = true) (ha : frAft l 0 = true) (hsl : frSlot l a.tmps.size = true) (hF : ∀ x, putsL x l 0 a = F x) (hlen : ps.length = l.length)
    (hO : ∀ i o p, l[i]? = some o → ps[i]? = some p → (∀ v w w', S w → S w' → R w w' → p v w → p v w') ∧ Owed P S R F (ps.take i) o p)
    (hQ : ∀ x w, S w → knEnd x w ps 0 → Q .normal (F x) w) :
    ∀ (f : Nat) (listed : Array Bool) (x : Nat → Value) (w : World), unl l.length listed ≤ f → FrInv l S ps listed x w → wpAny P .any l.toArray Q f listed (F x) w := by
  have hend : ∀ (listed : Array Bool) (x : Nat → Value) (w : World), FrInv l S ps listed x w → (∀ i, i < l.length → listed.getD i false = true) → Q .normal (F x) w := fun listed x w inv h =>
    hQ x w inv.s (knEnd_of x w ps 0 fun j q hq => by
      have hj : j < ps.length := (List.getElem?_eq_some_iff.1 hq).1
      rw [Nat.zero_add]
      exact inv.kn j q (h j (by omega)) hq)
  intro f
  induction f with
  | zero =>
    intro listed x w hu inv
    have hall : ∀ i, i < l.length → listed.getD i false = true := fun i hi => by
      have h1 := unl_zero (listed := listed) (n := l.length) (by omega) i hi
      cases h2 : listed.getD i false with
      | true => rfl
      | false => rw [getD_in (by have := inv.sz; omega) h2] at h1; cases h1
    refine ⟨?_, hend listed x w inv hall⟩
    refine List.eq_nil_iff_forall_not_mem.2 fun i hi => ?_
    obtain ⟨h1, o, ho, _⟩ := mem_ready.1 hi
    have hil : i < l.length := by simpa using (Array.getElem?_eq_some_iff.1 ho).1
    rw [unl_zero (n := l.length) (by omega) i hil] at h1
    cases h1
  | succ f ih =>
    intro listed x w hu inv
    refine ⟨fun h => hend listed x w inv (ready_none ha inv.sz h), fun i hi => ?_⟩
    obtain ⟨h1, o, ho, hw⟩ := mem_ready.1 hi
    have hil : i < l.length := by simpa using (Array.getElem?_eq_some_iff.1 ho).1
    have hol : l[i]? = some o := by simpa using ho
    have hp : ps[i]? = some ps[i] := List.getElem?_eq_getElem (by omega)
    obtain ⟨_, how⟩ := hO i o _ hol hp
    have hk : knAll (ps.take i) x w o.after.toList := knAll_of ps _ x w (fun j q hq => by
      rw [List.getElem?_take] at hq
      split at hq
      · exact hq
      · cases hq) _ fun e he hb q hq => inv.kn e.on q (hw e (by simpa using he) hb) hq
    have step : ∀ v w', S w' → R w w' → ps[i] v w' → wpAny P .any l.toArray Q f (listed.setIfInBounds i true) ((F x).put o.dst v) w' := by
      intro v w' hS hR hpv
      have e : (F x).put o.dst v = F (updN x i v) := by
        have := puts_set x v l 0 i a o hd hol
        rw [Nat.zero_add] at this
        rw [← hF, this, hF]
      rw [e]
      refine ih _ _ _ (by have := unl_set (n := l.length) inv.sz h1; omega) ⟨by rw [Array.size_setIfInBounds]; exact inv.sz, hS, fun j q hj hq => ?_⟩
      by_cases hji : j = i
      · subst hji
        rw [hp] at hq
        injection hq with hq
        subst hq
        simp only [updN, if_true]
        exact hpv
      · simp only [updN, if_neg hji]
        have hj' : listed.getD j false = true := by
          have : i ≠ j := fun e => hji e.symm
          rwa [getD_set_ne false this] at hj
        have hjl : j < l.length := by
          have := (List.getElem?_eq_some_iff.1 hq).1
          omega
        exact (hO j l[j] q (List.getElem?_eq_getElem hjl) hq).1 _ w w' inv.s hS hR (inv.kn j q hj' hq)
    unfold wpOp
    simp only [ho]
    have hgot : Got P S R w ps[i] ((execOp (F x).eval o).run P w) → o.wp P (F x) w (wpAny P .any l.toArray Q f (listed.setIfInBounds i true)) Q := by
      intro hg
      unfold Oper.wp
      generalize (execOp (F x).eval o).run P w = r at hg ⊢
      cases r with
      | halt z w' => exact hg.elim
      | ok n w' =>
        cases n <;> simp only [Got] at hg <;> simp only [Oper.upon]
        case value u => exact step u w' hg.2.1 hg.2.2 hg.1
        case skip => exact step undef w' hg.2.1 hg.2.2 hg.1
        case enter g args => exact hg.mono fun e w'' ⟨v, he, h1, h2, h3⟩ => by subst he; exact step v w'' h2 h3 h1
    have how := how x w inv.s hk
    cases hgd : o.guard with
    | none =>
      rw [hgd] at how
      rw [if_pos (by simp [Region.wanted, hgd])]
      exact .inl (hgot how)
    | some jb =>
      obtain ⟨j, b⟩ := jb
      rw [hgd] at how
      have hw2 := puts_want (x := x) (a := a) hd hsl (List.mem_of_getElem? hol) hgd
      rw [hF] at hw2
      rcases how with ⟨e, hg⟩ | ⟨e, hg, hr⟩
      · rw [if_pos (hw2.1 e)]
        exact .inl (hgot hg)
      · rw [if_neg (by rw [hw2.2 e]; simp)]
        exact step undef w inv.s hr hg

/-- The region's law, as a walk over all orders. -/
theorem any_region_free (S : World → Prop) (R : World → World → Prop) {Q : Exit → Act → World → Prop} {a : Act} {w : World} {l : List Oper} {F : (Nat → Value) → Act} (n : Nat) (hn : a.tmps.size = n) (hB : (frDst l && frAft l 0 && frSlot l n) = true) (hF : ∀ x, putsL x l 0 a = F x) (hS : S w.drew)
    (h : frList P S R F (fun ps => ∀ x w', S w' → knEnd x w' ps 0 → Q .normal (F x) w') l []) : wpAny P .any l.toArray Q l.toArray.size (Array.replicate l.toArray.size false) a w.drew := by
  simp only [Bool.and_eq_true] at hB
  obtain ⟨qs, k1, k2, k3⟩ := fr_all l [] h
  rw [List.nil_append] at k1
  have hx : F (oldV l 0 a) = a := by
    rw [← hF]
    refine puts_old a _ l 0 fun i o d hi hd => ?_
    simp only [oldV, Nat.zero_add, Nat.sub_zero, hi, Option.bind_some, hd]
  have inv : FrInv l S qs (Array.replicate l.length false) (oldV l 0 a) w.drew := ⟨by simp, hS, fun j q hj _ => by rw [getD_replicate_false] at hj; cases hj⟩
  have := fr_wp (P := P) (S := S) (R := R) (F := F) (a := a) (Q := Q) hB.1.1 hB.1.2 (hn ▸ hB.2) hF k2 (fun i o p hi hp => by have := k3 i o p hi hp; rwa [List.nil_append] at this) k1 l.length _ _ _ (by
    unfold unl
    have := List.countP_le_length (p := fun i => !(Array.replicate l.length false).getD i true) (l := List.range l.length)
    simpa using this) inv
  rw [hx] at this
  simpa using this
/-- The region's law. -/
theorem wp_region_free (S : World → Prop) (R : World → World → Prop) {id : Nat} {Q : Exit → Act → World → Prop} {a : Act} {w : World} {l : List Oper} {F : (Nat → Value) → Act} (hm : P.follows .mixedOrders = true) (n : Nat) (hn : a.tmps.size = n) (hB : (frDst l && frAft l 0 && frSlot l n) = true) (hF : ∀ x, putsL x l 0 a = F x) (hS : S w.drew)
    (h : frList P S R F (fun ps => ∀ x w', S w' → knEnd x w' ps 0 → Q .normal (F x) w') l []) : (Code.region id l.toArray true).wp P Q a w :=
  wp_region_any hm (any_region_free S R n hn hB hF hS h)

/-! The steps of a walk. -/
variable {F : (Nat → Value) → Act} {K : List Pst → Prop} {o : Oper} {r : List Oper} {ps : List Pst}
/-- What is known of one that an operation waits for. -/
theorem kn_at {x : Nat → Value} {w : World} {j : Nat} {q : Pst} (hj : ps[j]? = some q) : ∀ {es : List Edge}, knAll ps x w es → (es.any fun e => Region.binds .any e && (e.on == j)) = true → q (x j) w
  | [], _, h => by simp at h
  | e :: es, hk, h => by
    simp only [List.any_cons, Bool.or_eq_true, Bool.and_eq_true, beq_iff_eq] at h
    rcases h with ⟨h1, h2⟩ | h
    · have := hk.1
      rw [h1] at this
      simp only [h2, hj] at this
      exact this
    · exact kn_at hj hk.2 h
/-- It yields a value, and changes nothing. -/
theorem fr_value {c : Value} (hg : o.guard = none) (hR : ∀ w, R w w) (hv : ∀ x w, S w → knAll ps x w o.after.toList → (execOp (F x).eval o).run P w = .ok (.value c) w) (h : frList P S R F K r (ps ++ [fun v _ => v = c])) : frList P S R F K (o :: r) ps :=
  ⟨_, fun _ _ _ _ _ _ h => h, fun x w hS hk => by rw [hg]; simp only; rw [hv x w hS hk]; exact ⟨rfl, hS, hR w⟩, h⟩
theorem fr_value_if {c : Value} {j : Nat} {b : Bool} (hg : o.guard = some (j, b)) (hj : ps[j]? = some fun v _ => v = .bool b) (he : (o.after.toList.any fun e => Region.binds .any e && (e.on == j)) = true) (hR : ∀ w, R w w) (hv : ∀ x w, S w → knAll ps x w o.after.toList → (execOp (F x).eval o).run P w = .ok (.value c) w) (h : frList P S R F K r (ps ++ [fun v _ => v = c])) : frList P S R F K (o :: r) ps :=
  ⟨_, fun _ _ _ _ _ _ h => h, fun x w hS hk => by rw [hg]; simp only; rw [hv x w hS hk]; exact .inl ⟨kn_at hj hk he, rfl, hS, hR w⟩, h⟩
/-- It is not wanted. -/
theorem fr_skip {j : Nat} {b : Bool} (hg : o.guard = some (j, b)) (hj : ps[j]? = some fun v _ => v = .bool (!b)) (he : (o.after.toList.any fun e => Region.binds .any e && (e.on == j)) = true) (hR : ∀ w, R w w) (h : frList P S R F K r (ps ++ [fun v _ => v = undef])) : frList P S R F K (o :: r) ps :=
  ⟨_, fun _ _ _ _ _ _ h => h, fun x w hS hk => by rw [hg]; exact .inr ⟨.inl (kn_at hj hk he), rfl, hR w⟩, h⟩
theorem fr_skip_too {j : Nat} {b : Bool} (hg : o.guard = some (j, b)) (hj : ps[j]? = some fun v _ => v = undef) (he : (o.after.toList.any fun e => Region.binds .any e && (e.on == j)) = true) (hR : ∀ w, R w w) (h : frList P S R F K r (ps ++ [fun v _ => v = undef])) : frList P S R F K (o :: r) ps :=
  ⟨_, fun _ _ _ _ _ _ h => h, fun x w hS hk => by rw [hg]; exact .inr ⟨.inr (kn_at hj hk he), rfl, hR w⟩, h⟩
/-- It comes to a value of which p holds. -/
theorem fr_some (p : Pst) (hp : ∀ v w w', S w → S w' → R w w' → p v w → p v w') (hg : o.guard = none) (hv : ∀ x w, S w → knAll ps x w o.after.toList → Got P S R w p ((execOp (F x).eval o).run P w)) (h : frList P S R F K r (ps ++ [p])) : frList P S R F K (o :: r) ps :=
  ⟨p, hp, fun x w hS hk => by rw [hg]; exact hv x w hS hk, h⟩
theorem fr_some_if (p : Pst) (hp : ∀ v w w', S w → S w' → R w w' → p v w → p v w') {j : Nat} {b : Bool} (hg : o.guard = some (j, b)) (hj : ps[j]? = some fun v _ => v = .bool b) (he : (o.after.toList.any fun e => Region.binds .any e && (e.on == j)) = true) (hv : ∀ x w, S w → knAll ps x w o.after.toList → Got P S R w p ((execOp (F x).eval o).run P w)) (h : frList P S R F K r (ps ++ [p])) : frList P S R F K (o :: r) ps :=
  ⟨p, hp, fun x w hS hk => by rw [hg]; exact .inl ⟨kn_at hj hk he, hv x w hS hk⟩, h⟩
/-- A call. -/
theorem got_call {w : World} {p : Pst} {f : FuncId} {args : Array Value} {z : Result Next} (hz : z = .ok (.enter f args) w) (h : Calls P f args w fun e w' => ∃ v, e = .returned v ∧ p v w' ∧ S w' ∧ R w w') : Got P S R w p z := by
  subst hz; exact h
theorem kn_end_at {x : Nat → Value} {w : World} : ∀ {ps : List Pst} {k : Nat} (j : Nat) {q : Pst}, knEnd x w ps k → ps[j]? = some q → q (x (k + j)) w
  | [], _, _, _, _, h => by simp at h
  | p :: r, k, 0, q, hk, h => by
    simp only [List.getElem?_cons_zero, Option.some.injEq] at h
    subst h
    exact hk.1
  | p :: r, k, j + 1, q, hk, h => by
    have := kn_end_at j hk.2 (by simpa using h)
    rwa [show k + 1 + j = k + (j + 1) by omega] at this
theorem fr_end (h : K ps) : frList P S R F K [] ps := h
end
end Go.Proofs.Ytiigebdmkibnbaa
