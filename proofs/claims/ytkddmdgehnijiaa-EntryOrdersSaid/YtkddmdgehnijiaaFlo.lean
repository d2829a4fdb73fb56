/- A region that draws its order, in which new variables are made beside operations that each yield one value in every world of which S holds (calls of Go functions among them): one walk, in the order of the text, serves every order; the new variables lie wherever they lie; what stands last, and waits for all others, may write. No statement of the seat is proved here. -/
import Derived.Test.YtkddmdgehnijiaaStd
import Derived.Test.YtkddmdgehnijiaaBase
import Derived.Laws.Rows
namespace Go.Proofs.Ytkddmdgehnijiaa
open Go.RowKit

/-- Does it make a variable? -/
def isAl (o : Oper) : Bool := match o.op with | .alloc _ => true | _ => false
/-- A variable that is made: which operation, its slot, its type, its cells. -/
structure Al where
  i : Nat
  d : Tmp
  t : TypeId
  zs : Array Value

section
variable {P : Program} {ops : Array Oper} {S : World → Prop}

/-- What an operation has come to is the value v; S holds behind it, and all that was there is as it was. -/
def CameO (P : Program) (S : World → Prop) (w : World) (v : Value) : Result Next → Prop
  | .ok (.value u) w' => u = v ∧ S w' ∧ Only none_ w w'
  | .ok .skip w' => undef = v ∧ S w' ∧ Only none_ w w'
  | .ok (.enter f args) w' => Calls P f args w' fun e w'' => e = .returned v ∧ S w'' ∧ Only none_ w w''
  | _ => False
def SteadyO (P : Program) (ops : Array Oper) (S : World → Prop) (o : Oper) (v : Value) (a : Act) : Prop :=
  (Region.wanted o (yielded ops a.tmps) = true ∧ ∀ w, S w → CameO P S w v ((execOp a.eval o).run P w)) ∨ (Region.wanted o (yielded ops a.tmps) = false ∧ undef = v)
def MakesO (P : Program) (o : Oper) (x : Al) : Prop :=
  isAl o = true ∧ o.dst = some x.d ∧ o.guard = none ∧ ∀ ρ w, (execOp ρ o).run P w = .ok (.value (.pointer (some ⟨w.heap.size, 0, none⟩))) (w.alloc (.cells x.zs x.t))
/-- All of them, one behind the other; what is made is only listed. -/
def flList (P : Program) (ops : Array Oper) (S : World → Prop) (K : Act → List Al → Prop) : List Oper → Nat → Act → List Al → Prop
  | [], _, a, al => K a al
  | o :: r, k, a, al => (isAl o = false ∧ ∃ v, SteadyO P ops S o v a ∧ flList P ops S K r (k + 1) (a.put o.dst v) al) ∨ (∃ x : Al, x.i = k ∧ MakesO P o x ∧ flList P ops S K r (k + 1) a (al ++ [x]))

/-- What the kernel is asked: the operations ahead of number n look only at what stands ahead of them, and wait for it; no two write one slot; they wait only for what stands ahead; those from n on wait for all, one behind the other. -/
def flTail (ops : Array Oper) (n : Nat) : Bool :=
  Region.noSelect ops && (decide (n = ops.size) || decide (n < ops.size) && Region.sinkB .any ops n && Region.chainB .any ops n) &&
  ((List.range n).all fun i => match ops[i]? with
    | none => false
    | some o => (o.after.all fun e => !Region.binds .any e || decide (e.on < i)) &&
        ((List.range ops.size).all fun j => match ops[j]? with
          | none => true
          | some p => match p.dst with
            | none => true
            | some t => (decide (j ≤ i) || decide (n ≤ j) || o.dst != some t) && (isAl o || !(o.looksAt ops).contains t || (decide (j < i) && !isAl p && Region.waitsFor .any ops i j)))) &&
  Region.seqB .any ops (ops.size - n) n ((List.range ops.size).map fun j => decide (j < n)).toArray

structure FlOk (ops : Array Oper) (n : Nat) : Prop where
  sel : Region.noSelect ops = true
  le : n ≤ ops.size
  wait : ∀ i, i < n → ∀ listed, HeadInv .any ops n listed → listed.getD i true = false → ∀ t, n ≤ t → t ∉ Region.ready .any ops listed
  after : ∀ i o, i < n → ops[i]? = some o → ∀ e ∈ o.after, Region.binds .any e = true → e.on < i
  apart : ∀ i o j p t, i < n → ops[i]? = some o → i < j → j < n → ops[j]? = some p → p.dst = some t → o.dst ≠ some t
  looks : ∀ i o, i < n → ops[i]? = some o → isAl o = false → ∀ t ∈ o.looksAt ops, ∀ j p, ops[j]? = some p → p.dst = some t → j < i ∧ isAl p = false ∧ Region.waitsFor .any ops i j = true
  seq : Region.seqB .any ops (ops.size - n) n ((List.range ops.size).map fun j => decide (j < n)).toArray = true

theorem flOk_of {n : Nat} (h : flTail ops n = true) : FlOk ops n := by
  simp only [flTail, Bool.and_eq_true, Bool.or_eq_true, decide_eq_true_eq] at h
  obtain ⟨⟨⟨hsel, hn⟩, hall⟩, hseq⟩ := h
  have hle : n ≤ ops.size := by rcases hn with h | h <;> omega
  have hrow : ∀ i o, i < n → ops[i]? = some o → (∀ e ∈ o.after, Region.binds .any e = true → e.on < i) ∧
      ∀ j p t, ops[j]? = some p → p.dst = some t → ((j ≤ i ∨ n ≤ j) ∨ o.dst ≠ some t) ∧ ((isAl o = true ∨ t ∉ o.looksAt ops) ∨ (j < i ∧ isAl p = false) ∧ Region.waitsFor .any ops i j = true) := by
    intro i o hi ho
    have h1 := List.all_eq_true.1 hall i (List.mem_range.2 hi)
    simp only [ho, Bool.and_eq_true] at h1
    refine ⟨fun e he hb => ?_, fun j p t hj ht => ?_⟩
    · have := Array.all_eq_true_iff_forall_mem.1 h1.1 e he
      simp only [hb, Bool.not_true, Bool.false_or, decide_eq_true_eq] at this
      exact this
    · have h2 := List.all_eq_true.1 h1.2 j (List.mem_range.2 (Array.getElem?_eq_some_iff.1 hj).1)
      simp only [hj, ht, Bool.and_eq_true, Bool.or_eq_true, decide_eq_true_eq, bne_iff_ne, ne_eq, Bool.not_eq_true', List.contains_eq_mem, decide_eq_false_iff_not] at h2
      exact h2
  refine ⟨hsel, hle, ?_, fun i o hi ho => (hrow i o hi ho).1, fun i o j p t hi ho hij hjn hj ht => ?_, fun i o hi ho ha t ht j p hj hd => ?_, hseq⟩
  · intro i hi listed inv hun t ht
    rcases hn with h | ⟨⟨h1, h2⟩, h3⟩
    · intro hr
      obtain ⟨_, o, ho, _⟩ := mem_ready.1 hr
      have := (Array.getElem?_eq_some_iff.1 ho).1
      omega
    · exact tail_waits h2 h3 h1 inv _ i rfl hi hun t ht
  · rcases ((hrow i o hi ho).2 j p t hj ht).1 with (h | h) | h
    · omega
    · omega
    · exact h
  · rcases ((hrow i o hi ho).2 j p t hj hd).2 with (h | h) | h
    · rw [ha] at h; cases h
    · exact absurd ht h
    · exact ⟨h.1.1, h.1.2, h.2⟩

theorem put_at {a : Act} {d : Tmp} {v : Value} {t : Nat} : (a.put (some d) v).tmps[t]? = if d = t then (if t < a.tmps.size then some v else none) else a.tmps[t]? := by
  simp only [Act.put, Array.getElem?_setIfInBounds]
  split
  · next h => subst h; rfl
  · rfl
theorem put_size (a : Act) (d : Option Tmp) (v : Value) : (a.put d v).tmps.size = a.tmps.size := by cases d <;> simp [Act.put]
theorem put_defers' (a : Act) (d : Option Tmp) (v : Value) : (a.put d v).defers = a.defers := by cases d <;> rfl

/-- States that agree where an operation looks. -/
theorem steady_agree {o : Oper} {v : Value} {a b : Act} (hs : ∀ cs c, o.op ≠ .select cs c) (h : ∀ t ∈ o.looksAt ops, b.tmps[t]? = a.tmps[t]?) (hy : SteadyO P ops S o v a) : SteadyO P ops S o v b := by
  have e1 : execOp b.eval o = execOp a.eval o := execOp_congr o hs fun x hx => by
    cases x with
    | tmp t =>
      have : t ∈ o.looksAt ops := List.mem_append_left _ (List.mem_filterMap.2 ⟨.tmp t, by simpa using hx, rfl⟩)
      have ht := h t this
      simp only [Act.eval, Array.getD_eq_getD_getElem?, ht]
    | _ => rfl
  have e2 : Region.wanted o (yielded ops b.tmps) = Region.wanted o (yielded ops a.tmps) := by
    unfold Region.wanted
    cases hg : o.guard with
    | none => rfl
    | some gw =>
      obtain ⟨g, want⟩ := gw
      have hy : yielded ops b.tmps g = yielded ops a.tmps g := by
        unfold yielded
        cases ht : (ops[g]?).bind (·.dst) with
        | none => rfl
        | some t =>
          have := h t (by simp [Oper.looksAt, hg, ht])
          simp [this]
      simp only [hy]
  unfold SteadyO at *
  rw [e1, e2]
  exact hy

/-- What the walk in the order of the text gives: the state at its end, in which each operation is steady still. -/
structure Nom (P : Program) (ops : Array Oper) (S : World → Prop) (n : Nat) (a0 F : Act) (al : List Al) : Prop where
  size : F.tmps.size = a0.tmps.size
  defers : F.defers = a0.defers
  old : ∀ t, (∀ i o, i < n → ops[i]? = some o → isAl o = false → o.dst ≠ some t) → F.tmps[t]? = a0.tmps[t]?
  val : ∀ i o, i < n → ops[i]? = some o → isAl o = false → ∃ v, SteadyO P ops S o v F ∧ ∀ t, o.dst = some t → t < F.tmps.size → F.tmps[t]? = some v
  made : ∀ i o, i < n → ops[i]? = some o → isAl o = true → ∃ x ∈ al, x.i = i ∧ MakesO P o x
  only : ∀ x ∈ al, x.i < n ∧ ∃ o, ops[x.i]? = some o ∧ MakesO P o x

theorem nom_of {n : Nat} (ok : FlOk ops n) {a0 : Act} {K : Act → List Al → Prop} : ∀ (l : List Oper) (k : Nat) (a : Act) (al : List Al), (∀ j, j < l.length → l[j]? = ops[k + j]?) → k + l.length = n →
    Nom P ops S k a0 a al → flList P ops S K l k a al → ∃ F al, K F al ∧ Nom P ops S n a0 F al
  | [], k, a, al, _, hk, hn, h => by
    have : k = n := by simpa using hk
    subst this
    exact ⟨a, al, h, hn⟩
  | o :: l, k, a, al, hl, hk, hn, h => by
    have h0 : ops[k]? = some o := by simpa using (hl 0 (by simp)).symm
    have hkn : k < n := by simp only [List.length_cons] at hk; omega
    have hl' : ∀ j, j < l.length → l[j]? = ops[(k + 1) + j]? := fun j hj => by have := hl (j + 1) (by simp; omega); simpa [Nat.add_assoc, Nat.add_comm 1 j] using this
    have hk' : (k + 1) + l.length = n := by simp only [List.length_cons] at hk; omega
    rcases h with ⟨ha, v, hy, h⟩ | ⟨x, hxi, hx, h⟩
    · refine nom_of ok l (k + 1) _ al hl' hk' ?_ h
      -- a state with one more value: what stood there, stands
      have hfar : ∀ i p, i < k → ops[i]? = some p → ∀ t, p.dst = some t → (a.put o.dst v).tmps[t]? = a.tmps[t]? := fun i p hi hp t ht => by
        cases hd : o.dst with
        | none => rfl
        | some d =>
          rw [put_at, if_neg]
          rintro rfl
          exact ok.apart i p k o d (by omega) hp hi hkn h0 hd ht
      refine ⟨(put_size _ _ _).trans hn.size, (put_defers' _ _ _).trans hn.defers, fun t ht => ?_, fun i p hi hp hpa => ?_, fun i p hi hp hpa => ?_, fun x hx => ?_⟩
      · have h1 : (a.put o.dst v).tmps[t]? = a.tmps[t]? := by
          cases hd : o.dst with
          | none => rfl
          | some d =>
            rw [put_at, if_neg]
            rintro rfl
            exact ht k o (by omega) h0 ha hd
        rw [h1]
        exact hn.old t fun i p hi hp hpa => ht i p (by omega) hp hpa
      · by_cases hik : i = k
        · subst hik
          have : p = o := Option.some.inj (hp.symm.trans h0)
          subst this
          refine ⟨v, steady_agree (fun cs c => Region.noSelect_spec ok.sel i p cs c hp) (fun t ht => ?_) hy, fun t ht hlt => ?_⟩
          · cases hd : p.dst with
            | none => rfl
            | some d =>
              rw [put_at, if_neg]
              rintro rfl
              have := (ok.looks i p hkn hp hpa d ht i p hp hd).1
              omega
          · rw [ht, put_at, if_pos rfl, if_pos (by rwa [put_size] at hlt)]
        · obtain ⟨u, hu, hut⟩ := hn.val i p (by omega) hp hpa
          refine ⟨u, steady_agree (fun cs c => Region.noSelect_spec ok.sel i p cs c hp) (fun t ht => ?_) hu, fun t ht hlt => ?_⟩
          · cases hd : o.dst with
            | none => rfl
            | some d =>
              rw [put_at, if_neg]
              rintro rfl
              have := (ok.looks i p (by omega) hp hpa d ht k o h0 hd).1
              omega
          · rw [hfar i p (by omega) hp t ht]
            exact hut t ht (by rwa [put_size] at hlt)
      · have hik : i ≠ k := by
          rintro rfl
          have : p = o := Option.some.inj (hp.symm.trans h0)
          subst this
          rw [ha] at hpa
          cases hpa
        exact hn.made i p (by omega) hp hpa
      · obtain ⟨h1, h2⟩ := hn.only x hx
        exact ⟨by omega, h2⟩
    · refine nom_of ok l (k + 1) a (al ++ [x]) hl' hk' ⟨hn.size, hn.defers, fun t ht => hn.old t fun i p hi hp hpa => ht i p (by omega) hp hpa, fun i p hi hp hpa => ?_, fun i p hi hp hpa => ?_, fun y hy => ?_⟩ h
      · have hik : i ≠ k := by
          rintro rfl
          have : p = o := Option.some.inj (hp.symm.trans h0)
          subst this
          rw [hx.1] at hpa
          cases hpa
        exact hn.val i p (by omega) hp hpa
      · by_cases hik : i = k
        · subst hik
          have : p = o := Option.some.inj (hp.symm.trans h0)
          subst this
          exact ⟨x, by simp, hxi, hx⟩
        · obtain ⟨y, hy, h2⟩ := hn.made i p (by omega) hp hpa
          exact ⟨y, List.mem_append_left _ hy, h2⟩
      · rcases List.mem_append.1 hy with hy | hy
        · obtain ⟨h1, h2⟩ := hn.only y hy
          exact ⟨by omega, h2⟩
        · have : y = x := by simpa using hy
          subst this
          rw [hxi]
          exact ⟨by omega, o, h0, hx⟩

/-- What holds while they come up in whatever order: each slot whose writers have all come up, none of them making a variable, is as at the text's end; what was made lies at G. -/
structure Run (ops : Array Oper) (S : World → Prop) (n base : Nat) (F : Act) (al : List Al) (G : Nat → Nat) (listed : Array Bool) (a : Act) (w : World) : Prop where
  hS : S w
  size : a.tmps.size = F.tmps.size
  defers : a.defers = F.defers
  slot : ∀ t, (∀ j p, j < n → ops[j]? = some p → p.dst = some t → listed.getD j false = true ∧ isAl p = false) → a.tmps[t]? = F.tmps[t]?
  made : ∀ x ∈ al, listed.getD x.i false = true → (x.d < F.tmps.size → a.tmps[x.d]? = some (.pointer (some ⟨G x.i, 0, none⟩))) ∧ Blk w (G x.i) x.t x.zs ∧ base ≤ G x.i
  apart : ∀ x ∈ al, ∀ y ∈ al, listed.getD x.i false = true → listed.getD y.i false = true → G x.i = G y.i → x.i = y.i

theorem getD_set_self {listed : Array Bool} {i : Nat} (h : i < listed.size) : (listed.setIfInBounds i true).getD i false = true := by
  simp [h]

/-- One operation comes up. -/
theorem run_step {n base : Nat} (ok : FlOk ops n) {a0 F : Act} {al : List Al} (nom : Nom P ops S n a0 F al) (hbase : ∀ w, S w → base ≤ w.heap.size) (hal : ∀ w cs t, S w → S (w.alloc (.cells cs t)))
    {Q : Exit → Act → World → Prop} {K : Act → World → Prop} {G : Nat → Nat} {listed : Array Bool} {a : Act} {w : World} {i : Nat} (inv : HeadInv .any ops n listed) (hi : i ∈ Region.ready .any ops listed) (hin : i < n)
    (r : Run ops S n base F al G listed a w) (hK : ∀ G' a' w', Run ops S n base F al G' (listed.setIfInBounds i true) a' w' → K a' w') : wpOp P ops Q i K a w := by
  obtain ⟨hun, o, ho, hall⟩ := mem_ready.1 hi
  have hunf := getD_both hun
  have hil : i < listed.size := by rw [inv.size]; exact (Array.getElem?_eq_some_iff.1 ho).1
  -- what every step keeps
  have hkeep : ∀ (x : Al), x ∈ al → x.i ≠ i → (listed.setIfInBounds i true).getD x.i false = true → listed.getD x.i false = true := fun x _ hx h => by rwa [getD_set_ne false (Ne.symm hx)] at h
  have hdif : ∀ x ∈ al, x.i ≠ i → o.dst ≠ some x.d := fun x hx hxi hd => by
    obtain ⟨hxn, p, hp, _, hpd, _⟩ := nom.only x hx
    rcases Nat.lt_trichotomy x.i i with h | h | h
    · exact ok.apart x.i p i o x.d hxn hp h hin ho hd hpd
    · exact hxi h
    · exact ok.apart i o x.i p x.d hin ho h hxn hp hpd hd
  cases ha : isAl o
  · -- one that yields its value
    obtain ⟨v, hy, hv⟩ := nom.val i o hin ho ha
    have hsel : ∀ cs c, o.op ≠ .select cs c := fun cs c => Region.noSelect_spec ok.sel i o cs c ho
    have hy' : SteadyO P ops S o v a := steady_agree hsel (fun t ht => r.slot t fun j p _ hj hp => by
      obtain ⟨_, h2, h3⟩ := ok.looks i o hin ho ha t ht j p hj hp
      obtain ⟨oj, hoj, e, he, hb, hon⟩ := Region.waitsFor_spec h3
      have : oj = o := Option.some.inj (hoj.symm.trans ho)
      subst this
      exact ⟨hon ▸ hall e he hb, h2⟩) hy
    have hrun : ∀ w', S w' → Only none_ w w' → Run ops S n base F al G (listed.setIfInBounds i true) (a.put o.dst v) w' := fun w' hS' ow => by
      have hne : ∀ x ∈ al, x.i ≠ i := fun x hx e => by
        obtain ⟨_, p, hp, hpa, _⟩ := nom.only x hx
        rw [e] at hp
        have : p = o := Option.some.inj (hp.symm.trans ho)
        subst this
        rw [ha] at hpa
        cases hpa
      refine ⟨hS', (put_size _ _ _).trans r.size, (put_defers' _ _ _).trans r.defers, fun t ht => ?_, fun x hx hl => ?_, fun x hx y hy hlx hly => r.apart x hx y hy (hkeep x hx (hne x hx) hlx) (hkeep y hy (hne y hy) hly)⟩
      · by_cases hd : o.dst = some t
        · rw [hd, put_at, if_pos rfl]
          by_cases hlt : t < a.tmps.size
          · rw [if_pos hlt, hv t hd (by rw [← r.size]; exact hlt)]
          · rw [if_neg hlt, Array.getElem?_eq_none (by rw [← r.size]; exact Nat.le_of_not_lt hlt)]
        · have h1 : (a.put o.dst v).tmps[t]? = a.tmps[t]? := by
            cases hd2 : o.dst with
            | none => rfl
            | some d => rw [put_at, if_neg (fun e => hd (by rw [hd2, e]))]
          rw [h1]
          refine r.slot t fun j p hjn hj hp => ?_
          obtain ⟨h2, h3⟩ := ht j p hjn hj hp
          have hji : i ≠ j := by
            rintro rfl
            have : p = o := Option.some.inj (hj.symm.trans ho)
            subst this
            exact hd hp
          rw [getD_set_ne false hji] at h2
          exact ⟨h2, h3⟩
      · obtain ⟨h1, h2, h3⟩ := r.made x hx (hkeep x hx (hne x hx) hl)
        refine ⟨fun hlt => ?_, h2.only ow (fun h => h), h3⟩
        have := hdif x hx (hne x hx)
        rw [← h1 hlt]
        cases hd2 : o.dst with
        | none => rfl
        | some d => rw [put_at, if_neg (fun e => this (by rw [hd2, e]))]
    unfold wpOp
    simp only [ho]
    rcases hy' with ⟨hw, hv'⟩ | ⟨hw, rfl⟩
    · rw [if_pos hw]
      refine .inl ?_
      have hc := hv' w r.hS
      unfold Oper.wp
      generalize (execOp a.eval o).run P w = res at hc ⊢
      cases res with
      | halt x w' => exact hc.elim
      | ok nx w' =>
        cases nx <;> simp only [CameO] at hc <;> simp only [Oper.upon]
        case value u => obtain ⟨rfl, h2, h3⟩ := hc; exact hK _ _ _ (hrun _ h2 h3)
        case skip => obtain ⟨rfl, h2, h3⟩ := hc; exact hK _ _ _ (hrun _ h2 h3)
        case enter f args => exact hc.mono fun e w'' ⟨he, h2, h3⟩ => by subst he; exact hK _ _ _ (hrun _ h2 h3)
    · rw [if_neg (by simp [hw])]
      exact hK _ _ _ (hrun _ r.hS (Only.refl _ _))
  · -- one that makes a variable
    obtain ⟨x, hx, hxi, _, hd, hg, hm⟩ := nom.made i o hin ho ha
    unfold wpOp
    simp only [ho]
    rw [if_pos (by simp [Region.wanted, hg])]
    refine .inl ?_
    unfold Oper.wp
    rw [hm]
    simp only [Oper.upon]
    have hsame : ∀ y ∈ al, y.i = i → y.d = x.d ∧ w.alloc (.cells x.zs x.t) = w.alloc (.cells y.zs y.t) := fun y hy e => by
      obtain ⟨_, p, hp, _, hpd, _, hpm⟩ := nom.only y hy
      rw [e] at hp
      have : p = o := Option.some.inj (hp.symm.trans ho)
      subst this
      rw [hd] at hpd
      injection hpd with hpd
      have h1 := hm a.eval w
      rw [hpm a.eval w] at h1
      injection h1 with _ h1
      exact ⟨hpd.symm, h1.symm⟩
    refine hK (fun j => if j = i then w.heap.size else G j) _ _ ⟨hal _ _ _ r.hS, (put_size _ _ _).trans r.size, (put_defers' _ _ _).trans r.defers, fun t ht => ?_, fun y hy hl => ?_, fun y hy z hz hly hlz => ?_⟩
    · have hdt : o.dst ≠ some t := fun e => by
        have := (ht i o hin ho e).2
        rw [ha] at this
        cases this
      rw [hd, put_at, if_neg (fun e => hdt (by rw [hd, e]))]
      refine r.slot t fun j p hjn hj hp => ?_
      obtain ⟨h2, h3⟩ := ht j p hjn hj hp
      have hji : i ≠ j := by
        rintro rfl
        have : p = o := Option.some.inj (hj.symm.trans ho)
        subst this
        exact hdt hp
      rw [getD_set_ne false hji] at h2
      exact ⟨h2, h3⟩
    · by_cases hyi : y.i = i
      · obtain ⟨h1, h2⟩ := hsame y hy hyi
        refine ⟨fun hlt => ?_, ?_, ?_⟩
        · rw [hd, h1, put_at, if_pos rfl, if_pos (by rw [r.size, ← h1]; exact hlt), if_pos hyi]
        · show Blk _ (if y.i = i then _ else _) _ _
          rw [if_pos hyi, h2]
          exact Blk.new w _ _
        · show base ≤ (if y.i = i then _ else _)
          rw [if_pos hyi]
          exact hbase w r.hS
      · obtain ⟨h1, h2, h3⟩ := r.made y hy (hkeep y hy hyi hl)
        refine ⟨fun hlt => ?_, ?_, ?_⟩
        · have h4 := hdif y hy hyi
          rw [hd, put_at, if_neg (fun e => h4 (by rw [hd, e])), if_neg hyi]
          exact h1 hlt
        · show Blk _ (if y.i = i then _ else _) _ _
          rw [if_neg hyi]
          exact h2.alloc _
        · show base ≤ (if y.i = i then _ else _)
          rw [if_neg hyi]
          exact h3
    · intro e
      by_cases hyi : y.i = i
      · by_cases hzi : z.i = i
        · rw [hyi, hzi]
        · simp only [if_pos hyi, if_neg hzi] at e
          have := (r.made z hz (hkeep z hz hzi hlz)).2.1.lt
          omega
      · by_cases hzi : z.i = i
        · simp only [if_neg hyi, if_pos hzi] at e
          have := (r.made y hy (hkeep y hy hyi hly)).2.1.lt
          omega
        · simp only [if_neg hyi, if_neg hzi] at e
          exact r.apart y hy z hz (hkeep y hy hyi hly) (hkeep z hz hzi hlz) e

/-- What was made, laid into its slots. -/
def putAl (G : Nat → Nat) : List Al → Act → Act
  | [], a => a
  | x :: l, a => putAl G l (a.put (some x.d) (.pointer (some ⟨G x.i, 0, none⟩)))
theorem putAl_size (G : Nat → Nat) : ∀ (l : List Al) (a : Act), (putAl G l a).tmps.size = a.tmps.size ∧ (putAl G l a).defers = a.defers
  | [], _ => ⟨rfl, rfl⟩
  | x :: l, a => by
    obtain ⟨h1, h2⟩ := putAl_size G l (a.put (some x.d) (.pointer (some ⟨G x.i, 0, none⟩)))
    exact ⟨h1.trans (put_size _ _ _), h2.trans (put_defers' _ _ _)⟩
theorem putAl_far (G : Nat → Nat) {t : Nat} : ∀ (l : List Al) (a : Act), (∀ x ∈ l, x.d ≠ t) → (putAl G l a).tmps[t]? = a.tmps[t]?
  | [], _, _ => rfl
  | x :: l, a, h => by
    rw [putAl, putAl_far G l _ (fun y hy => h y (List.mem_cons_of_mem _ hy)), put_at, if_neg (h x (by simp))]
theorem putAl_at (G : Nat → Nat) {t : Nat} {u : Value} : ∀ (l : List Al) (a : Act), t < a.tmps.size → (∃ x ∈ l, x.d = t) → (∀ x ∈ l, x.d = t → Value.pointer (some ⟨G x.i, 0, none⟩) = u) → (putAl G l a).tmps[t]? = some u
  | [], _, _, h, _ => by obtain ⟨x, hx, _⟩ := h; cases hx
  | x :: l, a, hlt, h, hu => by
    rw [putAl]
    by_cases hl : ∃ y ∈ l, y.d = t
    · exact putAl_at G l _ (by rwa [put_size]) hl (fun y hy => hu y (List.mem_cons_of_mem _ hy))
    · rw [putAl_far G l _ (fun y hy e => hl ⟨y, hy, e⟩)]
      obtain ⟨y, hy, hyt⟩ := h
      rcases List.mem_cons.1 hy with rfl | hy
      · rw [put_at, if_pos hyt, if_pos hlt, hu y (by simp) hyt]
      · exact absurd ⟨y, hy, hyt⟩ hl

theorem act_ext {a b : Act} (h1 : a.defers = b.defers) (h2 : ∀ t : Nat, a.tmps[t]? = b.tmps[t]?) : a = b := by
  obtain ⟨t, d⟩ := a
  obtain ⟨t', d'⟩ := b
  simp only at h1 h2
  subst h1
  rw [Array.ext_getElem? h2]

/-- All have come up. -/
theorem run_end {n base : Nat} {a0 F : Act} {al : List Al} (nom : Nom P ops S n a0 F al) {G : Nat → Nat} {listed : Array Bool} {a : Act} {w : World}
    (r : Run ops S n base F al G listed a w) (hall : ∀ i, i < n → listed.getD i false = true) : a = putAl G al F := by
  refine act_ext (r.defers.trans (putAl_size G al F).2.symm) fun t => ?_
  by_cases hx : ∃ x ∈ al, x.d = t
  · obtain ⟨x, hx, hxt⟩ := hx
    by_cases hlt : t < F.tmps.size
    · have h1 := (r.made x hx (hall _ (nom.only x hx).1)).1 (by rw [hxt]; exact hlt)
      rw [hxt] at h1
      rw [h1]
      refine (putAl_at G al F hlt ⟨x, hx, hxt⟩ fun y hy hyt => ?_).symm
      have h2 := (r.made y hy (hall _ (nom.only y hy).1)).1 (by rw [hyt]; exact hlt)
      rw [hyt, h1] at h2
      injection h2 with h2
      exact h2.symm
    · rw [Array.getElem?_eq_none (by rw [r.size]; omega), Array.getElem?_eq_none (by rw [(putAl_size G al F).1]; omega)]
  · have hx' : ∀ x ∈ al, x.d ≠ t := fun x h e => hx ⟨x, h, e⟩
    rw [putAl_far G al F hx']
    refine r.slot t fun j p h hj hp => ⟨hall j h, ?_⟩
    cases ha : isAl p
    · rfl
    · obtain ⟨x, hx, _, _, hd, _⟩ := nom.made j p h hj ha
      rw [hp] at hd
      injection hd with hd
      exact absurd hd.symm (hx' x hx)

theorem run_all {n base g : Nat} (ok : FlOk ops n) {a0 F : Act} {al : List Al} (nom : Nom P ops S n a0 F al) (hbase : ∀ w, S w → base ≤ w.heap.size) (hal : ∀ w cs t, S w → S (w.alloc (.cells cs t)))
    {Q : Exit → Act → World → Prop} (hend : ∀ G listed a w, HeadInv .any ops n listed → (∀ i, i < n → listed.getD i false = true) → Run ops S n base F al G listed a w → wpAny P .any ops Q g listed a w) :
    ∀ (f : Nat) (G : Nat → Nat) (listed : Array Bool) (a : Act) (w : World), HeadInv .any ops n listed → ((List.range n).filter fun i => !listed.getD i false).length = f → Run ops S n base F al G listed a w → wpAny P .any ops Q (f + g) listed a w
  | 0, G, listed, a, w, inv, hf, r => by
    rw [Nat.zero_add]
    refine hend G listed a w inv (fun i hi => ?_) r
    cases h : listed.getD i false
    · have := List.eq_nil_of_length_eq_zero hf
      have : i ∈ (List.range n).filter fun i => !listed.getD i false := List.mem_filter.2 ⟨List.mem_range.2 hi, by simp [h]⟩
      simp_all
    · rfl
  | f + 1, G, listed, a, w, inv, hf, r => by
    rw [show f + 1 + g = (f + g) + 1 by omega]
    -- the first in the text that has not come up may come up
    have hne : ∃ i, i < n ∧ listed.getD i false = false := by
      cases hc : (List.range n).filter fun i => !listed.getD i false with
      | nil => rw [hc] at hf; simp at hf
      | cons i r =>
        have : i ∈ (List.range n).filter fun i => !listed.getD i false := by rw [hc]; simp
        obtain ⟨h1, h2⟩ := List.mem_filter.1 this
        exact ⟨i, List.mem_range.1 h1, by simpa using h2⟩
    have hmin : ∃ i, (i < n ∧ listed.getD i false = false) ∧ ∀ j, j < i → listed.getD j false = true := by
      obtain ⟨i, hi⟩ := hne
      induction i using Nat.strongRecOn with
      | _ i ih =>
        by_cases h : ∃ j, j < i ∧ listed.getD j false = false
        · obtain ⟨j, hj, hjl⟩ := h
          exact ih j hj ⟨by omega, hjl⟩
        · refine ⟨i, hi, fun j hj => ?_⟩
          cases hl : listed.getD j false
          · exact absurd ⟨j, hj, hl⟩ h
          · rfl
    obtain ⟨i, ⟨hin, hil⟩, hlow⟩ := hmin
    have hio : i < ops.size := Nat.lt_of_lt_of_le hin ok.le
    have hready : i ∈ Region.ready .any ops listed := mem_ready.2 ⟨getD_in (by rw [inv.size]; exact hio) hil, ops[i], Array.getElem?_eq_getElem hio, fun e he hb => hlow _ (ok.after i _ hin (Array.getElem?_eq_getElem hio) e he hb)⟩
    refine ⟨fun h0 => (by rw [h0] at hready; cases hready), fun j hj => ?_⟩
    have hjn : j < n := by
      rcases Nat.lt_or_ge j n with h | h
      · exact h
      · exact absurd hj (ok.wait i hin listed inv (mem_ready.1 hready).1 j h)
    refine run_step ok nom hbase hal inv hj hjn r fun G' a' w' r' => run_all ok nom hbase hal hend f G' _ a' w' (inv.set hj hjn) ?_ r'
    have hjs : j < listed.size := by rw [inv.size]; exact Nat.lt_of_lt_of_le hjn ok.le
    have hjf := getD_both (mem_ready.1 hj).1
    have key : ∀ m, j < m → ((List.range m).filter fun i => !(listed.setIfInBounds j true).getD i false).length + 1 = ((List.range m).filter fun i => !listed.getD i false).length := by
      intro m
      induction m with
      | zero => intro h; omega
      | succ m ih =>
        intro hjm
        rw [List.range_succ, List.filter_append, List.filter_append, List.length_append, List.length_append]
        by_cases hm : j = m
        · subst hm
          have e : ∀ l : List Nat, (∀ x ∈ l, x ≠ j) → (l.filter fun i => !(listed.setIfInBounds j true).getD i false) = l.filter fun i => !listed.getD i false := fun l hl =>
            List.filter_congr fun x hx => by rw [getD_set_ne false (Ne.symm (hl x hx))]
          rw [e _ (fun x hx => by have := List.mem_range.1 hx; omega)]
          have e1 : ([j].filter fun i => !(listed.setIfInBounds j true).getD i false) = [] := List.filter_eq_nil_iff.2 fun x hx => by
            have : x = j := by simpa using hx
            subst this
            rw [getD_set_self hjs]
            simp
          have e2 : ([j].filter fun i => !listed.getD i false) = [j] := List.filter_eq_self.2 fun x hx => by
            have : x = j := by simpa using hx
            subst this
            rw [hjf]
            rfl
          rw [e1, e2]
          rfl
        · have h2 := ih (by omega)
          have e : ([m].filter fun i => !(listed.setIfInBounds j true).getD i false) = [m].filter fun i => !listed.getD i false :=
            List.filter_congr fun x hx => by rw [getD_set_ne false (by simp at hx; omega)]
          rw [e]
          omega
    have := key n hjn
    omega

/-- The region's law. -/
theorem wp_region_float (S : World → Prop) (base : Nat) {id : Nat} {Q : Exit → Act → World → Prop} {a : Act} {w : World} {l : List Oper} (n : Nat) (hm : P.follows .mixedOrders = true) (hB : flTail l.toArray n = true) (hS : S w.drew)
    (hbase : ∀ w, S w → base ≤ w.heap.size) (hal : ∀ w cs t, S w → S (w.alloc (.cells cs t)))
    (h : flList P l.toArray S (fun F al => ∀ (G : Nat → Nat) w', S w' → (∀ x ∈ al, Blk w' (G x.i) x.t x.zs ∧ base ≤ G x.i) → (∀ x ∈ al, ∀ y ∈ al, G x.i = G y.i → x.i = y.i) → wpList P l.toArray Q (l.drop n) (putAl G al F) w') (l.take n) 0 a []) :
    (Code.region id l.toArray true).wp P Q a w := by
  have ok := flOk_of hB
  have hle : n ≤ l.length := by have := ok.le; simpa using this
  have htl : (l.take n).length = n := by simp; omega
  have hdl : (l.drop n).length = l.toArray.size - n := by simp
  obtain ⟨F, al, hK, nom⟩ := nom_of (a0 := a) ok (l.take n) 0 a [] (fun j hj => by
    have hj' : j < n := by rw [htl] at hj; exact hj
    simp [hj']) (by simpa using htl) ⟨rfl, rfl, fun _ _ => rfl, fun i o hi => by omega, fun i o hi => by omega, fun x hx => by cases hx⟩ h
  refine wp_region_any hm ?_
  have inv0 : HeadInv .any l.toArray n (Array.replicate l.toArray.size false) :=
    ⟨by simp, fun j oj _ hl => (by rw [getD_replicate_false] at hl; cases hl), fun t _ ht => getD_in (by simpa using ht) (getD_replicate_false _ _)⟩
  have hcount : ((List.range n).filter fun i => !(Array.replicate l.toArray.size false).getD i false).length = n := by
    rw [List.filter_eq_self.2 (fun i _ => by rw [getD_replicate_false]; rfl), List.length_range]
  have r0 : Run l.toArray S n base F al (fun _ => 0) (Array.replicate l.toArray.size false) a { w with drawn := w.drawn + 1 } := by
    refine ⟨hS, nom.size.symm, nom.defers.symm, fun t ht => ?_, fun x _ hl => (by rw [getD_replicate_false] at hl; cases hl), fun x _ y _ hl => (by rw [getD_replicate_false] at hl; cases hl)⟩
    refine (nom.old t fun i o hi ho _ hd => ?_).symm
    have := (ht i o hi ho hd).1
    rw [getD_replicate_false] at this
    cases this
  have := run_all ok nom hbase hal (Q := Q) (g := l.toArray.size - n) (fun G listed a' w' inv hall r => by
    have hlist : listed = ((List.range l.toArray.size).map fun j => decide (j < n)).toArray := by
      apply Array.ext_getElem?
      intro j
      rcases Nat.lt_or_ge j l.toArray.size with hj | hj
      · have hjs : j < listed.size := by rw [inv.size]; exact hj
        rw [Array.getElem?_eq_getElem hjs]
        by_cases hjn : j < n
        · have := hall j hjn
          simp only [Array.getD_eq_getD_getElem?, Array.getElem?_eq_getElem hjs, Option.getD_some] at this
          rw [this, List.getElem?_toArray, List.getElem?_map, List.getElem?_range hj]
          simp [hjn]
        · have := inv.tail j (by omega) hj
          simp only [Array.getD_eq_getD_getElem?, Array.getElem?_eq_getElem hjs, Option.getD_some] at this
          rw [this, List.getElem?_toArray, List.getElem?_map, List.getElem?_range hj]
          simp [hjn]
      · rw [Array.getElem?_eq_none (by rw [inv.size]; exact hj), Array.getElem?_eq_none (by simpa using hj)]
    have h1 := hK G w' r.hS (fun x hx => (r.made x hx (hall _ (nom.only x hx).1)).2) (fun x hx y hy => r.apart x hx y hy (hall _ (nom.only x hx).1) (hall _ (nom.only y hy).1))
    rw [← run_end nom r hall] at h1
    have := wpAny_of_seq (md := .any) (Q' := Q) (l.drop n) n listed a' w' (fun j => by simp [List.getElem?_drop]) (by rw [hdl, hlist]; exact ok.seq) h1
    rwa [hdl] at this) n (fun _ => 0) _ _ _ inv0 hcount r0
  rw [show n + (l.toArray.size - n) = l.toArray.size by have := ok.le; omega] at this
  exact this

/-! The steps of a walk. -/
theorem fl_nil {K : Act → List Al → Prop} {k : Nat} {a : Act} {al : List Al} (h : K a al) : flList P ops S K [] k a al := h
theorem fl_value {K : Act → List Al → Prop} {k : Nat} {a : Act} {al : List Al} {o : Oper} {r : List Oper} {v : Value} (ha : isAl o = false) (hw : Region.wanted o (yielded ops a.tmps) = true) (hv : ∀ w, S w → (execOp a.eval o).run P w = .ok (.value v) w)
    (h : flList P ops S K r (k + 1) (a.put o.dst v) al) : flList P ops S K (o :: r) k a al :=
  .inl ⟨ha, v, .inl ⟨hw, fun w hS => by rw [hv w hS]; exact ⟨rfl, hS, Only.refl _ _⟩⟩, h⟩
theorem fl_skip {K : Act → List Al → Prop} {k : Nat} {a : Act} {al : List Al} {o : Oper} {r : List Oper} (ha : isAl o = false) (hw : Region.wanted o (yielded ops a.tmps) = false) (h : flList P ops S K r (k + 1) (a.put o.dst undef) al) : flList P ops S K (o :: r) k a al :=
  .inl ⟨ha, undef, .inr ⟨hw, rfl⟩, h⟩
theorem fl_call {K : Act → List Al → Prop} {k : Nat} {a : Act} {al : List Al} {o : Oper} {r : List Oper} {v : Value} {f : FuncId} {args : Array Value} (ha : isAl o = false) (hw : Region.wanted o (yielded ops a.tmps) = true) (hv : ∀ w, S w → (execOp a.eval o).run P w = .ok (.enter f args) w)
    (hc : ∀ w, S w → Calls P f args w fun e w' => e = .returned v ∧ S w' ∧ Only none_ w w') (h : flList P ops S K r (k + 1) (a.put o.dst v) al) : flList P ops S K (o :: r) k a al :=
  .inl ⟨ha, v, .inl ⟨hw, fun w hS => by rw [hv w hS]; exact hc w hS⟩, h⟩
theorem fl_make {K : Act → List Al → Prop} {k : Nat} {a : Act} {al : List Al} {o : Oper} {r : List Oper} (d : Tmp) (t : TypeId) (zs : Array Value) (ha : isAl o = true) (hd : o.dst = some d) (hg : o.guard = none)
    (hv : ∀ ρ w, (execOp ρ o).run P w = .ok (.value (.pointer (some ⟨w.heap.size, 0, none⟩))) (w.alloc (.cells zs t))) (h : flList P ops S K r (k + 1) a (al ++ [⟨k, d, t, zs⟩])) : flList P ops S K (o :: r) k a al :=
  .inr ⟨⟨k, d, t, zs⟩, rfl, ⟨ha, hd, hg, hv⟩, h⟩

/-- A load of a whole block, where the operation is wanted. -/
theorem wpList_load_g {rest : List Oper} {o : Oper} {a : Act} {w : World} {Q : Exit → Act → World → Prop} (hw : Region.wanted o (yielded ops a.tmps) = true) (ty : TypeId) (x : Operand) (ho : o.op = .load ty x)
    (g : Nat) (hx : a.eval x = .pointer (some ⟨g, 0, none⟩)) (t : TypeId) (cs : Array Value) (fr : Nat × Nat) (d : TypeDesc) (hg : w.heap[g]? = some (.cells cs t fr))
    (hu : P.underlying ty = some d) (hd : (match d with | .struct _ | .array _ _ => true | _ => false) = true) (hi : (P.info? ty).map (·.size) = some cs.size)
    (h : wpList P ops Q rest (a.put o.dst (.agg cs)) w) : wpList P ops Q (o :: rest) a w := by
  show (if Region.wanted o (yielded ops a.tmps) then o.wp P a w (wpList P ops Q rest) Q ∨ _ else _)
  rw [if_pos hw]
  exact .inl (wp_load_row ty x ho g hx t cs fr d hg hu hd hi h)
end
end Go.Proofs.Ytkddmdgehnijiaa
