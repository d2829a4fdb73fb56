/- Texts of mine, one behind the other: Flp, RpEn. No statement of the seat is proved here. -/
import Derived.Test.YtoohpcomnhfgpaaGreatHn2
import Derived.Test.YtoohpcomnhfgpaaGreatHn1
import Derived.Test.YtoohpcomnhfgpaaGreatHn6
import Derived.Laws.Rows
import Derived.Laws.Tables
import Derived.Test.YtoohpcomnhfgpaaGreatHn13
import Derived.Test.YtoohpcomnhfgpaaGreatHn8
section
namespace Go.Proofs.YtoohpcomnhfgpaaGreat
open Go.RowKit
def isAl (o : Oper) : Bool := match o.op with | .alloc _ => true | _ => false
structure Al where
  i : Nat
  d : Tmp
  t : TypeId
  zs : Array Value
def isSt (o : Oper) : Bool := match o.op with | .store .. => true | _ => false
structure Sto where
  j : Nat
  i : Nat
  cs : Array Value
section
variable {P : Program} {ops : Array Oper} {S : World → Prop}
def CameO (P : Program) (S : World → Prop) (w : World) (v : Value) : Result Next → Prop
  | .ok (.value u) w' => u = v ∧ S w' ∧ Only none_ w w'
  | .ok .skip w' => undef = v ∧ S w' ∧ Only none_ w w'
  | .ok (.enter f args) w' => Calls P f args w' fun e w'' => e = .returned v ∧ S w'' ∧ Only none_ w w''
  | _ => False
def SteadyO (P : Program) (ops : Array Oper) (S : World → Prop) (o : Oper) (v : Value) (a : Act) : Prop :=
  (Region.wanted o (yielded ops a.tmps) = true ∧ ∀ w, S w → CameO P S w v ((execOp a.eval o).run P w)) ∨ (Region.wanted o (yielded ops a.tmps) = false ∧ undef = v)
def MakesO (P : Program) (o : Oper) (x : Al) : Prop :=
  isAl o = true ∧ o.dst = some x.d ∧ o.guard = none ∧ ∀ ρ w, (execOp ρ o).run P w = .ok (.value (.pointer (some ⟨w.heap.size, 0, none⟩))) (w.alloc (.cells x.zs x.t))
def StoresO (P : Program) (o : Oper) (x : Al) (s : Sto) (a : Act) : Prop :=
  o.dst = none ∧ o.guard = none ∧ x.d < a.tmps.size ∧ ∃ ty y, o.op = .store ty (.tmp x.d) y ∧ a.eval y = .agg s.cs ∧ (P.info? ty).map (·.size) = some s.cs.size ∧ x.zs.size = s.cs.size ∧ s.cs.all (·.oneCell') = true
def flList (P : Program) (ops : Array Oper) (S : World → Prop) (K : Act → List Al → List Sto → Prop) : List Oper → Nat → Act → List Al → List Sto → Prop
  | [], _, a, al, sl => K a al sl
  | o :: r, k, a, al, sl => (isAl o = false ∧ isSt o = false ∧ ∃ v, SteadyO P ops S o v a ∧ flList P ops S K r (k + 1) (a.put o.dst v) al sl) ∨ (∃ x : Al, x.i = k ∧ MakesO P o x ∧ flList P ops S K r (k + 1) a (al ++ [x]) sl) ∨
      (isSt o = true ∧ ∃ s : Sto, s.j = k ∧ (∀ s' ∈ sl, s'.i ≠ s.i) ∧ ∃ x ∈ al, x.i = s.i ∧ StoresO P o x s a ∧ flList P ops S K r (k + 1) a al (sl ++ [s]))
def adr (o : Oper) : Option Tmp := match o.op with | .store _ (.tmp d) _ => some d | _ => none
def ytm (o : Oper) : Option Tmp := match o.op with | .store _ _ (.tmp d) => some d | _ => none
def flTail (ops : Array Oper) (n : Nat) : Bool :=
  Region.noSelect ops && (decide (n = ops.size) || decide (n < ops.size) && Region.sinkB .any ops n && Region.chainB .any ops n) &&
  ((List.range n).all fun i => match ops[i]? with
    | none => false
    | some o => (o.after.all fun e => !Region.binds .any e || decide (e.on < i)) &&
        ((List.range ops.size).all fun j => match ops[j]? with
          | none => true
          | some p => match p.dst with
            | none => true
            | some t => (decide (j ≤ i) || decide (n ≤ j) || o.dst != some t) && (isAl o || isSt o || !(o.looksAt ops).contains t || (decide (j < i) && !isAl p && Region.waitsFor .any ops i j)) &&
              (adr o != some t || (decide (j < i) && Region.waitsFor .any ops i j)) && (ytm o != some t || (decide (j < i) && !isAl p && Region.waitsFor .any ops i j)))) &&
  Region.seqB .any ops (ops.size - n) n ((List.range ops.size).map fun j => decide (j < n)).toArray
structure FlOk (ops : Array Oper) (n : Nat) : Prop where
  sel : Region.noSelect ops = true
  le : n ≤ ops.size
  wait : ∀ i, i < n → ∀ listed, HeadInv .any ops n listed → listed.getD i true = false → ∀ t, n ≤ t → t ∉ Region.ready .any ops listed
  after : ∀ i o, i < n → ops[i]? = some o → ∀ e ∈ o.after, Region.binds .any e = true → e.on < i
  apart : ∀ i o j p t, i < n → ops[i]? = some o → i < j → j < n → ops[j]? = some p → p.dst = some t → o.dst ≠ some t
  looks : ∀ i o, i < n → ops[i]? = some o → isAl o = false → isSt o = false → ∀ t ∈ o.looksAt ops, ∀ j p, ops[j]? = some p → p.dst = some t → j < i ∧ isAl p = false ∧ Region.waitsFor .any ops i j = true
  adrs : ∀ i o, i < n → ops[i]? = some o → ∀ t, adr o = some t → ∀ j p, ops[j]? = some p → p.dst = some t → j < i ∧ Region.waitsFor .any ops i j = true
  ytms : ∀ i o, i < n → ops[i]? = some o → ∀ t, ytm o = some t → ∀ j p, ops[j]? = some p → p.dst = some t → j < i ∧ isAl p = false ∧ Region.waitsFor .any ops i j = true
  seq : Region.seqB .any ops (ops.size - n) n ((List.range ops.size).map fun j => decide (j < n)).toArray = true
theorem flOk_of {n : Nat} (h : flTail ops n = true) : FlOk ops n := by
  simp only [flTail, Bool.and_eq_true, Bool.or_eq_true, decide_eq_true_eq] at h
  obtain ⟨⟨⟨hsel, hn⟩, hall⟩, hseq⟩ := h
  have hle : n ≤ ops.size := by rcases hn with h | h <;> omega
  have hrow : ∀ i o, i < n → ops[i]? = some o → (∀ e ∈ o.after, Region.binds .any e = true → e.on < i) ∧
      ∀ j p t, ops[j]? = some p → p.dst = some t → ((((j ≤ i ∨ n ≤ j) ∨ o.dst ≠ some t) ∧ (((isAl o = true ∨ isSt o = true) ∨ t ∉ o.looksAt ops) ∨ (j < i ∧ isAl p = false) ∧ Region.waitsFor .any ops i j = true)) ∧ (adr o ≠ some t ∨ j < i ∧ Region.waitsFor .any ops i j = true)) ∧ (ytm o ≠ some t ∨ (j < i ∧ isAl p = false) ∧ Region.waitsFor .any ops i j = true) := by
    intro i o hi ho
    have h1 := List.all_eq_true.1 hall i (List.mem_range.2 hi)
    simp only [ho, Bool.and_eq_true] at h1
    refine ⟨fun e he hb => ?_, fun j p t hj ht => ?_⟩
    · have := Array.all_eq_true_iff_forall_mem.1 h1.1 e he
      simp only [hb, Bool.not_true, Bool.false_or, decide_eq_true_eq] at this
      exact this
    · have h2 := List.all_eq_true.1 h1.2 j (List.mem_range.2 (Array.getElem?_eq_some_iff.1 hj).1)
      simp only [hj, ht, Bool.and_eq_true, Bool.or_eq_true, decide_eq_true_eq, bne_iff_ne, ne_eq, Bool.not_eq_true', List.contains_eq_mem, decide_eq_false_iff_not] at h2
      exact h2
  refine ⟨hsel, hle, ?_, fun i o hi ho => (hrow i o hi ho).1, fun i o j p t hi ho hij hjn hj ht => ?_, fun i o hi ho ha hst t ht j p hj hd => ?_, fun i o hi ho t ht j p hj hd => ?_, fun i o hi ho t ht j p hj hd => ?_, hseq⟩
  · intro i hi listed inv hun t ht
    rcases hn with h | ⟨⟨h1, h2⟩, h3⟩
    · intro hr
      obtain ⟨_, o, ho, _⟩ := mem_ready.1 hr
      have := (Array.getElem?_eq_some_iff.1 ho).1
      omega
    · exact tail_waits h2 h3 h1 inv _ i rfl hi hun t ht
  · rcases ((hrow i o hi ho).2 j p t hj ht).1.1.1 with (h | h) | h
    · omega
    · omega
    · exact h
  · rcases ((hrow i o hi ho).2 j p t hj hd).1.1.2 with ((h | h) | h) | h
    · rw [ha] at h; cases h
    · rw [hst] at h; cases h
    · exact absurd ht h
    · exact ⟨h.1.1, h.1.2, h.2⟩
  · exact ((hrow i o hi ho).2 j p t hj hd).1.2.resolve_left (fun h => h ht)
  · have := ((hrow i o hi ho).2 j p t hj hd).2.resolve_left (fun h => h ht)
    exact ⟨this.1.1, this.1.2, this.2⟩
theorem put_at {a : Act} {d : Tmp} {v : Value} {t : Nat} : (a.put (some d) v).tmps[t]? = if d = t then (if t < a.tmps.size then some v else none) else a.tmps[t]? := by
  simp only [Act.put, Array.getElem?_setIfInBounds]
  split
  · next h => subst h; rfl
  · rfl
theorem put_defers' (a : Act) (d : Option Tmp) (v : Value) : (a.put d v).defers = a.defers := by cases d <;> rfl
theorem steady_agree {o : Oper} {v : Value} {a b : Act} (hs : ∀ cs c, o.op ≠ .select cs c) (h : ∀ t ∈ o.looksAt ops, b.tmps[t]? = a.tmps[t]?) (hy : SteadyO P ops S o v a) : SteadyO P ops S o v b := by
  have e1 : execOp b.eval o = execOp a.eval o := execOp_congr o hs fun x hx => by
    cases x with
    | tmp t =>
      have : t ∈ o.looksAt ops := List.mem_append_left _ (List.mem_filterMap.2 ⟨.tmp t, by simpa using hx, rfl⟩)
      have ht := h t this
      simp only [Act.eval, Array.getD_eq_getD_getElem?, ht]
    | _ => rfl
  have e2 : Region.wanted o (yielded ops b.tmps) = Region.wanted o (yielded ops a.tmps) := by
    unfold Region.wanted
    cases hg : o.guard with
    | none => rfl
    | some gw =>
      obtain ⟨g, want⟩ := gw
      have hy : yielded ops b.tmps g = yielded ops a.tmps g := by
        unfold yielded
        cases ht : (ops[g]?).bind (·.dst) with
        | none => rfl
        | some t =>
          have := h t (by simp [Oper.looksAt, hg, ht])
          simp [this]
      simp only [hy]
  unfold SteadyO at *
  rw [e1, e2]
  exact hy
structure Nom (P : Program) (ops : Array Oper) (S : World → Prop) (n : Nat) (a0 F : Act) (al : List Al) (sl : List Sto) : Prop where
  size : F.tmps.size = a0.tmps.size
  defers : F.defers = a0.defers
  old : ∀ t, (∀ i o, i < n → ops[i]? = some o → isAl o = false → o.dst ≠ some t) → F.tmps[t]? = a0.tmps[t]?
  val : ∀ i o, i < n → ops[i]? = some o → isAl o = false → isSt o = false → ∃ v, SteadyO P ops S o v F ∧ ∀ t, o.dst = some t → t < F.tmps.size → F.tmps[t]? = some v
  made : ∀ i o, i < n → ops[i]? = some o → isAl o = true → ∃ x ∈ al, x.i = i ∧ MakesO P o x
  only : ∀ x ∈ al, x.i < n ∧ ∃ o, ops[x.i]? = some o ∧ MakesO P o x
  sto : ∀ i o, i < n → ops[i]? = some o → isSt o = true → ∃ s ∈ sl, s.j = i ∧ ∃ x ∈ al, x.i = s.i ∧ StoresO P o x s F
  stoOnly : ∀ s ∈ sl, s.j < n ∧ ∃ o, ops[s.j]? = some o ∧ isSt o = true ∧ ∃ x ∈ al, x.i = s.i ∧ adr o = some x.d
  stoOne : ∀ s ∈ sl, ∀ s' ∈ sl, s.i = s'.i → s = s'
theorem isSt_al {o : Oper} (h : isSt o = true) : isAl o = false := by
  unfold isSt at h
  unfold isAl
  split at h
  · next heq => rw [heq]
  · cases h
theorem stores_agree {o : Oper} {x : Al} {s : Sto} {a b : Act} (hs : b.tmps.size = a.tmps.size) (h : ∀ t, ytm o = some t → b.tmps[t]? = a.tmps[t]?) (hy : StoresO P o x s a) : StoresO P o x s b := by
  obtain ⟨h1, h2, h3, ty, y, ho, hv, h4⟩ := hy
  refine ⟨h1, h2, by rw [hs]; exact h3, ty, y, ho, ?_, h4⟩
  rw [← hv]
  cases y with
  | tmp t =>
    have ht := h t (by simp [ytm, ho])
    simp only [Act.eval, Array.getD_eq_getD_getElem?, ht]
  | _ => rfl
theorem nom_of {n : Nat} (ok : FlOk ops n) {a0 : Act} {K : Act → List Al → List Sto → Prop} : ∀ (l : List Oper) (k : Nat) (a : Act) (al : List Al) (sl : List Sto), (∀ j, j < l.length → l[j]? = ops[k + j]?) → k + l.length = n →
    Nom P ops S k a0 a al sl → flList P ops S K l k a al sl → ∃ F al sl, K F al sl ∧ Nom P ops S n a0 F al sl
  | [], k, a, al, sl, _, hk, hn, h => by
    have : k = n := by simpa using hk
    subst this
    exact ⟨a, al, sl, h, hn⟩
  | o :: l, k, a, al, sl, hl, hk, hn, h => by
    have h0 : ops[k]? = some o := by simpa using (hl 0 (by simp)).symm
    have hkn : k < n := by simp only [List.length_cons] at hk; omega
    have hl' : ∀ j, j < l.length → l[j]? = ops[(k + 1) + j]? := fun j hj => by have := hl (j + 1) (by simp; omega); simpa [Nat.add_assoc, Nat.add_comm 1 j] using this
    have hk' : (k + 1) + l.length = n := by simp only [List.length_cons] at hk; omega
    have hsame : ∀ i p, ops[i]? = some p → i = k → p = o := fun i p hp e => by subst e; exact Option.some.inj (hp.symm.trans h0)
    have honly : ∀ y ∈ al, y.i < k + 1 ∧ ∃ o, ops[y.i]? = some o ∧ MakesO P o y := fun y hy => by
      obtain ⟨h1, h2⟩ := hn.only y hy
      exact ⟨by omega, h2⟩
    rcases h with ⟨ha, hst, v, hy, h⟩ | ⟨x, hxi, hx, h⟩ | ⟨hst, s, hsj, hone, x, hx, hxi, hs, h⟩
    · refine nom_of ok l (k + 1) _ al sl hl' hk' ?_ h
      have hput : ∀ t, o.dst ≠ some t → (a.put o.dst v).tmps[t]? = a.tmps[t]? := fun t ht => by
        cases hd : o.dst with
        | none => rfl
        | some d => rw [put_at, if_neg (fun e => ht (by rw [hd, e]))]
      have hfar : ∀ i p, i < k → ops[i]? = some p → ∀ t, p.dst = some t → (a.put o.dst v).tmps[t]? = a.tmps[t]? := fun i p hi hp t ht =>
        hput t fun hd => ok.apart i p k o t (by omega) hp hi hkn h0 hd ht
      refine ⟨(put_size _ _ _).trans hn.size, (put_defers' _ _ _).trans hn.defers, fun t ht => ?_, fun i p hi hp hpa hps => ?_, fun i p hi hp hpa => ?_, honly, fun i p hi hp hps => ?_, fun s hs => ⟨Nat.lt_succ_of_lt (hn.stoOnly s hs).1, (hn.stoOnly s hs).2⟩, hn.stoOne⟩
      · rw [hput t (fun hd => ht k o (by omega) h0 ha hd)]
        exact hn.old t fun i p hi hp hpa => ht i p (by omega) hp hpa
      · by_cases hik : i = k
        · obtain rfl := hsame i p hp hik
          subst hik
          refine ⟨v, steady_agree (fun cs c => Region.noSelect_spec ok.sel i p cs c hp) (fun t ht => hput t fun hd => ?_) hy, fun t ht hlt => ?_⟩
          · have := (ok.looks i p hkn hp hpa hps t ht i p hp hd).1
            omega
          · rw [ht, put_at, if_pos rfl, if_pos (by rwa [put_size] at hlt)]
        · obtain ⟨u, hu, hut⟩ := hn.val i p (by omega) hp hpa hps
          refine ⟨u, steady_agree (fun cs c => Region.noSelect_spec ok.sel i p cs c hp) (fun t ht => hput t fun hd => ?_) hu, fun t ht hlt => ?_⟩
          · have := (ok.looks i p (by omega) hp hpa hps t ht k o h0 hd).1
            omega
          · rw [hfar i p (by omega) hp t ht]
            exact hut t ht (by rwa [put_size] at hlt)
      · have hik : i ≠ k := fun e => by
          have := hsame i p hp e
          rw [this, ha] at hpa
          cases hpa
        exact hn.made i p (by omega) hp hpa
      · have hik : i ≠ k := fun e => by
          have := hsame i p hp e
          rw [this, hst] at hps
          cases hps
        obtain ⟨s, hs, hsj, x, hx, hxi, hst'⟩ := hn.sto i p (by omega) hp hps
        refine ⟨s, hs, hsj, x, hx, hxi, stores_agree (put_size _ _ _) (fun t ht => hput t fun hd => ?_) hst'⟩
        have := (ok.ytms i p (by omega) hp t ht k o h0 hd).1
        omega
    · refine nom_of ok l (k + 1) a (al ++ [x]) sl hl' hk' ⟨hn.size, hn.defers, fun t ht => hn.old t fun i p hi hp hpa => ht i p (by omega) hp hpa, fun i p hi hp hpa hps => ?_, fun i p hi hp hpa => ?_, fun y hy => ?_, fun i p hi hp hps => ?_, fun s hs => ?_, hn.stoOne⟩ h
      · have hik : i ≠ k := fun e => by
          have := hsame i p hp e
          rw [this, hx.1] at hpa
          cases hpa
        exact hn.val i p (by omega) hp hpa hps
      · by_cases hik : i = k
        · obtain rfl := hsame i p hp hik
          exact ⟨x, by simp, hxi.trans hik.symm, hx⟩
        · obtain ⟨y, hy, h2⟩ := hn.made i p (by omega) hp hpa
          exact ⟨y, List.mem_append_left _ hy, h2⟩
      · rcases List.mem_append.1 hy with hy | hy
        · exact honly y hy
        · have : y = x := by simpa using hy
          subst this
          rw [hxi]
          exact ⟨by omega, o, h0, hx⟩
      · have hik : i ≠ k := fun e => by
          have := hsame i p hp e
          rw [this] at hps
          have := isSt_al hps
          rw [hx.1] at this
          cases this
        obtain ⟨s, hs, hsj, y, hy, h2⟩ := hn.sto i p (by omega) hp hps
        exact ⟨s, hs, hsj, y, List.mem_append_left _ hy, h2⟩
      · obtain ⟨h1, p, hp, hps, y, hy, h2⟩ := hn.stoOnly s hs
        exact ⟨by omega, p, hp, hps, y, List.mem_append_left _ hy, h2⟩
    · refine nom_of ok l (k + 1) a al (sl ++ [s]) hl' hk' ⟨hn.size, hn.defers, fun t ht => hn.old t fun i p hi hp hpa => ht i p (by omega) hp hpa, fun i p hi hp hpa hps => ?_, fun i p hi hp hpa => ?_, honly, fun i p hi hp hps => ?_, fun s' hs' => ?_, fun s' hs' s2 hs2 e => ?_⟩ h
      · have hik : i ≠ k := fun e => by
          have := hsame i p hp e
          rw [this, hst] at hps
          cases hps
        exact hn.val i p (by omega) hp hpa hps
      · have hik : i ≠ k := fun e => by
          have := hsame i p hp e
          rw [this, isSt_al hst] at hpa
          cases hpa
        exact hn.made i p (by omega) hp hpa
      · by_cases hik : i = k
        · obtain rfl := hsame i p hp hik
          exact ⟨s, by simp, hsj.trans hik.symm, x, hx, hxi, hs⟩
        · obtain ⟨s', hs', h2⟩ := hn.sto i p (by omega) hp hps
          exact ⟨s', List.mem_append_left _ hs', h2⟩
      · rcases List.mem_append.1 hs' with h1 | h1
        · exact ⟨Nat.lt_succ_of_lt (hn.stoOnly s' h1).1, (hn.stoOnly s' h1).2⟩
        · have : s' = s := by simpa using h1
          subst this
          rw [hsj]
          obtain ⟨_, _, _, ty, y, hop, _⟩ := hs
          exact ⟨by omega, o, h0, hst, x, hx, hxi, by simp [adr, hop]⟩
      · rcases List.mem_append.1 hs' with h1 | h1
        · rcases List.mem_append.1 hs2 with h2 | h2
          · exact hn.stoOne s' h1 s2 h2 e
          · have : s2 = s := by simpa using h2
            subst this
            exact absurd e (hone s' h1)
        · have h3 : s' = s := by simpa using h1
          subst h3
          rcases List.mem_append.1 hs2 with h2 | h2
          · exact absurd e.symm (hone s2 h2)
          · have : s2 = s' := by simpa using h2
            exact this.symm
structure Run (ops : Array Oper) (S : World → Prop) (n base : Nat) (F : Act) (al : List Al) (sl : List Sto) (G : Nat → Nat) (listed : Array Bool) (a : Act) (w : World) : Prop where
  hS : S w
  size : a.tmps.size = F.tmps.size
  defers : a.defers = F.defers
  slot : ∀ t, (∀ j p, j < n → ops[j]? = some p → p.dst = some t → listed.getD j false = true ∧ isAl p = false) → a.tmps[t]? = F.tmps[t]?
  made : ∀ x ∈ al, listed.getD x.i false = true → (x.d < F.tmps.size → a.tmps[x.d]? = some (.pointer (some ⟨G x.i, 0, none⟩))) ∧ (∃ zs, Blk w (G x.i) x.t zs ∧ ((∀ s ∈ sl, s.i = x.i → listed.getD s.j false = false) → zs = x.zs) ∧ ∀ s ∈ sl, s.i = x.i → listed.getD s.j false = true → zs = s.cs) ∧ base ≤ G x.i
  apart : ∀ x ∈ al, ∀ y ∈ al, listed.getD x.i false = true → listed.getD y.i false = true → G x.i = G y.i → x.i = y.i
theorem getD_set_self {listed : Array Bool} {i : Nat} (h : i < listed.size) : (listed.setIfInBounds i true).getD i false = true := by
  simp [h]
theorem run_step {n base : Nat} (ok : FlOk ops n) {a0 F : Act} {al : List Al} {sl : List Sto} (nom : Nom P ops S n a0 F al sl) (hbase : ∀ w, S w → base ≤ w.heap.size) (hal : ∀ w cs t, S w → S (w.alloc (.cells cs t))) (hsto : ∀ w g cs, S w → base ≤ g → S (w.setRow g cs))
    {Q : Exit → Act → World → Prop} {K : Act → World → Prop} {G : Nat → Nat} {listed : Array Bool} {a : Act} {w : World} {i : Nat} (inv : HeadInv .any ops n listed) (hi : i ∈ Region.ready .any ops listed) (hin : i < n)
    (r : Run ops S n base F al sl G listed a w) (hK : ∀ G' a' w', Run ops S n base F al sl G' (listed.setIfInBounds i true) a' w' → K a' w') : wpOp P ops Q i K a w := by
  obtain ⟨hun, o, ho, hall⟩ := mem_ready.1 hi
  have hunf := getD_both hun
  have hil : i < listed.size := by rw [inv.size]; exact (Array.getElem?_eq_some_iff.1 ho).1
  -- what every step keeps
  have hkeep : ∀ (x : Al), x ∈ al → x.i ≠ i → (listed.setIfInBounds i true).getD x.i false = true → listed.getD x.i false = true := fun x _ hx h => by rwa [getD_set_ne false (Ne.symm hx)] at h
  have hdif : ∀ x ∈ al, x.i ≠ i → o.dst ≠ some x.d := fun x hx hxi hd => by
    obtain ⟨hxn, p, hp, _, hpd, _⟩ := nom.only x hx
    rcases Nat.lt_trichotomy x.i i with h | h | h
    · exact ok.apart x.i p i o x.d hxn hp h hin ho hd hpd
    · exact hxi h
    · exact ok.apart i o x.i p x.d hin ho h hxn hp hpd hd
  have hnst : isSt o = false → ∀ s ∈ sl, i ≠ s.j := fun h s hs e => by
    obtain ⟨_, p, hp, hps, _⟩ := nom.stoOnly s hs
    rw [← e] at hp
    have : p = o := Option.some.inj (hp.symm.trans ho)
    rw [this, h] at hps
    cases hps
  have hclosed := inv.closed
  rcases Bool.eq_false_or_eq_true (isSt o) with hst | hst
  · -- one that stores in a variable that was made
    obtain ⟨s, hs, hsj, x, hx, hxi, hso⟩ := nom.sto i o hin ho hst
    obtain ⟨hd, hg, hlt, ty, y, hop, hev, hsz, hzs, hone⟩ := stores_agree r.size (fun t ht => r.slot t fun j p _ hj hp => by
      obtain ⟨_, h2, h3⟩ := ok.ytms i o hin ho t ht j p hj hp
      obtain ⟨oj, hoj, e, he, hb, hon⟩ := Region.waitsFor_spec h3
      have : oj = o := Option.some.inj (hoj.symm.trans ho)
      subst this
      exact ⟨hon ▸ hall e he hb, h2⟩) hso
    have hadr : adr o = some x.d := by simp [adr, hop]
    obtain ⟨hxn, q, hq, hqm⟩ := nom.only x hx
    have hxl : listed.getD x.i false = true := by
      obtain ⟨_, h8⟩ := ok.adrs i o hin ho x.d hadr x.i q hq hqm.2.1
      obtain ⟨oj, hoj, e, he, hb, hon⟩ := Region.waitsFor_spec h8
      have : oj = o := Option.some.inj (hoj.symm.trans ho)
      subst this
      rw [← hon]
      exact hall e he hb
    obtain ⟨m1, ⟨zs, m2, m3, m4⟩, m5⟩ := r.made x hx hxl
    have hzx : zs = x.zs := m3 fun s' hs' e => by
      have : s' = s := nom.stoOne s' hs' s hs (e.trans hxi)
      rw [this, hsj]
      exact hunf
    subst hzx
    have hax : a.eval (.tmp x.d) = .pointer (some ⟨G x.i, 0, none⟩) := by
      have := m1 (by rw [← r.size]; exact hlt)
      simp only [Act.eval, Array.getD_eq_getD_getElem?, this, Option.getD_some]
    have hali : ∀ z ∈ al, z.i ≠ i := fun z hz e => by
      obtain ⟨_, p, hp, hpm⟩ := nom.only z hz
      rw [e] at hp
      have : p = o := Option.some.inj (hp.symm.trans ho)
      rw [this] at hpm
      have h1 := isSt_al hst
      rw [hpm.1] at h1
      cases h1
    have hslot : ∀ z ∈ al, z.d = x.d → z.i = x.i := fun z hz e => by
      obtain ⟨hzn, p, hp, hpm⟩ := nom.only z hz
      rcases Nat.lt_trichotomy z.i x.i with h | h | h
      · exact absurd hpm.2.1 (ok.apart z.i p x.i q z.d hzn hp h hxn hq (by rw [e]; exact hqm.2.1))
      · exact h
      · exact absurd hqm.2.1 (ok.apart x.i q z.i p x.d hxn hq h hzn hp (by rw [← e]; exact hpm.2.1))
    unfold wpOp
    simp only [ho]
    rw [if_pos (by simp [Region.wanted, hg])]
    refine .inl (wp_store_row ty (.tmp x.d) y hop (G x.i) s.cs hax hev x.t x.zs m2 hsz hzs hone ?_)
    rw [hd]
    refine hK G a _ ⟨hsto _ _ _ r.hS m5, r.size, r.defers, fun t ht => r.slot t fun j p hjn hj hp => ?_, fun z hz hl => ?_, fun z hz z2 hz2 hl hl2 => r.apart z hz z2 hz2 (hkeep z hz (hali z hz) hl) (hkeep z2 hz2 (hali z2 hz2) hl2)⟩
    · obtain ⟨h2, h3⟩ := ht j p hjn hj hp
      have hji : i ≠ j := by
        rintro rfl
        have : p = o := Option.some.inj (hj.symm.trans ho)
        rw [this, hd] at hp
        cases hp
      rw [getD_set_ne false hji] at h2
      exact ⟨h2, h3⟩
    · obtain ⟨n1, ⟨zs, n2, n3, n4⟩, n5⟩ := r.made z hz (hkeep z hz (hali z hz) hl)
      refine ⟨n1, ?_, n5⟩
      by_cases hzi : z.i = x.i
      · refine ⟨s.cs, ?_, fun hh => ?_, fun s' hs' e _ => ?_⟩
        · rw [hzi] at n2 ⊢
          exact n2.setRow s.cs
        · have := hh s hs (hxi.symm.trans hzi.symm)
          rw [hsj, getD_set_self hil] at this
          cases this
        · rw [nom.stoOne s' hs' s hs (e.trans (hzi.trans hxi))]
      · have hsi : ∀ s' ∈ sl, s'.i = z.i → i ≠ s'.j := fun s' hs' e ej => by
          obtain ⟨_, p, hp, _, z', hz', hz'i, had⟩ := nom.stoOnly s' hs'
          rw [← ej] at hp
          have : p = o := Option.some.inj (hp.symm.trans ho)
          rw [this, hadr] at had
          injection had with had
          exact hzi ((e.symm.trans hz'i.symm).trans (hslot z' hz' had.symm))
        have hfar : G z.i ≠ G x.i := fun e => hzi (r.apart z hz x hx (hkeep z hz (hali z hz) hl) hxl e)
        exact ⟨zs, n2.setRow_far hfar s.cs, fun hh => n3 fun s' hs' e => by have := hh s' hs' e; rwa [getD_set_ne false (hsi s' hs' e)] at this, fun s' hs' e hl' => n4 s' hs' e (by rwa [getD_set_ne false (hsi s' hs' e)] at hl')⟩
  cases ha : isAl o
  · -- one that yields its value
    obtain ⟨v, hy, hv⟩ := nom.val i o hin ho ha hst
    have hsel : ∀ cs c, o.op ≠ .select cs c := fun cs c => Region.noSelect_spec ok.sel i o cs c ho
    have hy' : SteadyO P ops S o v a := steady_agree hsel (fun t ht => r.slot t fun j p _ hj hp => by
      obtain ⟨_, h2, h3⟩ := ok.looks i o hin ho ha hst t ht j p hj hp
      obtain ⟨oj, hoj, e, he, hb, hon⟩ := Region.waitsFor_spec h3
      have : oj = o := Option.some.inj (hoj.symm.trans ho)
      subst this
      exact ⟨hon ▸ hall e he hb, h2⟩) hy
    have hrun : ∀ w', S w' → Only none_ w w' → Run ops S n base F al sl G (listed.setIfInBounds i true) (a.put o.dst v) w' := fun w' hS' ow => by
      have hne : ∀ x ∈ al, x.i ≠ i := fun x hx e => by
        obtain ⟨_, p, hp, hpa, _⟩ := nom.only x hx
        rw [e] at hp
        have : p = o := Option.some.inj (hp.symm.trans ho)
        subst this
        rw [ha] at hpa
        cases hpa
      refine ⟨hS', (put_size _ _ _).trans r.size, (put_defers' _ _ _).trans r.defers, fun t ht => ?_, fun x hx hl => ?_, fun x hx y hy hlx hly => r.apart x hx y hy (hkeep x hx (hne x hx) hlx) (hkeep y hy (hne y hy) hly)⟩
      · by_cases hd : o.dst = some t
        · rw [hd, put_at, if_pos rfl]
          by_cases hlt : t < a.tmps.size
          · rw [if_pos hlt, hv t hd (by rw [← r.size]; exact hlt)]
          · rw [if_neg hlt, Array.getElem?_eq_none (by rw [← r.size]; exact Nat.le_of_not_lt hlt)]
        · have h1 : (a.put o.dst v).tmps[t]? = a.tmps[t]? := by
            cases hd2 : o.dst with
            | none => rfl
            | some d => rw [put_at, if_neg (fun e => hd (by rw [hd2, e]))]
          rw [h1]
          refine r.slot t fun j p hjn hj hp => ?_
          obtain ⟨h2, h3⟩ := ht j p hjn hj hp
          have hji : i ≠ j := by
            rintro rfl
            have : p = o := Option.some.inj (hj.symm.trans ho)
            subst this
            exact hd hp
          rw [getD_set_ne false hji] at h2
          exact ⟨h2, h3⟩
      · obtain ⟨h1, h2, h3⟩ := r.made x hx (hkeep x hx (hne x hx) hl)
        obtain ⟨zs, h2, h4, h5⟩ := h2
        refine ⟨fun hlt => ?_, ⟨zs, h2.only ow (fun h => h), fun hh => h4 fun s hs e => by have := hh s hs e; rwa [getD_set_ne false (hnst hst s hs)] at this, fun s hs e hl => h5 s hs e (by rwa [getD_set_ne false (hnst hst s hs)] at hl)⟩, h3⟩
        have := hdif x hx (hne x hx)
        rw [← h1 hlt]
        cases hd2 : o.dst with
        | none => rfl
        | some d => rw [put_at, if_neg (fun e => this (by rw [hd2, e]))]
    unfold wpOp
    simp only [ho]
    rcases hy' with ⟨hw, hv'⟩ | ⟨hw, rfl⟩
    · rw [if_pos hw]
      refine .inl ?_
      have hc := hv' w r.hS
      unfold Oper.wp
      generalize (execOp a.eval o).run P w = res at hc ⊢
      cases res with
      | halt x w' => exact hc.elim
      | ok nx w' =>
        cases nx <;> simp only [CameO] at hc <;> simp only [Oper.upon]
        case value u => obtain ⟨rfl, h2, h3⟩ := hc; exact hK _ _ _ (hrun _ h2 h3)
        case skip => obtain ⟨rfl, h2, h3⟩ := hc; exact hK _ _ _ (hrun _ h2 h3)
        case enter f args => exact hc.mono fun e w'' ⟨he, h2, h3⟩ => by subst he; exact hK _ _ _ (hrun _ h2 h3)
    · rw [if_neg (by simp [hw])]
      exact hK _ _ _ (hrun _ r.hS (Only.refl _ _))
  · -- one that makes a variable
    obtain ⟨x, hx, hxi, _, hd, hg, hm⟩ := nom.made i o hin ho ha
    unfold wpOp
    simp only [ho]
    rw [if_pos (by simp [Region.wanted, hg])]
    refine .inl ?_
    unfold Oper.wp
    rw [hm]
    simp only [Oper.upon]
    have hsame : ∀ y ∈ al, y.i = i → y.d = x.d ∧ w.alloc (.cells x.zs x.t) = w.alloc (.cells y.zs y.t) := fun y hy e => by
      obtain ⟨_, p, hp, _, hpd, _, hpm⟩ := nom.only y hy
      rw [e] at hp
      have : p = o := Option.some.inj (hp.symm.trans ho)
      subst this
      rw [hd] at hpd
      injection hpd with hpd
      have h1 := hm a.eval w
      rw [hpm a.eval w] at h1
      injection h1 with _ h1
      exact ⟨hpd.symm, h1.symm⟩
    refine hK (fun j => if j = i then w.heap.size else G j) _ _ ⟨hal _ _ _ r.hS, (put_size _ _ _).trans r.size, (put_defers' _ _ _).trans r.defers, fun t ht => ?_, fun y hy hl => ?_, fun y hy z hz hly hlz => ?_⟩
    · have hdt : o.dst ≠ some t := fun e => by
        have := (ht i o hin ho e).2
        rw [ha] at this
        cases this
      rw [hd, put_at, if_neg (fun e => hdt (by rw [hd, e]))]
      refine r.slot t fun j p hjn hj hp => ?_
      obtain ⟨h2, h3⟩ := ht j p hjn hj hp
      have hji : i ≠ j := by
        rintro rfl
        have : p = o := Option.some.inj (hj.symm.trans ho)
        subst this
        exact hdt hp
      rw [getD_set_ne false hji] at h2
      exact ⟨h2, h3⟩
    · by_cases hyi : y.i = i
      · obtain ⟨h1, h2⟩ := hsame y hy hyi
        refine ⟨fun hlt => ?_, ?_, ?_⟩
        · rw [hd, h1, put_at, if_pos rfl, if_pos (by rw [r.size, ← h1]; exact hlt), if_pos hyi]
        · refine ⟨y.zs, ?_, fun _ => rfl, fun s hs e hl => ?_⟩
          · show Blk _ (if y.i = i then _ else _) _ _
            rw [if_pos hyi, h2]
            exact Blk.new w _ _
          · -- a store into what is made just now has not come up
            rw [getD_set_ne false (hnst hst s hs)] at hl
            obtain ⟨hsn, p, hp, hps, z, hz, hzi, had⟩ := nom.stoOnly s hs
            obtain ⟨_, q, hq, _, hqd, _⟩ := nom.only z hz
            obtain ⟨_, h8⟩ := ok.adrs s.j p hsn hp z.d had z.i q hq hqd
            obtain ⟨p', hp', e', he', hb', hon'⟩ := Region.waitsFor_spec h8
            have : p' = p := Option.some.inj (hp'.symm.trans hp)
            subst this
            have h9 := hclosed s.j p' hp hl e' he' hb'
            rw [hon', hzi, e, hyi, hunf] at h9
            cases h9
        · show base ≤ (if y.i = i then _ else _)
          rw [if_pos hyi]
          exact hbase w r.hS
      · obtain ⟨h1, ⟨zs, h2, h5, h6⟩, h3⟩ := r.made y hy (hkeep y hy hyi hl)
        refine ⟨fun hlt => ?_, ⟨zs, ?_, fun hh => h5 fun s hs e => by have := hh s hs e; rwa [getD_set_ne false (hnst hst s hs)] at this, fun s hs e hl => h6 s hs e (by rwa [getD_set_ne false (hnst hst s hs)] at hl)⟩, ?_⟩
        · have h4 := hdif y hy hyi
          rw [hd, put_at, if_neg (fun e => h4 (by rw [hd, e])), if_neg hyi]
          exact h1 hlt
        · show Blk _ (if y.i = i then _ else _) _ _
          rw [if_neg hyi]
          exact h2.alloc _
        · show base ≤ (if y.i = i then _ else _)
          rw [if_neg hyi]
          exact h3
    · intro e
      by_cases hyi : y.i = i
      · by_cases hzi : z.i = i
        · rw [hyi, hzi]
        · simp only [if_pos hyi, if_neg hzi] at e
          obtain ⟨zs, h2, _⟩ := (r.made z hz (hkeep z hz hzi hlz)).2.1
          have := h2.lt
          omega
      · by_cases hzi : z.i = i
        · simp only [if_neg hyi, if_pos hzi] at e
          obtain ⟨zs, h2, _⟩ := (r.made y hy (hkeep y hy hyi hly)).2.1
          have := h2.lt
          omega
        · simp only [if_neg hyi, if_neg hzi] at e
          exact r.apart y hy z hz (hkeep y hy hyi hly) (hkeep z hz hzi hlz) e
def putAl (G : Nat → Nat) : List Al → Act → Act
  | [], a => a
  | x :: l, a => putAl G l (a.put (some x.d) (.pointer (some ⟨G x.i, 0, none⟩)))
theorem putAl_size (G : Nat → Nat) : ∀ (l : List Al) (a : Act), (putAl G l a).tmps.size = a.tmps.size ∧ (putAl G l a).defers = a.defers
  | [], _ => ⟨rfl, rfl⟩
  | x :: l, a => by
    obtain ⟨h1, h2⟩ := putAl_size G l (a.put (some x.d) (.pointer (some ⟨G x.i, 0, none⟩)))
    exact ⟨h1.trans (put_size _ _ _), h2.trans (put_defers' _ _ _)⟩
theorem putAl_far (G : Nat → Nat) {t : Nat} : ∀ (l : List Al) (a : Act), (∀ x ∈ l, x.d ≠ t) → (putAl G l a).tmps[t]? = a.tmps[t]?
  | [], _, _ => rfl
  | x :: l, a, h => by
    rw [putAl, putAl_far G l _ (fun y hy => h y (List.mem_cons_of_mem _ hy)), put_at, if_neg (h x (by simp))]
theorem putAl_at (G : Nat → Nat) {t : Nat} {u : Value} : ∀ (l : List Al) (a : Act), t < a.tmps.size → (∃ x ∈ l, x.d = t) → (∀ x ∈ l, x.d = t → Value.pointer (some ⟨G x.i, 0, none⟩) = u) → (putAl G l a).tmps[t]? = some u
  | [], _, _, h, _ => by obtain ⟨x, hx, _⟩ := h; cases hx
  | x :: l, a, hlt, h, hu => by
    rw [putAl]
    by_cases hl : ∃ y ∈ l, y.d = t
    · exact putAl_at G l _ (by rwa [put_size]) hl (fun y hy => hu y (List.mem_cons_of_mem _ hy))
    · rw [putAl_far G l _ (fun y hy e => hl ⟨y, hy, e⟩)]
      obtain ⟨y, hy, hyt⟩ := h
      rcases List.mem_cons.1 hy with rfl | hy
      · rw [put_at, if_pos hyt, if_pos hlt, hu y (by simp) hyt]
      · exact absurd ⟨y, hy, hyt⟩ hl
theorem act_ext {a b : Act} (h1 : a.defers = b.defers) (h2 : ∀ t : Nat, a.tmps[t]? = b.tmps[t]?) : a = b := by
  obtain ⟨t, d⟩ := a
  obtain ⟨t', d'⟩ := b
  simp only at h1 h2
  subst h1
  rw [Array.ext_getElem? h2]
theorem run_end {n base : Nat} {a0 F : Act} {al : List Al} {sl : List Sto} (nom : Nom P ops S n a0 F al sl) {G : Nat → Nat} {listed : Array Bool} {a : Act} {w : World}
    (r : Run ops S n base F al sl G listed a w) (hall : ∀ i, i < n → listed.getD i false = true) : a = putAl G al F := by
  refine act_ext (r.defers.trans (putAl_size G al F).2.symm) fun t => ?_
  by_cases hx : ∃ x ∈ al, x.d = t
  · obtain ⟨x, hx, hxt⟩ := hx
    by_cases hlt : t < F.tmps.size
    · have h1 := (r.made x hx (hall _ (nom.only x hx).1)).1 (by rw [hxt]; exact hlt)
      rw [hxt] at h1
      rw [h1]
      refine (putAl_at G al F hlt ⟨x, hx, hxt⟩ fun y hy hyt => ?_).symm
      have h2 := (r.made y hy (hall _ (nom.only y hy).1)).1 (by rw [hyt]; exact hlt)
      rw [hyt, h1] at h2
      injection h2 with h2
      exact h2.symm
    · rw [Array.getElem?_eq_none (by rw [r.size]; omega), Array.getElem?_eq_none (by rw [(putAl_size G al F).1]; omega)]
  · have hx' : ∀ x ∈ al, x.d ≠ t := fun x h e => hx ⟨x, h, e⟩
    rw [putAl_far G al F hx']
    refine r.slot t fun j p h hj hp => ⟨hall j h, ?_⟩
    cases ha : isAl p
    · rfl
    · obtain ⟨x, hx, _, _, hd, _⟩ := nom.made j p h hj ha
      rw [hp] at hd
      injection hd with hd
      exact absurd hd.symm (hx' x hx)
theorem run_all {n base g : Nat} (ok : FlOk ops n) {a0 F : Act} {al : List Al} {sl : List Sto} (nom : Nom P ops S n a0 F al sl) (hbase : ∀ w, S w → base ≤ w.heap.size) (hal : ∀ w cs t, S w → S (w.alloc (.cells cs t))) (hsto : ∀ w g cs, S w → base ≤ g → S (w.setRow g cs))
    {Q : Exit → Act → World → Prop} (hend : ∀ G listed a w, HeadInv .any ops n listed → (∀ i, i < n → listed.getD i false = true) → Run ops S n base F al sl G listed a w → wpAny P .any ops Q g listed a w) :
    ∀ (f : Nat) (G : Nat → Nat) (listed : Array Bool) (a : Act) (w : World), HeadInv .any ops n listed → ((List.range n).filter fun i => !listed.getD i false).length = f → Run ops S n base F al sl G listed a w → wpAny P .any ops Q (f + g) listed a w
  | 0, G, listed, a, w, inv, hf, r => by
    rw [Nat.zero_add]
    refine hend G listed a w inv (fun i hi => ?_) r
    cases h : listed.getD i false
    · have := List.eq_nil_of_length_eq_zero hf
      have : i ∈ (List.range n).filter fun i => !listed.getD i false := List.mem_filter.2 ⟨List.mem_range.2 hi, by simp [h]⟩
      simp_all
    · rfl
  | f + 1, G, listed, a, w, inv, hf, r => by
    rw [show f + 1 + g = (f + g) + 1 by omega]
    -- the first in the text that has not come up may come up
    have hne : ∃ i, i < n ∧ listed.getD i false = false := by
      cases hc : (List.range n).filter fun i => !listed.getD i false with
      | nil => rw [hc] at hf; simp at hf
      | cons i r =>
        have : i ∈ (List.range n).filter fun i => !listed.getD i false := by rw [hc]; simp
        obtain ⟨h1, h2⟩ := List.mem_filter.1 this
        exact ⟨i, List.mem_range.1 h1, by simpa using h2⟩
    have hmin : ∃ i, (i < n ∧ listed.getD i false = false) ∧ ∀ j, j < i → listed.getD j false = true := by
      obtain ⟨i, hi⟩ := hne
      induction i using Nat.strongRecOn with
      | _ i ih =>
        by_cases h : ∃ j, j < i ∧ listed.getD j false = false
        · obtain ⟨j, hj, hjl⟩ := h
          exact ih j hj ⟨by omega, hjl⟩
        · refine ⟨i, hi, fun j hj => ?_⟩
          cases hl : listed.getD j false
          · exact absurd ⟨j, hj, hl⟩ h
          · rfl
    obtain ⟨i, ⟨hin, hil⟩, hlow⟩ := hmin
    have hio : i < ops.size := Nat.lt_of_lt_of_le hin ok.le
    have hready : i ∈ Region.ready .any ops listed := mem_ready.2 ⟨getD_in (by rw [inv.size]; exact hio) hil, ops[i], Array.getElem?_eq_getElem hio, fun e he hb => hlow _ (ok.after i _ hin (Array.getElem?_eq_getElem hio) e he hb)⟩
    refine ⟨fun h0 => (by rw [h0] at hready; cases hready), fun j hj => ?_⟩
    have hjn : j < n := by
      rcases Nat.lt_or_ge j n with h | h
      · exact h
      · exact absurd hj (ok.wait i hin listed inv (mem_ready.1 hready).1 j h)
    refine run_step ok nom hbase hal hsto inv hj hjn r fun G' a' w' r' => run_all ok nom hbase hal hsto hend f G' _ a' w' (inv.set hj hjn) ?_ r'
    have hjs : j < listed.size := by rw [inv.size]; exact Nat.lt_of_lt_of_le hjn ok.le
    have hjf := getD_both (mem_ready.1 hj).1
    have key : ∀ m, j < m → ((List.range m).filter fun i => !(listed.setIfInBounds j true).getD i false).length + 1 = ((List.range m).filter fun i => !listed.getD i false).length := by
      intro m
      induction m with
      | zero => intro h; omega
      | succ m ih =>
        intro hjm
        rw [List.range_succ, List.filter_append, List.filter_append, List.length_append, List.length_append]
        by_cases hm : j = m
        · subst hm
          have e : ∀ l : List Nat, (∀ x ∈ l, x ≠ j) → (l.filter fun i => !(listed.setIfInBounds j true).getD i false) = l.filter fun i => !listed.getD i false := fun l hl =>
            List.filter_congr fun x hx => by rw [getD_set_ne false (Ne.symm (hl x hx))]
          rw [e _ (fun x hx => by have := List.mem_range.1 hx; omega)]
          have e1 : ([j].filter fun i => !(listed.setIfInBounds j true).getD i false) = [] := List.filter_eq_nil_iff.2 fun x hx => by
            have : x = j := by simpa using hx
            subst this
            rw [getD_set_self hjs]
            simp
          have e2 : ([j].filter fun i => !listed.getD i false) = [j] := List.filter_eq_self.2 fun x hx => by
            have : x = j := by simpa using hx
            subst this
            rw [hjf]
            rfl
          rw [e1, e2]
          rfl
        · have h2 := ih (by omega)
          have e : ([m].filter fun i => !(listed.setIfInBounds j true).getD i false) = [m].filter fun i => !listed.getD i false :=
            List.filter_congr fun x hx => by rw [getD_set_ne false (by simp at hx; omega)]
          rw [e]
          omega
    have := key n hjn
    omega
theorem wp_region_float (S : World → Prop) (base : Nat) {id : Nat} {Q : Exit → Act → World → Prop} {a : Act} {w : World} {l : List Oper} (n : Nat) (hm : P.follows .mixedOrders = true) (hB : flTail l.toArray n = true) (hS : S w.drew)
    (hbase : ∀ w, S w → base ≤ w.heap.size) (hal : ∀ w cs t, S w → S (w.alloc (.cells cs t))) (hsto : ∀ w g cs, S w → base ≤ g → S (w.setRow g cs))
    (h : flList P l.toArray S (fun F al sl => ∀ (G : Nat → Nat) w', S w' → (∀ x ∈ al, (∃ zs, Blk w' (G x.i) x.t zs ∧ ((∀ s ∈ sl, s.i ≠ x.i) → zs = x.zs) ∧ ∀ s ∈ sl, s.i = x.i → zs = s.cs) ∧ base ≤ G x.i) → (∀ x ∈ al, ∀ y ∈ al, G x.i = G y.i → x.i = y.i) → wpList P l.toArray Q (l.drop n) (putAl G al F) w') (l.take n) 0 a [] []) :
    (Code.region id l.toArray true).wp P Q a w := by
  have ok := flOk_of hB
  have hle : n ≤ l.length := by have := ok.le; simpa using this
  have htl : (l.take n).length = n := by simp; omega
  have hdl : (l.drop n).length = l.toArray.size - n := by simp
  obtain ⟨F, al, sl, hK, nom⟩ := nom_of (a0 := a) ok (l.take n) 0 a [] [] (fun j hj => by
    have hj' : j < n := by rw [htl] at hj; exact hj
    simp [hj']) (by simpa using htl) ⟨rfl, rfl, fun _ _ => rfl, fun i o hi => by omega, fun i o hi => by omega, fun x hx => (by cases hx), fun i o hi => by omega, fun x hx => (by cases hx), fun x hx => (by cases hx)⟩ h
  refine wp_region_any hm ?_
  have inv0 : HeadInv .any l.toArray n (Array.replicate l.toArray.size false) :=
    ⟨by simp, fun j oj _ hl => (by rw [getD_replicate_false] at hl; cases hl), fun t _ ht => getD_in (by simpa using ht) (getD_replicate_false _ _)⟩
  have hcount : ((List.range n).filter fun i => !(Array.replicate l.toArray.size false).getD i false).length = n := by
    rw [List.filter_eq_self.2 (fun i _ => by rw [getD_replicate_false]; rfl), List.length_range]
  have r0 : Run l.toArray S n base F al sl (fun _ => 0) (Array.replicate l.toArray.size false) a { w with drawn := w.drawn + 1 } := by
    refine ⟨hS, nom.size.symm, nom.defers.symm, fun t ht => ?_, fun x _ hl => (by rw [getD_replicate_false] at hl; cases hl), fun x _ y _ hl => (by rw [getD_replicate_false] at hl; cases hl)⟩
    refine (nom.old t fun i o hi ho _ hd => ?_).symm
    have := (ht i o hi ho hd).1
    rw [getD_replicate_false] at this
    cases this
  have := run_all ok nom hbase hal hsto (Q := Q) (g := l.toArray.size - n) (fun G listed a' w' inv hall r => by
    have hlist : listed = ((List.range l.toArray.size).map fun j => decide (j < n)).toArray := by
      apply Array.ext_getElem?
      intro j
      rcases Nat.lt_or_ge j l.toArray.size with hj | hj
      · have hjs : j < listed.size := by rw [inv.size]; exact hj
        rw [Array.getElem?_eq_getElem hjs]
        by_cases hjn : j < n
        · have := hall j hjn
          simp only [Array.getD_eq_getD_getElem?, Array.getElem?_eq_getElem hjs, Option.getD_some] at this
          rw [this, List.getElem?_toArray, List.getElem?_map, List.getElem?_range hj]
          simp [hjn]
        · have := inv.tail j (by omega) hj
          simp only [Array.getD_eq_getD_getElem?, Array.getElem?_eq_getElem hjs, Option.getD_some] at this
          rw [this, List.getElem?_toArray, List.getElem?_map, List.getElem?_range hj]
          simp [hjn]
      · rw [Array.getElem?_eq_none (by rw [inv.size]; exact hj), Array.getElem?_eq_none (by simpa using hj)]
    have h1 := hK G w' r.hS (fun x hx => by
      obtain ⟨_, ⟨zs, h1, h2, h3⟩, h4⟩ := r.made x hx (hall _ (nom.only x hx).1)
      exact ⟨⟨zs, h1, fun hh => h2 fun s hs e => absurd e (hh s hs), fun s hs e => h3 s hs e (hall _ (nom.stoOnly s hs).1)⟩, h4⟩) (fun x hx y hy => r.apart x hx y hy (hall _ (nom.only x hx).1) (hall _ (nom.only y hy).1))
    rw [← run_end nom r hall] at h1
    have := wpAny_of_seq (md := .any) (Q' := Q) (l.drop n) n listed a' w' (fun j => by simp [List.getElem?_drop]) (by rw [hdl, hlist]; exact ok.seq) h1
    rwa [hdl] at this) n (fun _ => 0) _ _ _ inv0 hcount r0
  rw [show n + (l.toArray.size - n) = l.toArray.size by have := ok.le; omega] at this
  exact this
/-! The steps of a walk. -/
theorem fl_nil {K : Act → List Al → List Sto → Prop} {k : Nat} {a : Act} {al : List Al} {sl : List Sto} (h : K a al sl) : flList P ops S K [] k a al sl := h
theorem fl_value {K : Act → List Al → List Sto → Prop} {k : Nat} {a : Act} {al : List Al} {sl : List Sto} {o : Oper} {r : List Oper} {v : Value} (ha : isAl o = false) (hst : isSt o = false) (hw : Region.wanted o (yielded ops a.tmps) = true) (hv : ∀ w, S w → (execOp a.eval o).run P w = .ok (.value v) w)
    (h : flList P ops S K r (k + 1) (a.put o.dst v) al sl) : flList P ops S K (o :: r) k a al sl :=
  .inl ⟨ha, hst, v, .inl ⟨hw, fun w hS => by rw [hv w hS]; exact ⟨rfl, hS, Only.refl _ _⟩⟩, h⟩
theorem fl_skip {K : Act → List Al → List Sto → Prop} {k : Nat} {a : Act} {al : List Al} {sl : List Sto} {o : Oper} {r : List Oper} (ha : isAl o = false) (hst : isSt o = false) (hw : Region.wanted o (yielded ops a.tmps) = false) (h : flList P ops S K r (k + 1) (a.put o.dst undef) al sl) : flList P ops S K (o :: r) k a al sl :=
  .inl ⟨ha, hst, undef, .inr ⟨hw, rfl⟩, h⟩
theorem fl_call {K : Act → List Al → List Sto → Prop} {k : Nat} {a : Act} {al : List Al} {sl : List Sto} {o : Oper} {r : List Oper} {v : Value} {f : FuncId} {args : Array Value} (ha : isAl o = false) (hst : isSt o = false) (hw : Region.wanted o (yielded ops a.tmps) = true) (hv : ∀ w, S w → (execOp a.eval o).run P w = .ok (.enter f args) w)
    (hc : ∀ w, S w → Calls P f args w fun e w' => e = .returned v ∧ S w' ∧ Only none_ w w') (h : flList P ops S K r (k + 1) (a.put o.dst v) al sl) : flList P ops S K (o :: r) k a al sl :=
  .inl ⟨ha, hst, v, .inl ⟨hw, fun w hS => by rw [hv w hS]; exact hc w hS⟩, h⟩
theorem fl_make {K : Act → List Al → List Sto → Prop} {k : Nat} {a : Act} {al : List Al} {sl : List Sto} {o : Oper} {r : List Oper} (d : Tmp) (t : TypeId) (zs : Array Value) (ha : isAl o = true) (hd : o.dst = some d) (hg : o.guard = none)
    (hv : ∀ ρ w, (execOp ρ o).run P w = .ok (.value (.pointer (some ⟨w.heap.size, 0, none⟩))) (w.alloc (.cells zs t))) (h : flList P ops S K r (k + 1) a (al ++ [⟨k, d, t, zs⟩]) sl) : flList P ops S K (o :: r) k a al sl :=
  .inr (.inl ⟨⟨k, d, t, zs⟩, rfl, ⟨ha, hd, hg, hv⟩, h⟩)
theorem fl_store {K : Act → List Al → List Sto → Prop} {k : Nat} {a : Act} {al : List Al} {sl : List Sto} {o : Oper} {r : List Oper} (x : Al) (cs : Array Value) (ty : TypeId) (y : Operand) (hx : x ∈ al) (hone : ∀ s' ∈ sl, s'.i ≠ x.i) (ho : o.op = .store ty (.tmp x.d) y) (hd : o.dst = none) (hg : o.guard = none)
    (hlt : x.d < a.tmps.size) (hv : a.eval y = .agg cs) (hs : (P.info? ty).map (·.size) = some cs.size) (hz : x.zs.size = cs.size) (h1 : cs.all (·.oneCell') = true) (h : flList P ops S K r (k + 1) a al (sl ++ [⟨k, x.i, cs⟩])) : flList P ops S K (o :: r) k a al sl :=
  .inr (.inr ⟨by simp [isSt, ho], ⟨k, x.i, cs⟩, rfl, hone, x, hx, rfl, ⟨hd, hg, hlt, ty, y, ho, hv, hs, hz, h1⟩, h⟩)
end
end Go.Proofs.YtoohpcomnhfgpaaGreat
end
section
namespace Go.Proofs.YtoohpcomnhfgpaaGreat
open Go.RowKit Go.Shelf
set_option maxRecDepth 100000
set_option linter.all false
attribute [local go_sem] Oper.semAt_some
set_option maxHeartbeats 25600000 in
theorem ct_entries (B : World) (a : Ra) (s : Rs) (w : World) (h : Rp B a s w) :
    Calls Tryz.prog 40 #[.pointer (some ⟨a.r, 6, none⟩)] w fun E w' => ∃ v', E = .returned v' ∧ w'.ownsRow w.heap.size 82 9 v' s.tab.length (s.tab.flatMap enRow) ∧ Only none_ w w' := by
  obtain ⟨i0, hi0, hz0, hz1, hz2⟩ := info_parts api_info
  obtain ⟨wa, hwa⟩ : ∃ wa, w.alloc (.cells #[.slice none 0 0] 96) = wa := ⟨_, rfl⟩
  have oa : Only none_ w wa := by rw [← hwa]; exact (Only.refl none_ w).alloc _
  have hsa : wa.heap.size = w.heap.size + 1 := by rw [← hwa, World.size_alloc]
  have bB : Blk wa w.heap.size 96 #[.slice none 0 0] := by rw [← hwa]; exact Blk.new w _ _
  have hA := h.keep oa
  have HAL := Lib.hid (Se.tb_all B a.tb (roRoom s.o) (prs s.tab) a.vt wa hA.tb)
  have c6 : wa.cell? ⟨a.r, 6, none⟩ = some (.pointer (some ⟨a.tb, 0, none⟩)) := hA.bk.cell_ (i := 6) rfl
  have hml : s.tab.length ≤ 4096 := by have := h.tb.ml; rwa [prs_length] at this
  obtain ⟨l, hl⟩ : ∃ l, s.tab = l := ⟨_, rfl⟩
  rw [hl] at HAL hml ⊢
  have HPR := Lib.hid (prs_rows l)
  have HPL := Lib.hid (prs_length l)
  have HBB := Lib.hid bB
  have HOA := Lib.hid oa
  have HSA := Lib.hid hsa
  have HML : Hid (l.length ≤ 4096) := hml
  clear h hA bB oa hsa hl hml
  refine (callsIn_wide (n := 5)).1 ?_
  refine callsIn_of_wp_marks Tryz.func40 rfl trivial ?_ rfl
  simp only [Tryz.ntmps40, List.append_toArray, List.size_toArray, List.length_cons, List.length_nil, Nat.reduceAdd, Nat.reduceSub, Array.replicate_succ, Array.replicate_zero, List.push_toArray, List.append_toArray, List.nil_append, List.cons_append]
  gi_wp2_with (first
    | (refine ⟨trivial, ?_⟩; (try rw [hwa]); refine (callsIn_wide.2 HAL.out).mono ?_; rintro e w2 ⟨hP, A, n, c, rfl, hhP, hn, bP, cel, o2⟩
       have F2 := Lib.hid (And.intro hhP (And.intro hn (And.intro bP (And.intro cel o2))))
       clear hhP hn bP cel o2))
  have hP1 := F2.out.2.2.1.lt
  have NUM : Hid (w.heap.size + 2 ≤ w2.heap.size ∧ l.length ≤ 4096) := ⟨by have h1 := F2.out.1; have h2 := HSA.out; omega, HML.out⟩
  have o2 : Only none_ w w2 := HOA.out.trans F2.out.2.2.2.2
  have bB2 : Blk w2 w.heap.size 96 #[.slice none 0 0] := HBB.out.only F2.out.2.2.2.2 (fun h => h)
  have hT : Stab (Tv w.heap.size 0) (w.heap.size + 1) := tv_stab (by omega)
  have htv : ∀ b, Tv w.heap.size 0 w2 b → b = w.heap.size := fun b hb => by
    rcases (tv_at (bB2.cell_ (i := 0) rfl)).1 hb with h1 | h1
    · exact h1
    · cases h1
  have GO := Lib.hid (Se.all1_goes (Tv w.heap.size 0) (w.heap.size + 1) hT hP A c n (prs l) F2.out.2.1 (by have h1 := F2.out.2.1; have h2 := HPL.out; have h3 := HML.out; omega) w2 (by have := NUM.out; omega) F2.out.2.2.1 (F2.out.2.2.2.1.mono (fun b _ hb ht => by have h1 := htv b ht; have h2 := HSA.out; omega)))
  have HT := Lib.hid hT
  have I0 : Hid (Av w w2.heap.size w.heap.size [] w2) := ⟨⟨_, bB2, World.ownsRow_nil _ _ _ _⟩, o2, Nat.le_refl _⟩
  clear hP1 o2 bB2 hT htv F2 HBB HOA HAL c6
  refine range_goes (n := 4) (gf := 134) (lb := #[.pointer (some ⟨hP, 0, none⟩)]) rfl (enters_of Tryz.func134 (by kernel_rfl) rfl)
    GO.out (Below.refl _ _) (fun _ => rfl) (fun h k => h.trans k) (fun X r r' hr => Kc.putObj HT.out _ (by have := NUM.out; omega) hr rfl)
    (Av w w2.heap.size w.heap.size) (Av.own w w2.heap.size w.heap.size (by have := NUM.out; omega)) I0.out ?hround ?hdone
  case hround =>
    intro pre x X hlx hi hlen
    have HI := Lib.hid hi
    have HLN : Hid (pre.length + 1 ≤ 4096) := by have h1 := NUM.out; have h2 := HPL.out; have h3 := hlen.length_le; simp only [List.length_append, List.length_cons, List.length_nil] at h3; rw [Hid]; omega
    clear hi hlen
    obtain ⟨kk, vk, vv, vd, ⟨sc, ss⟩, ⟨ac, as_⟩, vp, vg⟩ := x
    gi_wp2
    have hwX : w.heap.size + 2 ≤ X.heap.size := by have := NUM.out; have := HI.out.sz; omega
    refine ⟨(KeepsOthers.alloc _ _).from _, own_new (Av.own w w2.heap.size w.heap.size (by have := NUM.out; omega)) ((Only.refl none_ X).alloc _) HI.out, fun r ⟨r0, hr0⟩ hi2 => ?_⟩
    have k1 : Kc (Tv w.heap.size 0) X ((X.alloc (.cells #[.string vk, .string vv, .bool vd, .int .i64 sc, .int .i64 ss, .int .i64 ac, .int .i64 as_, .int .i64 vp, .int .i64 vg] 82)).putObj (w2.heap.size + 1) (.loop r)) := (Kc.alloc HT.out (by omega) _).trans (Kc.putObj HT.out _ (by have := NUM.out; omega) hr0 rfl)
    have ko1 : Ko (w2.heap.size + 1) X ((X.alloc (.cells #[.string vk, .string vv, .bool vd, .int .i64 sc, .int .i64 ss, .int .i64 ac, .int .i64 as_, .int .i64 vp, .int .i64 vg] 82)).putObj (w2.heap.size + 1) (.loop r)) := fun k o hk ho _ => (World.putObj_heap_other hk).trans ((Below.heap_alloc X _ k (lt_of_obj ho)).trans ho)
    have BE : Hid (Blk ((X.alloc (.cells #[.string vk, .string vv, .bool vd, .int .i64 sc, .int .i64 ss, .int .i64 ac, .int .i64 as_, .int .i64 vp, .int .i64 vg] 82)).putObj (w2.heap.size + 1) (.loop r)) X.heap.size 82 #[.string vk, .string vv, .bool vd, .int .i64 sc, .int .i64 ss, .int .i64 ac, .int .i64 as_, .int .i64 vp, .int .i64 vg]) :=
      (Blk.new X _ _).grown' (grownBy_putObj' _ _ _) (fun e => by injection e with e; omega)
    generalize (X.alloc (.cells #[.string vk, .string vv, .bool vd, .int .i64 sc, .int .i64 ss, .int .i64 ac, .int .i64 as_, .int .i64 vp, .int .i64 vg] 82)).putObj (w2.heap.size + 1) (.loop r) = Y at hi2 BE k1 ko1
    have K1 := Lib.hid k1
    have KO1 := Lib.hid ko1
    clear k1 ko1 hr0
    obtain ⟨v2, b2, ow2⟩ := hi2.ex
    obtain ⟨A2, n2, c2, rfl⟩ := own_shape ow2
    obtain ⟨k, hk⟩ : ∃ k, pre.length = k := ⟨_, rfl⟩
    have HK := Lib.hid hk
    rw [hk] at ow2
    obtain rfl : n2 = k := own_count ow2
    clear hk
    have cB := b2.cell_ (i := 0) rfl
    have z0 := BE.out.cell_ (i := 0) rfl
    have z1 := BE.out.cell_ (i := 1) rfl
    have z2 := BE.out.cell_ (i := 2) rfl
    have z3 := BE.out.cell_ (i := 3) rfl
    have z4 := BE.out.cell_ (i := 4) rfl
    have z5 := BE.out.cell_ (i := 5) rfl
    have z6 := BE.out.cell_ (i := 6) rfl
    have z7 := BE.out.cell_ (i := 7) rfl
    have z8 := BE.out.cell_ (i := 8) rfl
    have O3 := Lib.hid ((Only.refl none_ Y).alloc (.cells #[.string vk, .string vv, .bool vd, .int .i64 sc, .int .i64 ss, .int .i64 ac, .int .i64 as_, .int .i64 vp, .int .i64 vg] 82))
    have OW3 := Lib.hid (owns_only ow2 O3.out (fun _ _ h => h))
    have B3 := Lib.hid (b2.only O3.out (fun h => h))
    have CM := Lib.hid (cel_made Y 82 9 1 #[.string vk, .string vv, .bool vd, .int .i64 sc, .int .i64 ss, .int .i64 ac, .int .i64 as_, .int .i64 vp, .int .i64 vg] rfl (by simp [maxLen]))
    have ONE : Hid (∀ u ∈ (#[.string vk, .string vv, .bool vd, .int .i64 sc, .int .i64 ss, .int .i64 ac, .int .i64 as_, .int .i64 vp, .int .i64 vg] : Array Value).toList, u.oneCell' = true) := row_one ⟨vk, vv, vd, ⟨sc, ss⟩, ⟨ac, as_⟩, vp, vg⟩
    have MX : Hid (n2 + 1 ≤ maxLen ∧ (n2 + 1) * 88 ≤ 140737488355328) := by have := HLN.out; have := HK.out; simp only [Hid, maxLen]; omega
    have SZ : Hid (w2.heap.size ≤ (Y.alloc (.cells #[.string vk, .string vv, .bool vd, .int .i64 sc, .int .i64 ss, .int .i64 ac, .int .i64 as_, .int .i64 vp, .int .i64 vg] 82)).heap.size) := by have := hi2.sz; rw [Hid, World.size_alloc]; omega
    have AV := Lib.hid hi2
    have B2 := Lib.hid b2
    have OW2 := Lib.hid ow2
    clear ow2 b2 hi2 HI hlx hwX
    gi_wp2_with (first
      | (gi_at_builtin; refine wplIn_append_cel rfl (.tmp 13) (.tmp 15) 96 rfl w2.heap.size 82 i0 _ 9 88 Tryz.underlying96 hi0 hz0 hz1 hz2 rfl (by omega) (.slice A2 n2 c2) n2 _ rfl OW3.out _ _ 1 _ rfl CM.out ONE.out MX.out.1 MX.out.2 SZ.out ?_
         intro A5 n5 c5 w5 hown5 hgrow5 hmv5
         have O5 : Hid (Only (fun k => (Value.slice A2 n2 c2).ownBlock = some k) Y w5) := (O3.out.of_none).trans' ((Only.refl (fun k => (Value.slice A2 n2 c2).ownBlock = some k) _).grown hgrow5 (fun k e => .inl e)) (fun k _ h => h)
         have B5 : Hid (Blk w5 w.heap.size 96 #[.slice A2 n2 c2]) := B3.out.grown' hgrow5 (own_blk_ne OW3.out B3.out (by decide))
         have q5 := B5.out.cell_ (i := 0) rfl
         have f5 := B5.out.frozen 0
         have H5 := Lib.hid (And.intro hown5 hmv5)
         clear hown5 hgrow5 hmv5))
    have o6 : Only (one w.heap.size) w5 (w5.setCell ⟨w.heap.size, 0, none⟩ (.slice A5 n5 c5)) := (Only.refl (one w.heap.size) w5).setCell (.inl (show one w.heap.size w.heap.size from rfl)) _
    have O6 : Only (fun k => k = w.heap.size ∨ (Value.slice A2 n2 c2).ownBlock = some k) Y (w5.setCell ⟨w.heap.size, 0, none⟩ (.slice A5 n5 c5)) :=
      (O5.out.mono (fun k _ h => .inr h)).trans' o6 (fun k _ e => .inl e)
    have B6 := B5.out.set_ 0 (.slice A5 n5 c5)
    have hne : (Value.slice A5 n5 c5).ownBlock ≠ some w.heap.size := own_blk_ne H5.out.1 B5.out (by decide)
    have KE := only_keeps O6 (fun k x hS hx => by
      rcases hS with rfl | hS
      · exact blk_is B2.out hx
      · exact own_is OW2.out hS hx)
    have hX : X.heap.size = X.heap.size := rfl
    refine ⟨KE.from _, K1.out.trans (Kc.of_only O6 (fun b _ hS => (tv_at (B2.out.cell_ (i := 0) rfl)).2 hS) (fun b hb => ?_)), ⟨⟨_, B6, ?_⟩, ?_, Nat.le_trans AV.out.sz O6.size⟩⟩
    · rcases (tv_at (B6.cell_ (i := 0) rfl)).1 hb with h1 | h1
      · exact .inl (.inl h1)
      · rcases H5.out.2 b h1 with h2 | h2
        · exact .inl ((tv_at (B2.out.cell_ (i := 0) rfl)).2 (.inr h2))
        · exact .inr (by rw [World.size_alloc] at h2; omega)
    · have hr := owns_only H5.out.1 o6 (fun b hb e => hne (by rw [hb, show b = w.heap.size from e]))
      rw [List.length_append, List.flatMap_append, HK.out]
      exact hr
    · exact AV.out.ho.trans' O6 (fun b hb hS => by
        rcases hS with rfl | hS
        · omega
        · have h1 := (OW2.out.lt b hS).1; have h2 := NUM.out; omega)
  case hdone =>
    intro D X hD hi hdef
    obtain ⟨v2, b2, ow2⟩ := hi.ex
    obtain ⟨A2, n2, c2, rfl⟩ := own_shape ow2
    have cB := b2.cell_ (i := 0) rfl
    have OW := Lib.hid ow2
    have HO := Lib.hid hi.ho
    have HDF := Lib.hid hdef
    clear ow2 hi b2 hdef
    gi_wp2
    refine ⟨by simp, .inl ⟨_, _, rfl, run_takeDeferred HDF.out, ?_⟩⟩
    have hDg := grownBy_putObj' X D (.deferred none)
    have hDr : ∀ r, some D = some r → ∃ o : Obj, X.heap[r]? = some o ∧ o.isCells = false := fun r e => by cases e; exact ⟨_, HDF.out, rfl⟩
    refine ⟨_, results_tmp rfl _ _ _, _, rfl, ?_, HO.out.grown hDg (fun k e => by cases e; exact .inr (by have := NUM.out; omega))⟩
    have := own_turn OW.out hDg hDr
    rw [HPR.out, HPL.out] at this
    exact owns_base this (by have := NUM.out; omega)
end Go.Proofs.YtoohpcomnhfgpaaGreat
end
