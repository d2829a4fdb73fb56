/- Marks as plain values: which is later; lists of marks, the latest first; the place of a mark, what is put and dropped, and what is below one. No statement of the seat is proved here. -/
import Derived.Test.YtclngnoapfjghaaStM
import Derived.Test.YtclngnoapfjghaaTbM
namespace Go.Proofs.Ytclngnoapfjghaa
open Go.RowKit
set_option linter.all false

structure Mk where
  a : St
  k : ByteArray
def noKey : ByteArray := ⟨#[]⟩
def mkTop : Mk := ⟨stZero, noKey⟩
def stSame (x y : St) : Bool := decide (x.c = y.c) && decide (x.s = y.s)
theorem stSame_iff (x y : St) : stSame x y = true ↔ x = y := by
  simp only [stSame, Bool.and_eq_true, decide_eq_true_eq]
  exact ⟨fun h => St.eq h.1 h.2, fun h => by subst h; exact ⟨rfl, rfl⟩⟩
def mkLater (x y : Mk) : Bool := if stSame x.a y.a then lt_ y.k x.k else stLater x.a y.a
def mkCmp (x y : Mk) : Int := if stCmp x.a y.a = 0 then Lib.compareBytes x.k.data.toList y.k.data.toList else stCmp x.a y.a
theorem Mk.eq {x y : Mk} (h1 : x.a = y.a) (h2 : x.k = y.k) : x = y := by cases x; cases y; simp_all
theorem st_irr (x : St) : stLater x x = false := (later_false x x).2 (by omega)
theorem st_tr {x y z : St} (h : stLater x y = true) (k : stLater y z = true) : stLater x z = true := by
  rw [later_def] at h k ⊢; omega
theorem later_irr (x : Mk) : mkLater x x = false := by unfold mkLater; rw [if_pos ((stSame_iff _ _).2 rfl), lt_irr]
theorem later_def2 (x y : Mk) : mkLater x y = true ↔ stLater x.a y.a = true ∨ (x.a = y.a ∧ lt_ y.k x.k = true) := by
  unfold mkLater
  by_cases h : x.a = y.a
  · rw [if_pos ((stSame_iff _ _).2 h)]
    exact ⟨fun e => .inr ⟨h, e⟩, fun e => e.elim (fun e => by rw [h, st_irr] at e; cases e) (fun e => e.2)⟩
  · rw [if_neg (fun e => h ((stSame_iff _ _).1 e))]
    exact ⟨fun e => .inl e, fun e => e.elim id (fun e => absurd e.1 h)⟩
theorem later_tr {x y z : Mk} (h : mkLater x y = true) (k : mkLater y z = true) : mkLater x z = true := by
  rw [later_def2] at h k ⊢
  rcases h with h | ⟨h, h'⟩
  · rcases k with k | ⟨k, k'⟩
    · exact .inl (st_tr h k)
    · exact .inl (k ▸ h)
  · rcases k with k | ⟨k, k'⟩
    · exact .inl (h ▸ k)
    · exact .inr ⟨h.trans k, lt_tr k' h'⟩
theorem later_asym {x y : Mk} (h : mkLater x y = true) : mkLater y x = false := by
  cases e : mkLater y x with
  | false => rfl
  | true => have := later_tr h e; rw [later_irr] at this; cases this
theorem later_tri {x y : Mk} (h : mkLater x y = false) (k : mkLater y x = false) : x = y := by
  have h1 : ¬ (stLater x.a y.a = true ∨ (x.a = y.a ∧ lt_ y.k x.k = true)) := fun e => by rw [(later_def2 x y).2 e] at h; cases h
  have h2 : ¬ (stLater y.a x.a = true ∨ (y.a = x.a ∧ lt_ x.k y.k = true)) := fun e => by rw [(later_def2 y x).2 e] at k; cases k
  have ea : x.a = y.a := later_anti (by simpa using fun e => h1 (.inl e)) (by simpa using fun e => h2 (.inl e))
  refine Mk.eq ea (lt_tri ?_ ?_)
  · cases e : lt_ x.k y.k with
    | false => rfl
    | true => exact absurd (.inr ⟨ea.symm, e⟩) h2
  · cases e : lt_ y.k x.k with
    | false => rfl
    | true => exact absurd (.inr ⟨ea, e⟩) h1
theorem stCmp_i64 (x y : St) : -1 ≤ stCmp x y ∧ stCmp x y ≤ 1 := by
  unfold stCmp cmpI; split <;> split <;> (try split) <;> omega
theorem mkCmp_i64 (x y : Mk) : -1 ≤ mkCmp x y ∧ mkCmp x y ≤ 1 := by
  unfold mkCmp; split
  · exact cmp_i64 _ _
  · exact stCmp_i64 _ _
theorem mkCmp_neg (x y : Mk) : decide (mkCmp x y < 0) = mkLater y x := by
  unfold mkCmp mkLater
  by_cases h : x.a = y.a
  · rw [if_pos ((stCmp_zero _ _).2 h), if_pos ((stSame_iff _ _).2 h.symm), cmp_neg]
  · rw [if_neg (fun e => h ((stCmp_zero _ _).1 e)), if_neg (fun e => h ((stSame_iff _ _).1 e).symm)]
    have e := stCmp_pos y.a x.a
    rw [stCmp_neg] at e
    rw [Bool.eq_iff_iff, decide_eq_true_eq, ← e]
    omega
theorem mkCmp_turn (x y : Mk) : mkCmp y x = - mkCmp x y := by
  unfold mkCmp
  by_cases h : x.a = y.a
  · rw [if_pos ((stCmp_zero _ _).2 h), if_pos ((stCmp_zero _ _).2 h.symm), (less_cmp _ _).2.2.1]
  · rw [if_neg (fun e => h ((stCmp_zero _ _).1 e)), if_neg (fun e => h ((stCmp_zero _ _).1 e).symm), stCmp_neg]
theorem mkCmp_pos (x y : Mk) : decide (0 < mkCmp x y) = mkLater x y := by
  rw [← mkCmp_neg, mkCmp_turn, Bool.eq_iff_iff, decide_eq_true_eq, decide_eq_true_eq]; omega

/-- The latest first. -/
def Desc (l : List Mk) : Prop := l.Pairwise fun x y => mkLater x y = true
def Keys_ (l : List Mk) : Prop := l.Pairwise fun x y => x.k ≠ y.k
/-- How many aren't earlier than one. -/
def bh (l : List Mk) (m : Mk) : Nat := l.countP fun x => !mkLater m x
theorem bh_le (l : List Mk) (m : Mk) : bh l m ≤ l.length := List.countP_le_length
theorem bh_at {l : List Mk} (h : Desc l) (m : Mk) : ∀ i (hi : i < l.length), mkLater m l[i] = decide (bh l m ≤ i) := by
  induction l with
  | nil => intro i hi; simp at hi
  | cons p l ih =>
    intro i hi
    have h' := List.pairwise_cons.1 h
    have ih := ih h'.2
    have hc : bh (p :: l) m = bh l m + if mkLater m p = true then 0 else 1 := by
      simp only [bh, List.countP_cons]; cases mkLater m p <;> simp
    by_cases hp : mkLater m p = true
    · have hz : bh l m = 0 := by
        refine List.countP_eq_zero.2 (fun q hq => ?_)
        rw [later_tr hp (h'.1 q hq)]; simp
      rw [hc, if_pos hp, hz]
      cases i with
      | zero => simp [hp]
      | succ i => rw [List.getElem_cons_succ, ih i (by simpa using hi), hz]; simp
    · rw [hc, if_neg hp]
      cases i with
      | zero => simpa using hp
      | succ i => rw [List.getElem_cons_succ, ih i (by simpa using hi)]; simp
theorem bh_mem {l : List Mk} (h : Desc l) (i : Nat) (hi : i < l.length) : bh l l[i] = i + 1 := by
  have h1 := bh_at h l[i] i hi
  rw [later_irr] at h1
  have h1 : i < bh l l[i] := by simpa using h1.symm
  have h2 := bh_le l l[i]
  rcases Nat.lt_or_ge (i + 1) l.length with hl | hl
  · have h3 := bh_at h l[i] (i + 1) hl
    have h4 : mkLater l[i] l[i + 1] = true := List.pairwise_iff_getElem.1 h i (i + 1) hi hl (by omega)
    rw [h4] at h3
    have h3 : bh l l[i] ≤ i + 1 := by simpa using h3.symm
    omega
  · omega
theorem later_drop {l : List Mk} (h : Desc l) (m : Mk) : l.filter (fun x => mkLater m x) = l.drop (bh l m) := by
  induction l with
  | nil => rfl
  | cons p l ih =>
    have h' := List.pairwise_cons.1 h
    have ih := ih h'.2
    have hc : bh (p :: l) m = bh l m + if mkLater m p = true then 0 else 1 := by
      simp only [bh, List.countP_cons]; cases mkLater m p <;> simp
    by_cases hp : mkLater m p = true
    · have hz : bh l m = 0 := by
        refine List.countP_eq_zero.2 (fun q hq => ?_)
        rw [later_tr hp (h'.1 q hq)]; simp
      rw [hc, if_pos hp, hz, List.filter_cons_of_pos (by simpa using hp), ih, hz]; rfl
    · rw [hc, if_neg hp, List.filter_cons_of_neg (by simpa using hp), ih]; rfl

/-- The place of a key, and its mark. -/
def hasM (l : List Mk) (k : ByteArray) : Bool := l.any fun x => decide (x.k = k)
def fndM (l : List Mk) (k : ByteArray) : Int := if hasM l k = true then ((l.findIdx fun x => decide (x.k = k) : Nat) : Int) else -1
theorem has_get {l : List Mk} {k : ByteArray} (h : hasM l k = true) : ∃ i, ∃ hi : i < l.length, l[i].k = k ∧ fndM l k = i := by
  have hi : (l.findIdx fun x => decide (x.k = k)) < l.length := List.findIdx_lt_length.2 (by
    obtain ⟨x, hx, he⟩ := List.any_eq_true.1 h
    exact ⟨x, hx, he⟩)
  refine ⟨_, hi, ?_, by rw [fndM, if_pos h]⟩
  have := List.findIdx_getElem (w := hi)
  simpa using this
theorem has_not {l : List Mk} {k : ByteArray} (h : hasM l k = false) : ∀ x ∈ l, x.k ≠ k := fun x hx e => by
  have : hasM l k = true := List.any_eq_true.2 ⟨x, hx, by simpa using e⟩
  rw [h] at this; cases this
theorem has_mem {l : List Mk} {x : Mk} (h : x ∈ l) : hasM l x.k = true := List.any_eq_true.2 ⟨x, h, by simp⟩
theorem fnd_of {l : List Mk} {k : ByteArray} (i : Nat) (hi : i < l.length) (he : l[i].k = k) (hb : ∀ j (hj : j < l.length), j < i → l[j].k ≠ k) : fndM l k = i := by
  have h : hasM l k = true := he ▸ has_mem (List.getElem_mem hi)
  rw [fndM, if_pos h]
  congr 1
  refine (List.findIdx_eq hi).2 ⟨by simpa using he, fun j hj => ?_⟩
  have := hb j (by omega) hj
  simpa using this
theorem fnd_none {l : List Mk} {k : ByteArray} (h : ∀ x ∈ l, x.k ≠ k) : fndM l k = -1 := by
  rw [fndM, if_neg]
  intro e
  obtain ⟨x, hx, he⟩ := List.any_eq_true.1 e
  exact h x hx (by simpa using he)
theorem fnd_has (l : List Mk) (k : ByteArray) : decide (0 ≤ fndM l k) = hasM l k := by
  unfold fndM
  cases h : hasM l k <;> simp

def dropM (l : List Mk) (k : ByteArray) : List Mk := l.filter fun x => !decide (x.k = k)
theorem drop_not {l : List Mk} {k : ByteArray} (h : hasM l k = false) : dropM l k = l :=
  List.filter_eq_self.2 fun x hx => by simpa using has_not h x hx
theorem drop_at {l : List Mk} (h : Keys_ l) (i : Nat) (hi : i < l.length) : dropM l l[i].k = l.take i ++ l.drop (i + 1) := by
  induction l generalizing i with
  | nil => simp at hi
  | cons p l ih =>
    have h' := List.pairwise_cons.1 h
    cases i with
    | zero =>
      rw [List.getElem_cons_zero, dropM, List.filter_cons_of_neg (by simp)]
      exact List.filter_eq_self.2 fun x hx => by simpa using fun e => h'.1 x hx e.symm
    | succ i =>
      have hi' : i < l.length := by simpa using hi
      rw [List.getElem_cons_succ, dropM, List.filter_cons_of_pos (by simpa using h'.1 _ (List.getElem_mem hi'))]
      have := ih h'.2 i hi'
      rw [dropM] at this
      rw [this]; rfl
theorem drop_sub (l : List Mk) (k : ByteArray) : (dropM l k).Sublist l := List.filter_sublist
theorem drop_gone (l : List Mk) (k : ByteArray) : ∀ x ∈ dropM l k, x.k ≠ k := fun x hx => by simpa using (List.mem_filter.1 hx).2
theorem drop_has (l : List Mk) (k : ByteArray) : hasM (dropM l k) k = false := by
  cases h : hasM (dropM l k) k with
  | false => rfl
  | true =>
    obtain ⟨x, hx, he⟩ := List.any_eq_true.1 h
    exact absurd (by simpa using he) (drop_gone l k x hx)
theorem mdrop_len (l : List Mk) (k : ByteArray) : (dropM l k).length ≤ l.length := List.length_filter_le _ _

/-- What a list becomes in which a mark is put. -/
def insM (m : Mk) : List Mk → List Mk
  | [] => [m]
  | x :: r => if mkLater m x = true then m :: x :: r else x :: insM m r
def putM (l : List Mk) (m : Mk) : List Mk := insM m (dropM l m.k)
theorem ins_len (m : Mk) : ∀ l : List Mk, (insM m l).length = l.length + 1
  | [] => rfl
  | x :: r => by unfold insM; split <;> simp [ins_len m r]
theorem ins_mem (m : Mk) : ∀ (l : List Mk) (y : Mk), y ∈ insM m l ↔ y = m ∨ y ∈ l
  | [], y => by simp [insM]
  | x :: r, y => by
    unfold insM; split
    · simp
    · simp only [List.mem_cons, ins_mem m r y]; constructor
      · rintro (h | h | h)
        · exact .inr (.inl h)
        · exact .inl h
        · exact .inr (.inr h)
      · rintro (h | h | h)
        · exact .inr (.inl h)
        · exact .inl h
        · exact .inr (.inr h)
theorem ins_at {l : List Mk} (h : Desc l) (m : Mk) : insM m l = l.take (bh l m) ++ m :: l.drop (bh l m) := by
  induction l with
  | nil => rfl
  | cons p l ih =>
    have h' := List.pairwise_cons.1 h
    have hc : bh (p :: l) m = bh l m + if mkLater m p = true then 0 else 1 := by
      simp only [bh, List.countP_cons]; cases mkLater m p <;> simp
    unfold insM
    by_cases hp : mkLater m p = true
    · have hz : bh l m = 0 := by
        refine List.countP_eq_zero.2 (fun q hq => ?_)
        rw [later_tr hp (h'.1 q hq)]; simp
      rw [if_pos hp, hc, if_pos hp, hz]; rfl
    · rw [if_neg hp, hc, if_neg hp, ih h'.2]; rfl
theorem ins_snoc (m : Mk) (x : Mk) : ∀ l : List Mk, insM m (l ++ [x]) = if (l.any fun y => mkLater m y) = true then insM m l ++ [x] else if mkLater m x = true then l ++ [m, x] else l ++ [x, m]
  | [] => by simp only [List.nil_append, List.any_nil, Bool.false_eq_true, if_false, insM]
  | y :: l => by
    rw [List.cons_append]
    unfold insM
    by_cases hy : mkLater m y = true
    · rw [if_pos hy, if_pos (by simp [hy]), if_pos hy]; rfl
    · rw [if_neg hy, ins_snoc m x l, List.any_cons]
      have hy' : mkLater m y = false := by simpa using hy
      rw [hy', Bool.false_or]
      by_cases ha : (l.any fun y => mkLater m y) = true
      · rw [if_pos ha, if_pos ha]; simp
      · rw [if_neg ha, if_neg ha]; by_cases hx : mkLater m x = true <;> simp [hx]
theorem ins_none (m : Mk) : ∀ l : List Mk, (l.any fun y => mkLater m y) = false → insM m l = l ++ [m]
  | [], _ => rfl
  | y :: l, h => by
    rw [List.any_cons, Bool.or_eq_false_iff] at h
    unfold insM
    rw [if_neg (by rw [h.1]; simp), ins_none m l h.2]; rfl

/-- An index' marks. -/
structure Ixl (l : List Mk) : Prop where
  ds : Desc l
  ks : Keys_ l
theorem ixl_nil : Ixl [] := ⟨List.Pairwise.nil, List.Pairwise.nil⟩
theorem Ixl.drop {l : List Mk} (h : Ixl l) (k : ByteArray) : Ixl (dropM l k) := ⟨h.ds.sublist (drop_sub l k), h.ks.sublist (drop_sub l k)⟩
theorem desc_ins {l : List Mk} (h : Desc l) (m : Mk) (hm : m ∉ l) : Desc (insM m l) := by
  induction l with
  | nil => exact List.pairwise_singleton _ _
  | cons p l ih =>
    have h' := List.pairwise_cons.1 h
    unfold insM
    by_cases hp : mkLater m p = true
    · rw [if_pos hp]
      exact List.pairwise_cons.2 ⟨fun q hq => by
        rcases List.mem_cons.1 hq with rfl | hq
        · exact hp
        · exact later_tr hp (h'.1 q hq), h⟩
    · rw [if_neg hp]
      refine List.pairwise_cons.2 ⟨fun q hq => ?_, ih h'.2 (fun e => hm (List.mem_cons_of_mem _ e))⟩
      rcases (ins_mem m l q).1 hq with rfl | hq
      · cases e : mkLater p q with
        | true => rfl
        | false => exact absurd (later_tri (by simpa using hp) e) (fun e => hm (by rw [e]; exact List.mem_cons_self))
      · exact h'.1 q hq
theorem keys_ins {l : List Mk} (h : Keys_ l) (m : Mk) (hm : ∀ x ∈ l, x.k ≠ m.k) : Keys_ (insM m l) := by
  induction l with
  | nil => exact List.pairwise_singleton _ _
  | cons p l ih =>
    have h' := List.pairwise_cons.1 h
    unfold insM
    by_cases hp : mkLater m p = true
    · rw [if_pos hp]
      exact List.pairwise_cons.2 ⟨fun q hq e => hm q hq e.symm, h⟩
    · rw [if_neg hp]
      refine List.pairwise_cons.2 ⟨fun q hq => ?_, ih h'.2 (fun x hx => hm x (List.mem_cons_of_mem _ hx))⟩
      rcases (ins_mem m l q).1 hq with rfl | hq
      · exact hm p List.mem_cons_self
      · exact h'.1 q hq
theorem Ixl.ins {l : List Mk} (h : Ixl l) (m : Mk) (hm : ∀ x ∈ l, x.k ≠ m.k) : Ixl (insM m l) :=
  ⟨desc_ins h.ds m (fun e => hm m e rfl), keys_ins h.ks m hm⟩
theorem Ixl.put {l : List Mk} (h : Ixl l) (m : Mk) : Ixl (putM l m) := (h.drop m.k).ins m (drop_gone l m.k)
theorem mput_len (l : List Mk) (m : Mk) : (putM l m).length ≤ l.length + 1 := by
  rw [putM, ins_len]; have := mdrop_len l m.k; omega

/-- So many that are earlier than one. -/
def isTop (m : Mk) : Bool := stSame m.a stZero && decide (m.k = noKey)
def belF (m : Mk) (x : Mk) : Bool := isTop m || mkLater m x
def belM (l : List Mk) (m : Mk) (n : Int) : List Mk := (l.filter (belF m)).take n.toNat
theorem bel_top {l : List Mk} {m : Mk} (h : isTop m = true) (n : Int) : belM l m n = l.take n.toNat := by
  unfold belM
  rw [List.filter_eq_self.2 (fun x _ => by simp [belF, h])]
theorem bel_not {l : List Mk} (hl : Desc l) {m : Mk} (h : isTop m = false) (n : Int) : belM l m n = (l.drop (bh l m)).take n.toNat := by
  have e : belF m = fun x => mkLater m x := by funext x; simp [belF, h]
  unfold belM
  rw [e, later_drop hl]
theorem bel_snoc (m : Mk) (n : Int) (l : List Mk) (x : Mk) : belM (l ++ [x]) m n = if belF m x = true ∧ ((belM l m n).length : Int) < n then belM l m n ++ [x] else belM l m n := by
  unfold belM
  rw [List.filter_append]
  by_cases hp : belF m x = true
  · rw [List.filter_cons_of_pos hp, List.filter_nil, List.length_take]
    by_cases hn : ((min n.toNat (l.filter (belF m)).length : Nat) : Int) < n
    · rw [if_pos ⟨hp, hn⟩, List.take_append]
      congr 1
      rw [List.take_of_length_le]
      simp; omega
    · rw [if_neg (fun e => hn e.2), List.take_append_of_le_length (by omega)]
  · rw [List.filter_cons_of_neg hp, List.filter_nil, if_neg (fun e => hp e.1), List.append_nil]
end Go.Proofs.Ytclngnoapfjghaa
