/- Texts of mine, one behind the other: GvM, GvN, GvO. No statement of the seat is proved here. -/
import Derived.Test.YtniacolkjdmflaaPg3
import Derived.Test.YtniacolkjdmflaaPg1
section
namespace Go.Proofs.Ytniacolkjdmflaa
set_option linter.all false

def hasE (l : List En) (k : ByteArray) : Bool := l.any fun x => decide (x.k = k)
def fndE (l : List En) (k : ByteArray) : Int := if hasE l k = true then ((l.findIdx fun x => decide (x.k = k) : Nat) : Int) else -1
theorem hasE_get {l : List En} {k : ByteArray} (h : hasE l k = true) : ∃ i, ∃ hi : i < l.length, l[i].k = k ∧ fndE l k = i := by
  have hi : (l.findIdx fun x => decide (x.k = k)) < l.length := List.findIdx_lt_length.2 (by
    obtain ⟨x, hx, he⟩ := List.any_eq_true.1 h
    exact ⟨x, hx, he⟩)
  refine ⟨_, hi, ?_, by rw [fndE, if_pos h]⟩
  have := List.findIdx_getElem (w := hi)
  simpa using this
theorem hasE_not {l : List En} {k : ByteArray} (h : hasE l k = false) : ∀ x ∈ l, x.k ≠ k := fun x hx e => by
  have : hasE l k = true := List.any_eq_true.2 ⟨x, hx, by simpa using e⟩
  rw [h] at this; cases this
theorem hasE_mem {l : List En} {x : En} (h : x ∈ l) : hasE l x.k = true := List.any_eq_true.2 ⟨x, h, by simp⟩
theorem fndE_of {l : List En} {k : ByteArray} (i : Nat) (hi : i < l.length) (he : l[i].k = k) (hb : ∀ j (hj : j < l.length), j < i → l[j].k ≠ k) : fndE l k = i := by
  have h : hasE l k = true := he ▸ hasE_mem (List.getElem_mem hi)
  rw [fndE, if_pos h]
  congr 1
  refine (List.findIdx_eq hi).2 ⟨by simpa using he, fun j hj => ?_⟩
  have := hb j (by omega) hj
  simpa using this
theorem fndE_none {l : List En} {k : ByteArray} (h : ∀ x ∈ l, x.k ≠ k) : fndE l k = -1 := by
  rw [fndE, if_neg]
  intro e
  obtain ⟨x, hx, he⟩ := List.any_eq_true.1 e
  exact h x hx (by simpa using he)
theorem fndE_has (l : List En) (k : ByteArray) : decide (0 ≤ fndE l k) = hasE l k := by
  unfold fndE
  cases h : hasE l k <;> simp

/-- Entries by keys, rising. -/
def RisE (l : List En) : Prop := l.Pairwise fun x y => lt_ x.k y.k = true
/-- What a list becomes in which an entry stands in the place of its key's. -/
def setE (e : En) : List En → List En
  | [] => [e]
  | x :: r => if lt_ x.k e.k = true then x :: setE e r else e :: (x :: r).filter fun y => !decide (y.k = e.k)
/-- The same, looked through so far. -/
def setS (e : En) (l : List En) : List En := if (l.any fun y => !lt_ y.k e.k) = true then setE e l else l
theorem setE_len (e : En) : ∀ l : List En, (setE e l).length ≤ l.length + 1
  | [] => Nat.le_refl _
  | x :: r => by
    unfold setE; split
    · have := setE_len e r; simp; omega
    · have := List.length_filter_le (fun y : En => !decide (y.k = e.k)) (x :: r); simp at this ⊢; omega
theorem setS_len (e : En) (l : List En) : (setS e l).length ≤ l.length + 1 := by
  unfold setS; split
  · exact setE_len e l
  · omega
theorem lt_ne {a b : ByteArray} (h : lt_ a b = true) : a ≠ b := fun e => by subst e; rw [lt_irr] at h; cases h
theorem setE_none (e : En) : ∀ l : List En, (l.any fun y => !lt_ y.k e.k) = false → setE e l = l ++ [e]
  | [], _ => rfl
  | y :: l, h => by
    rw [List.any_cons, Bool.or_eq_false_iff] at h
    unfold setE
    rw [if_pos (by simpa using h.1), setE_none e l h.2]; rfl
theorem setE_snoc (e x : En) : ∀ l : List En, setE e (l ++ [x]) = if (l.any fun y => !lt_ y.k e.k) = true then setE e l ++ (if x.k = e.k then [] else [x]) else if lt_ x.k e.k = true then l ++ [x, e] else l ++ [e] ++ (if x.k = e.k then [] else [x])
  | [] => by
    simp only [List.nil_append, List.any_nil, Bool.false_eq_true, if_false, setE]
    split
    · rfl
    · by_cases h : x.k = e.k <;> simp [h]
  | y :: l => by
    rw [List.cons_append]
    unfold setE
    by_cases hy : lt_ y.k e.k = true
    · rw [if_pos hy, setE_snoc e x l, List.any_cons, hy, Bool.not_true, Bool.false_or, if_pos rfl]
      by_cases ha : (l.any fun y => !lt_ y.k e.k) = true
      · rw [if_pos ha, if_pos ha]; rfl
      · rw [if_neg ha, if_neg ha]; by_cases hx : lt_ x.k e.k = true <;> simp [hx]
    · have hy' : lt_ y.k e.k = false := by simpa using hy
      rw [if_neg hy, List.any_cons, hy', Bool.not_false, Bool.true_or, if_pos rfl, if_neg (by simp), ← List.cons_append, List.filter_append]
      by_cases h : x.k = e.k <;> simp [h]
theorem setS_snoc (e x : En) (l : List En) : setS e (l ++ [x]) = if (l.any fun y => !lt_ y.k e.k) = true then (if x.k = e.k then setS e l else setS e l ++ [x]) else if lt_ x.k e.k = true then setS e l ++ [x] else (if x.k = e.k then setS e l ++ [e] else setS e l ++ [e] ++ [x]) := by
  unfold setS
  rw [setE_snoc, List.any_append]
  by_cases h : (l.any fun y => !lt_ y.k e.k) = true
  · rw [h]
    by_cases hx : x.k = e.k <;> simp [hx]
  · have h' : (l.any fun y => !lt_ y.k e.k) = false := by simpa using h
    rw [h']
    by_cases hl : lt_ x.k e.k = true
    · simp [hl]
    · by_cases hx : x.k = e.k <;> simp [hl, hx, lt_irr]

/-- What is buried. -/
def gvTurn (was e : En) : En := { was with a := if stLater e.a was.a = true then e.a else was.a, g := if e.g < was.g then e.g else was.g }
def buryE (duty : Bool) (t2 : Int) (l : List En) (e : En) : List En × Bool :=
  if (decide (enCheck e = 0) && duty && decide (e.g < t2)) = true then
    match l.find? fun x => decide (x.k = e.k) with
    | none => (setE e l, true)
    | some was =>
      if stLater was.s e.s = true then (l, false)
      else if stEq was.s e.s = true then (if enEq was (gvTurn was e) = true then (l, false) else (setE (gvTurn was e) l, true))
      else (setE e l, true)
  else (l, false)
def overE (l : List En) (e : En) : Bool := match l.find? fun x => decide (x.k = e.k) with
  | none => false
  | some was => stLater was.s e.s
def olderE (e : En) : En := { e with g := e.g + 1 }
def tickE (t2 : Int) (l : List En) : List En × List ByteArray := ((l.map olderE).filter (fun e => decide (e.g < t2)), ((l.map olderE).filter fun e => !decide (e.g < t2)).map (·.k))
end Go.Proofs.Ytniacolkjdmflaa
end
section
namespace Go.Proofs.Ytniacolkjdmflaa
set_option linter.all false

/-- What a key's grave tells of deletes: its Stamp, its Act, its Age. -/
structure Tri where
  s : St
  a : St
  g : Int
def triE (e : En) : Tri := ⟨e.s, e.a, e.g⟩
def maxS (x y : St) : St := if stLater y x = true then y else x
theorem maxS_comm (x y : St) : maxS x y = maxS y x := by
  unfold maxS
  cases h1 : stLater y x <;> cases h2 : stLater x y <;> simp
  · exact later_anti h2 h1
  · rw [later_def] at h1 h2; omega
theorem maxS_assoc (x y z : St) : maxS (maxS x y) z = maxS x (maxS y z) := by
  have L := fun a b => later_def a b
  have F := fun a b => later_false a b
  unfold maxS
  cases h1 : stLater y x <;> cases h2 : stLater z y <;> simp [h1, h2]
  · cases h3 : stLater z x <;> simp
    rw [L] at h3; rw [F] at h1 h2; omega
  · cases h3 : stLater z x <;> simp
    rw [L] at h1 h2; rw [F] at h3; omega
def minG (x y : Int) : Int := if y < x then y else x
theorem minG_comm (x y : Int) : minG x y = minG y x := by unfold minG; split <;> split <;> omega
theorem minG_min (x y : Int) : minG x y = min x y := by unfold minG; split <;> omega
theorem minG_assoc (x y z : Int) : minG (minG x y) z = minG x (minG y z) := by simp only [minG_min]; omega
def joinT (x y : Tri) : Tri := if stLater x.s y.s = true then x else if stLater y.s x.s = true then y else ⟨x.s, maxS x.a y.a, minG x.g y.g⟩
theorem joinT_comm (x y : Tri) : joinT x y = joinT y x := by
  unfold joinT
  cases h1 : stLater x.s y.s <;> cases h2 : stLater y.s x.s <;> simp
  · exact ⟨later_anti h1 h2, maxS_comm _ _, minG_comm _ _⟩
  · rw [later_def] at h1 h2; omega
theorem joinT_assoc (x y z : Tri) : joinT (joinT x y) z = joinT x (joinT y z) := by
  have L := fun a b => later_def a b
  have F := fun a b => later_false a b
  obtain ⟨xs, xa, xg⟩ := x
  obtain ⟨ys, ya, yg⟩ := y
  obtain ⟨zs, za, zg⟩ := z
  by_cases e1 : xs = ys
  · subst e1
    by_cases e2 : xs = zs
    · subst e2
      have i : stLater xs xs = false := (F _ _).2 (by omega)
      simp [joinT, i, maxS_assoc, minG_assoc]
    · have i : stLater xs xs = false := (F _ _).2 (by omega)
      cases h : stLater xs zs
      · have h2 : stLater zs xs = true := by
          cases h2 : stLater zs xs
          · exact absurd (later_anti h h2) e2
          · rfl
        simp [joinT, i, h, h2]
      · simp [joinT, i, h]
  · have hxy : stLater xs ys = true ∨ stLater ys xs = true := by
      cases h : stLater xs ys
      · cases h2 : stLater ys xs
        · exact absurd (later_anti h h2) e1
        · exact .inr rfl
      · exact .inl rfl
    by_cases e2 : ys = zs
    · subst e2
      have i : stLater ys ys = false := (F _ _).2 (by omega)
      rcases hxy with h | h
      · have h2 : stLater ys xs = false := (F _ _).2 (by rw [L] at h; omega)
        simp [joinT, i, h, h2]
      · have h2 : stLater xs ys = false := (F _ _).2 (by rw [L] at h; omega)
        simp [joinT, i, h, h2]
    · have hyz : stLater ys zs = true ∨ stLater zs ys = true := by
        cases h : stLater ys zs
        · cases h2 : stLater zs ys
          · exact absurd (later_anti h h2) e2
          · exact .inr rfl
        · exact .inl rfl
      have N : ∀ a b, stLater a b = true → stLater b a = false := fun a b h => (F _ _).2 (by rw [L] at h; omega)
      have T : ∀ a b c, stLater a b = true → stLater b c = true → stLater a c = true := fun a b c h k => by rw [L] at h k ⊢; omega
      rcases hxy with h | h <;> rcases hyz with k | k
      · simp [joinT, h, k, T _ _ _ h k, N _ _ h, N _ _ k, N _ _ (T _ _ _ h k)]
      · simp [joinT, h, k, N _ _ h, N _ _ k]
      · simp [joinT, h, k, N _ _ h, N _ _ k]
      · simp [joinT, h, k, T _ _ _ k h, N _ _ h, N _ _ k, N _ _ (T _ _ _ k h)]
def joinO (x : Option Tri) (y : Tri) : Option Tri := match x with
  | none => some y
  | some x => some (joinT x y)
theorem joinO_right (x : Option Tri) (y z : Tri) : joinO (joinO x y) z = joinO (joinO x z) y := by
  cases x with
  | none => simp [joinO, joinT_comm]
  | some x => simp only [joinO]; rw [joinT_assoc, joinT_comm y z, ← joinT_assoc]

/-- What a key has. -/
def lookE (l : List En) (k : ByteArray) : Option En := l.find? fun x => decide (x.k = k)
theorem look_set {l : List En} (h : RisE l) (e : En) (k : ByteArray) : lookE (setE e l) k = if e.k = k then some e else lookE l k := by
  induction l with
  | nil => unfold setE lookE; by_cases hk : e.k = k <;> simp [hk]
  | cons x r ih =>
    have h' := List.pairwise_cons.1 h
    unfold setE
    by_cases hx : lt_ x.k e.k = true
    · rw [if_pos hx]
      unfold lookE at ih ⊢
      by_cases hxk : x.k = k
      · have hek : ¬ (e.k = k) := fun he => lt_ne hx (hxk.trans he.symm)
        simp [hxk, hek]
      · simp [hxk, ih h'.2]
    · rw [if_neg hx]
      unfold lookE
      by_cases hk : e.k = k
      · simp [hk]
      · simp only [List.find?_cons, hk, decide_false, if_false]
        have : ∀ l : List En, (l.filter fun y => !decide (y.k = e.k)).find? (fun x => decide (x.k = k)) = l.find? fun x => decide (x.k = k) := by
          intro l
          induction l with
          | nil => rfl
          | cons y l ih =>
            by_cases hy : y.k = e.k
            · rw [List.filter_cons_of_neg (by simp [hy]), ih, List.find?_cons_of_neg (by simpa [hy] using hk)]
            · rw [List.filter_cons_of_pos (by simp [hy]), List.find?_cons, List.find?_cons, ih]
        exact this (x :: r)
theorem mem_set {l : List En} {e y : En} (h : y ∈ setE e l) : y = e ∨ (y ∈ l ∧ y.k ≠ e.k) := by
  induction l with
  | nil => simp [setE] at h; exact .inl h
  | cons x r ih =>
    unfold setE at h
    split at h
    · next hx =>
      rcases List.mem_cons.1 h with rfl | h
      · exact .inr ⟨List.mem_cons_self, lt_ne hx⟩
      · rcases ih h with h1 | ⟨h1, h2⟩
        · exact .inl h1
        · exact .inr ⟨List.mem_cons_of_mem _ h1, h2⟩
    · rcases List.mem_cons.1 h with h | h
      · exact .inl h
      · obtain ⟨h1, h2⟩ := List.mem_filter.1 h
        exact .inr ⟨h1, by simpa using h2⟩
theorem risE_set {l : List En} (h : RisE l) (e : En) : RisE (setE e l) := by
  induction l with
  | nil => exact List.pairwise_singleton _ _
  | cons x r ih =>
    have h' := List.pairwise_cons.1 h
    unfold setE
    by_cases hx : lt_ x.k e.k = true
    · rw [if_pos hx]
      refine List.pairwise_cons.2 ⟨fun y hy => ?_, ih h'.2⟩
      rcases mem_set hy with rfl | ⟨h1, _⟩
      · exact hx
      · exact h'.1 y h1
    · rw [if_neg hx]
      refine List.pairwise_cons.2 ⟨fun y hy => ?_, h.sublist List.filter_sublist⟩
      obtain ⟨h1, h2⟩ := List.mem_filter.1 hy
      have hne : y.k ≠ e.k := by simpa using h2
      have hxe : lt_ x.k e.k = false := by simpa using hx
      have hlex : ∀ z : En, z.k ≠ e.k → lt_ z.k e.k = false → lt_ e.k z.k = true := fun z hz hl => by
        cases h3 : lt_ e.k z.k with
        | true => rfl
        | false => exact absurd (lt_tri hl h3) hz
      rcases List.mem_cons.1 h1 with rfl | h1
      · exact hlex _ hne hxe
      · by_cases hx2 : x.k = e.k
        · rw [← hx2]; exact h'.1 y h1
        · exact lt_tr (hlex x hx2 hxe) (h'.1 y h1)

/-- Is an entry taken at all? -/
def takes (duty : Bool) (t2 : Int) (e : En) : Bool := decide (enCheck e = 0) && duty && decide (e.g < t2)
theorem stEq_false {x y : St} (h : stEq x y = false) (k : stLater x y = false) : stLater y x = true := by
  cases h2 : stLater y x with
  | true => rfl
  | false =>
    have := (stEq_iff x y).2 (later_anti k h2)
    rw [h] at this; cases this
theorem tri_turn (was e : En) (h : stEq was.s e.s = true) : triE (gvTurn was e) = joinT (triE was) (triE e) := by
  have hs := (stEq_iff _ _).1 h
  have i : stLater e.s e.s = false := (later_false _ _).2 (by omega)
  simp [triE, gvTurn, joinT, hs, i, maxS, minG]
/-- What a bury makes of what a key has. -/
theorem look_bury {l : List En} (hr : RisE l) (duty : Bool) (t2 : Int) (e : En) (k : ByteArray) :
    ((lookE (buryE duty t2 l e).1 k).map triE) = if takes duty t2 e = true ∧ e.k = k then joinO ((lookE l k).map triE) (triE e) else (lookE l k).map triE := by
  unfold buryE takes
  by_cases ht : (decide (enCheck e = 0) && duty && decide (e.g < t2)) = true
  · rw [if_pos ht]
    simp only [ht, true_and]
    have hl : l.find? (fun x => decide (x.k = e.k)) = lookE l e.k := rfl
    rw [hl]
    cases hw : lookE l e.k with
    | none =>
      simp only
      rw [look_set hr]
      by_cases hk : e.k = k
      · subst hk; rw [if_pos rfl, if_pos rfl, hw]; rfl
      · rw [if_neg hk, if_neg hk]
    | some was =>
      have hwk : was.k = e.k := by
        have := List.find?_some hw
        simpa using this
      simp only
      cases h1 : stLater was.s e.s with
      | true =>
        simp only [if_true]
        by_cases hk : e.k = k
        · subst hk; rw [if_pos rfl, hw]; simp [joinO, joinT, triE, h1]
        · rw [if_neg hk]
      | false =>
        simp only [Bool.false_eq_true, if_false]
        cases h2 : stEq was.s e.s with
        | true =>
          simp only [if_true]
          have htr := tri_turn was e h2
          by_cases h3 : enEq was (gvTurn was e) = true
          · rw [if_pos h3]
            by_cases hk : e.k = k
            · subst hk
              rw [if_pos rfl, hw]
              have := (enEq_iff _ _).1 h3
              simp only [Option.map_some, joinO]
              rw [← htr, ← this]
            · rw [if_neg hk]
          · rw [if_neg h3]
            rw [look_set hr]
            have hgk : (gvTurn was e).k = e.k := hwk
            rw [hgk]
            by_cases hk : e.k = k
            · subst hk; rw [if_pos rfl, if_pos rfl, hw]; simp [joinO, htr]
            · rw [if_neg hk, if_neg hk]
        | false =>
          simp only [Bool.false_eq_true, if_false]
          rw [look_set hr]
          have h3 := stEq_false h2 h1
          by_cases hk : e.k = k
          · subst hk; rw [if_pos rfl, if_pos rfl, hw]; simp [joinO, joinT, triE, h1, h3]
          · rw [if_neg hk, if_neg hk]
  · rw [if_neg ht, if_neg (fun h => ht h.1)]
theorem ris_bury {l : List En} (hr : RisE l) (duty : Bool) (t2 : Int) (e : En) : RisE (buryE duty t2 l e).1 := by
  unfold buryE
  split
  · split
    · exact risE_set hr _
    · split
      · exact hr
      · split
        · split
          · exact hr
          · exact risE_set hr _
        · exact risE_set hr _
  · exact hr
/-- All that is buried. -/
def buryAll (duty : En → Bool) (t2 : Int) (l : List En) (es : List En) : List En := es.foldl (fun l e => (buryE (duty e) t2 l e).1) l
theorem ris_all (duty : En → Bool) (t2 : Int) : ∀ (es l : List En), RisE l → RisE (buryAll duty t2 l es)
  | [], _, h => h
  | e :: es, l, h => ris_all duty t2 es _ (ris_bury h _ _ _)
def joinAll (duty : En → Bool) (t2 : Int) (k : ByteArray) (x : Option Tri) (e : En) : Option Tri := if takes (duty e) t2 e = true ∧ e.k = k then joinO x (triE e) else x
theorem look_all (duty : En → Bool) (t2 : Int) (k : ByteArray) : ∀ (es l : List En), RisE l → (lookE (buryAll duty t2 l es) k).map triE = es.foldl (joinAll duty t2 k) ((lookE l k).map triE)
  | [], _, _ => rfl
  | e :: es, l, h => by
    have := look_all duty t2 k es _ (ris_bury h (duty e) t2 e)
    rw [look_bury h] at this
    exact this
theorem joinAll_right (duty : En → Bool) (t2 : Int) (k : ByteArray) (x : Option Tri) (a b : En) : joinAll duty t2 k (joinAll duty t2 k x a) b = joinAll duty t2 k (joinAll duty t2 k x b) a := by
  unfold joinAll
  by_cases h1 : takes (duty a) t2 a = true ∧ a.k = k <;> by_cases h2 : takes (duty b) t2 b = true ∧ b.k = k
  · simp only [if_pos h1, if_pos h2]; exact joinO_right _ _ _
  · simp only [if_pos h1, if_neg h2]
  · simp only [if_neg h1, if_pos h2]
  · simp only [if_neg h1, if_neg h2]
/-- In whatever order: the same of each key. -/
theorem look_perm (duty : En → Bool) (t2 : Int) (k : ByteArray) {es es' : List En} (h : es.Perm es') : (lookE (buryAll duty t2 [] es) k).map triE = (lookE (buryAll duty t2 [] es') k).map triE := by
  rw [look_all duty t2 k es [] List.Pairwise.nil, look_all duty t2 k es' [] List.Pairwise.nil]
  exact h.foldl_eq' (fun a _ b _ x => joinAll_right duty t2 k x a b) _
theorem look_mem {l : List En} (h : RisE l) {x : En} (hx : x ∈ l) : lookE l x.k = some x := by
  induction l with
  | nil => cases hx
  | cons y r ih =>
    have h' := List.pairwise_cons.1 h
    unfold lookE at ih ⊢
    rcases List.mem_cons.1 hx with rfl | hx
    · simp
    · have : ¬ (y.k = x.k) := lt_ne (h'.1 x hx)
      rw [List.find?_cons_of_neg (by simpa using this)]
      exact ih h'.2 hx
theorem look_some {l : List En} {k : ByteArray} {x : En} (h : lookE l k = some x) : x ∈ l ∧ x.k = k := ⟨List.mem_of_find?_eq_some h, by have := List.find?_some h; simpa using this⟩
/-- Rising lists that tell the same of each key have the same keys in the same places, and tell the same there. -/
theorem ris_same : ∀ {l l' : List En}, RisE l → RisE l' → (∀ k, (lookE l k).map triE = (lookE l' k).map triE) → l.map (fun x => (x.k, triE x)) = l'.map (fun x => (x.k, triE x))
  | [], [], _, _, _ => rfl
  | [], y :: r, _, h', e => by
    have := e y.k
    rw [look_mem h' List.mem_cons_self] at this
    cases this
  | x :: r, [], h, _, e => by
    have := e x.k
    rw [look_mem h List.mem_cons_self] at this
    cases this
  | x :: l, y :: l', h, h', e => by
    have a := List.pairwise_cons.1 h
    have b := List.pairwise_cons.1 h'
    have h1 := e x.k
    rw [look_mem h List.mem_cons_self] at h1
    have h2 := e y.k
    rw [look_mem h' List.mem_cons_self] at h2
    have hxy : x.k = y.k := by
      cases hz : lookE (y :: l') x.k with
      | none => rw [hz] at h1; cases h1
      | some z =>
        obtain ⟨hm, hk⟩ := look_some hz
        cases hu : lookE (x :: l) y.k with
        | none => rw [hu] at h2; cases h2
        | some u =>
          obtain ⟨hn, hj⟩ := look_some hu
          rcases List.mem_cons.1 hm with rfl | hm
          · exact hk.symm
          · rcases List.mem_cons.1 hn with rfl | hn
            · exact hj
            · have k1 := b.1 z hm
              have k2 := a.1 u hn
              rw [hk] at k1
              rw [hj] at k2
              have := lt_tr k1 k2
              rw [lt_irr] at this; cases this
    have ht : triE x = triE y := by
      rw [hxy, look_mem h' List.mem_cons_self] at h1
      simpa using h1
    rw [List.map_cons, List.map_cons, hxy, ht]
    congr 1
    refine ris_same a.2 b.2 fun k => ?_
    have h3 := e k
    unfold lookE at h3 ⊢
    by_cases hk : x.k = k
    · have n1 : l.find? (fun z => decide (z.k = k)) = none := List.find?_eq_none.2 fun z hz => by have := lt_ne (a.1 z hz); rw [hk] at this; simpa using this.symm
      have n2 : l'.find? (fun z => decide (z.k = k)) = none := List.find?_eq_none.2 fun z hz => by have := lt_ne (b.1 z hz); rw [← hxy, hk] at this; simpa using this.symm
      rw [n1, n2]
    · have hk2 : ¬ (y.k = k) := by rw [← hxy]; exact hk
      rw [List.find?_cons_of_neg (by simpa using hk), List.find?_cons_of_neg (by simpa using hk2)] at h3
      exact h3
end Go.Proofs.Ytniacolkjdmflaa
end
section
namespace Go.Proofs.Ytniacolkjdmflaa
set_option linter.all false

theorem older_k (e : En) : (olderE e).k = e.k := rfl
theorem look_map_older (k : ByteArray) : ∀ l : List En, lookE (l.map olderE) k = (lookE l k).map olderE
  | [] => rfl
  | x :: l => by
    have ih := look_map_older k l
    unfold lookE at ih ⊢
    rw [List.map_cons]
    by_cases h : x.k = k
    · rw [List.find?_cons_of_pos (by simp [olderE, h]), List.find?_cons_of_pos (by simpa using h)]; rfl
    · rw [List.find?_cons_of_neg (by simp [olderE, h]), List.find?_cons_of_neg (by simpa using h)]; exact ih
theorem ris_older {l : List En} (h : RisE l) : RisE (l.map olderE) := List.pairwise_map.2 h
theorem look_filter {l : List En} (h : RisE l) (p : En → Bool) (k : ByteArray) : lookE (l.filter p) k = (lookE l k).filter p := by
  induction l with
  | nil => rfl
  | cons x r ih =>
    have h' := List.pairwise_cons.1 h
    have ih := ih h'.2
    unfold lookE at ih ⊢
    by_cases hk : x.k = k
    · rw [List.find?_cons_of_pos (by simpa using hk)]
      by_cases hp : p x = true
      · rw [List.filter_cons_of_pos hp, List.find?_cons_of_pos (by simpa using hk)]
        simp [Option.filter, hp]
      · rw [List.filter_cons_of_neg hp]
        have : (r.filter p).find? (fun x => decide (x.k = k)) = none := List.find?_eq_none.2 fun z hz => by
          have := lt_ne (h'.1 z (List.mem_filter.1 hz).1)
          rw [hk] at this
          simpa using this.symm
        rw [this]
        simp [Option.filter, hp]
    · rw [List.find?_cons_of_neg (by simpa using hk)]
      by_cases hp : p x = true
      · rw [List.filter_cons_of_pos hp, List.find?_cons_of_neg (by simpa using hk)]; exact ih
      · rw [List.filter_cons_of_neg hp]; exact ih
theorem ris_tick {l : List En} (h : RisE l) (t2 : Int) : RisE (tickE t2 l).1 := (ris_older h).sublist List.filter_sublist
theorem look_tick {l : List En} (h : RisE l) (t2 : Int) (k : ByteArray) : lookE (tickE t2 l).1 k = ((lookE l k).map olderE).filter fun e => decide (e.g < t2) := by
  unfold tickE
  rw [look_filter (ris_older h), look_map_older]
theorem rise_tick {l : List En} (h : RisE l) {t2 : Int} {k : ByteArray} {x y : En} (hx : lookE l k = some x) (hy : lookE (tickE t2 l).1 k = some y) : stLater x.s y.s = false := by
  rw [look_tick h, hx] at hy
  simp only [Option.map_some, Option.filter] at hy
  split at hy
  · injection hy with hy
    subst hy
    exact (later_false _ _).2 (by simp only [olderE]; omega)
  · cases hy
theorem rise_bury {l : List En} (h : RisE l) {duty : Bool} {t2 : Int} {e : En} {k : ByteArray} {x y : En} (hx : lookE l k = some x) (hy : lookE (buryE duty t2 l e).1 k = some y) : stLater x.s y.s = false := by
  have hb := look_bury h duty t2 e k
  rw [hx, hy] at hb
  have i : ∀ a : St, stLater a a = false := fun a => (later_false _ _).2 (by omega)
  split at hb
  · simp only [Option.map_some, joinO, Option.some.injEq] at hb
    have hs : y.s = (joinT (triE x) (triE e)).s := by rw [← hb]; rfl
    rw [hs]
    unfold joinT
    split
    · exact i _
    · split
      · next h2 => exact (later_false _ _).2 (by rw [later_def] at h2; simp only [triE] at h2 ⊢; omega)
      · exact i _
  · simp only [Option.map_some, Option.some.injEq] at hb
    have hs : y.s = x.s := by
      have := congrArg Tri.s hb
      exact this
    rw [hs]; exact i _

/-- What is known of all graves. -/
structure GvOk (duty : En → Bool) (t2 : Int) (x : En) : Prop where
  d : x.d = true
  p : 1 ≤ x.p ∧ x.p ≤ 4095
  g : 0 ≤ x.g ∧ x.g < t2
  u : duty x = true
theorem mem_bury {l : List En} {duty : Bool} {t2 : Int} {e x : En} (h : x ∈ (buryE duty t2 l e).1) : x ∈ l ∨ (takes duty t2 e = true ∧ (x = e ∨ ∃ was ∈ l, was.k = e.k ∧ x = gvTurn was e)) := by
  unfold buryE at h
  by_cases ht : (decide (enCheck e = 0) && duty && decide (e.g < t2)) = true
  · rw [if_pos ht] at h
    cases hw : l.find? fun x => decide (x.k = e.k) with
    | none =>
      rw [hw] at h
      simp only at h
      rcases mem_set h with rfl | ⟨h1, _⟩
      · exact .inr ⟨ht, .inl rfl⟩
      · exact .inl h1
    | some was =>
      rw [hw] at h
      simp only at h
      have hm := List.mem_of_find?_eq_some hw
      have hk : was.k = e.k := by have := List.find?_some hw; simpa using this
      split at h
      · exact .inl h
      · split at h
        · split at h
          · exact .inl h
          · rcases mem_set h with h1 | ⟨h1, _⟩
            · exact .inr ⟨ht, .inr ⟨was, hm, hk, h1⟩⟩
            · exact .inl h1
        · rcases mem_set h with rfl | ⟨h1, _⟩
          · exact .inr ⟨ht, .inl rfl⟩
          · exact .inl h1
  · rw [if_neg ht] at h
    exact .inl h
theorem cert_of {e : En} (h : enCheck e = 0) (hd : e.d = true) : 1 ≤ e.p ∧ e.p ≤ 4095 ∧ 0 ≤ e.g := by
  unfold enCheck at h
  split at h
  · cases h
  · split at h
    · cases h
    · split at h
      · cases h
      · split at h
        · cases h
        · next hr =>
          unfold enRestBad at hr
          rw [if_pos hd] at hr
          simp [enCert] at hr
          omega
theorem ok_bury {l : List En} {duty : En → Bool} (hdd : ∀ x, duty x = true → x.d = true) (hcg : ∀ x y : En, x.d = y.d → x.p = y.p → duty x = duty y) {t2 : Int} {e : En} (h : ∀ x ∈ l, GvOk duty t2 x) : ∀ x ∈ (buryE (duty e) t2 l e).1, GvOk duty t2 x := by
  intro x hx
  rcases mem_bury hx with h1 | ⟨ht, h1 | ⟨was, hm, _, h1⟩⟩
  · exact h x h1
  · subst h1
    simp only [takes, Bool.and_eq_true, decide_eq_true_eq] at ht
    obtain ⟨⟨t1, t3⟩, t4⟩ := ht
    have hd := hdd _ t3
    have hc := cert_of t1 hd
    exact ⟨hd, ⟨hc.1, hc.2.1⟩, ⟨hc.2.2, t4⟩, t3⟩
  · subst h1
    simp only [takes, Bool.and_eq_true, decide_eq_true_eq] at ht
    obtain ⟨⟨t1, t3⟩, t4⟩ := ht
    have hd := hdd _ t3
    have hc := cert_of t1 hd
    have hw := h was hm
    refine ⟨hw.d, hw.p, ?_, (hcg (gvTurn was e) was rfl rfl).trans hw.u⟩
    simp only [gvTurn]
    split
    · exact ⟨hc.2.2, t4⟩
    · exact hw.g
theorem ok_tick {l : List En} {duty : En → Bool} (hcg : ∀ x y : En, x.d = y.d → x.p = y.p → duty x = duty y) {t2 : Int} (h : ∀ x ∈ l, GvOk duty t2 x) : ∀ x ∈ (tickE t2 l).1, GvOk duty t2 x := by
  intro x hx
  obtain ⟨h1, h2⟩ := List.mem_filter.1 hx
  obtain ⟨y, hy, rfl⟩ := List.mem_map.1 h1
  have hw := h y hy
  have h2 : (olderE y).g < t2 := by simpa using h2
  exact ⟨hw.d, hw.p, ⟨by have := hw.g.1; simp only [olderE]; omega, h2⟩, (hcg (olderE y) y rfl rfl).trans hw.u⟩
/-- Kept for no ticks, or without a duty, nothing is buried. -/
theorem bury_off {l : List En} {duty : Bool} {t2 : Int} {e : En} (h : takes duty t2 e = false) : buryE duty t2 l e = (l, false) := by
  unfold takes at h
  unfold buryE
  rw [if_neg (by rw [h]; simp)]
theorem takes_none {duty : Bool} {e : En} (hdd : duty = true → e.d = true) : takes duty 0 e = false := by
  cases ht : takes duty 0 e with
  | false => rfl
  | true =>
    simp only [takes, Bool.and_eq_true, decide_eq_true_eq] at ht
    have := cert_of ht.1.1 (hdd ht.1.2)
    omega
theorem len_bury (duty : Bool) (t2 : Int) (l : List En) (e : En) : (buryE duty t2 l e).1.length ≤ l.length + 1 := by
  have h := fun e => setE_len e l
  unfold buryE
  split
  · split
    · exact h _
    · split
      · exact Nat.le_succ _
      · split
        · split
          · exact Nat.le_succ _
          · exact h _
        · exact h _
  · exact Nat.le_succ _
theorem len_tick (t2 : Int) (l : List En) : (tickE t2 l).1.length ≤ l.length := by
  unfold tickE
  have := List.length_filter_le (fun e : En => decide (e.g < t2)) (l.map olderE)
  simpa using this
end Go.Proofs.Ytniacolkjdmflaa
end
