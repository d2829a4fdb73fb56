/- Views as plain values: rising lists of nodes; who is raised, lowered, learnt; the document's views beside them. No statement of the seat is proved here. -/
import Derived.Test.YtiigebdmkibnbaaDcC
namespace Go.Proofs.Ytiigebdmkibnbaa
open Go.RowKit
set_option linter.all false
set_option maxRecDepth 100000

/-- A node's number. -/
def nodeB (p : Int) : Bool := decide (0 ≤ p) && decide (p < 12)
/-- A rising list of nodes. -/
def Rl (l : List Int) : Prop := l.Pairwise (· < ·) ∧ ∀ z ∈ l, 0 ≤ z ∧ z < 12
/-- How many are below. -/
def vcnt (l : List Int) (p : Int) : Nat := l.countP (fun z => decide (z < p))
def vins (l : List Int) (p : Int) : List Int := l.take (vcnt l p) ++ [p] ++ l.drop (vcnt l p)
def vdel (l : List Int) (p : Int) : List Int := l.take (vcnt l p) ++ l.drop (vcnt l p + 1)

theorem vcnt_le (l : List Int) (p : Int) : vcnt l p ≤ l.length := List.countP_le_length
/-- Below the place all are less, from it on none. -/
theorem vcnt_at : ∀ {l : List Int} (p : Int), l.Pairwise (· < ·) → ∀ (j : Nat) z, l[j]? = some z → (j < vcnt l p ↔ z < p)
  | [], _, _, j, z, h => by simp at h
  | a :: l, p, hp, j, z, h => by
    rw [List.pairwise_cons] at hp
    have h0 : vcnt (a :: l) p = vcnt l p + if a < p then 1 else 0 := by simp [vcnt, List.countP_cons]
    have hn : ¬ a < p → vcnt l p = 0 := fun ha => by
      rw [vcnt, List.countP_eq_zero]
      intro y hy
      have := hp.1 y hy
      simp; omega
    cases j with
    | zero =>
      obtain rfl : a = z := by simpa using h
      rw [h0]
      by_cases ha : a < p
      · simp [ha]
      · simp [ha, hn ha]
    | succ j =>
      have h' : l[j]? = some z := by simpa using h
      have ih := vcnt_at p hp.2 j z h'
      have hz := hp.1 z (List.mem_of_getElem? h')
      rw [h0]
      by_cases ha : a < p
      · simp only [ha, if_true]; omega
      · simp only [ha, if_false, hn ha]; constructor <;> intro h9 <;> omega
theorem mem_take_iff {l : List Int} (h : l.Pairwise (· < ·)) (p z : Int) : z ∈ l.take (vcnt l p) ↔ z ∈ l ∧ z < p := by
  constructor
  · intro hz
    obtain ⟨j, hj, he⟩ := List.mem_iff_getElem.1 hz
    have e : l[j]? = some z := by rw [← he, List.getElem_take]; exact List.getElem?_eq_getElem _
    have hjl : j < vcnt l p := by simp at hj; omega
    exact ⟨List.mem_of_getElem? e, (vcnt_at p h j z e).1 hjl⟩
  · rintro ⟨hz, hlt⟩
    obtain ⟨j, hj, he⟩ := List.mem_iff_getElem.1 hz
    have e : l[j]? = some z := by rw [← he]; exact List.getElem?_eq_getElem _
    have := (vcnt_at p h j z e).2 hlt
    refine List.mem_of_getElem? (i := j) ?_
    rw [List.getElem?_take, if_pos this]; exact e
theorem mem_drop_iff {l : List Int} (h : l.Pairwise (· < ·)) (p z : Int) : z ∈ l.drop (vcnt l p) ↔ z ∈ l ∧ p ≤ z := by
  constructor
  · intro hz
    obtain ⟨j, hj, he⟩ := List.mem_iff_getElem.1 hz
    have e : l[vcnt l p + j]? = some z := by rw [← he, List.getElem_drop]; exact List.getElem?_eq_getElem _
    have := vcnt_at p h _ z e
    exact ⟨List.mem_of_getElem? e, by omega⟩
  · rintro ⟨hz, hlt⟩
    obtain ⟨j, hj, he⟩ := List.mem_iff_getElem.1 hz
    have e : l[j]? = some z := by rw [← he]; exact List.getElem?_eq_getElem _
    have := vcnt_at p h j z e
    refine List.mem_of_getElem? (i := j - vcnt l p) ?_
    rw [List.getElem?_drop, show vcnt l p + (j - vcnt l p) = j by omega]; exact e
theorem vins_mem {l : List Int} (h : l.Pairwise (· < ·)) (p z : Int) : z ∈ vins l p ↔ z ∈ l ∨ z = p := by
  simp only [vins, List.mem_append, List.mem_singleton, mem_take_iff h, mem_drop_iff h]
  constructor
  · rintro ((h1 | h1) | h1)
    · exact .inl h1.1
    · exact .inr h1
    · exact .inl h1.1
  · rintro (h1 | h1)
    · rcases Int.lt_or_le z p with h2 | h2
      · exact .inl (.inl ⟨h1, h2⟩)
      · exact .inr ⟨h1, h2⟩
    · exact .inl (.inr h1)
theorem vins_up {l : List Int} (h : l.Pairwise (· < ·)) {p : Int} (hn : p ∉ l) : (vins l p).Pairwise (· < ·) := by
  rw [vins, List.append_assoc, List.pairwise_append]
  refine ⟨h.sublist (List.take_sublist _ _), ?_, ?_⟩
  · rw [List.singleton_append, List.pairwise_cons]
    refine ⟨fun z hz => ?_, h.sublist (List.drop_sublist _ _)⟩
    have := (mem_drop_iff h p z).1 hz
    have : z ≠ p := fun e => hn (e ▸ this.1)
    omega
  · intro a ha b hb
    have h1 := (mem_take_iff h p a).1 ha
    rw [List.singleton_append, List.mem_cons] at hb
    rcases hb with rfl | hb
    · exact h1.2
    · have := (mem_drop_iff h p b).1 hb
      omega
theorem vins_len (l : List Int) (p : Int) : (vins l p).length = l.length + 1 := by
  have := vcnt_le l p
  simp [vins, List.length_take]; omega
/-- Where one lies that is there. -/
theorem vcnt_mem {l : List Int} (h : l.Pairwise (· < ·)) {p : Int} (hm : p ∈ l) : l[vcnt l p]? = some p := by
  obtain ⟨j, hj, he⟩ := List.mem_iff_getElem.1 hm
  have e : l[j]? = some p := by rw [← he]; exact List.getElem?_eq_getElem _
  have h1 := vcnt_at p h j p e
  have h2 : vcnt l p ≤ j := by omega
  rcases Nat.lt_or_ge (vcnt l p) j with h3 | h3
  · have hlt : vcnt l p < l.length := by omega
    have e2 : l[vcnt l p]? = some l[vcnt l p] := List.getElem?_eq_getElem hlt
    have h4 := vcnt_at p h (vcnt l p) _ e2
    have h5 : l[vcnt l p] < l[j] := List.pairwise_iff_getElem.1 h _ _ hlt hj h3
    omega
  · have : vcnt l p = j := by omega
    rw [this]; exact e
theorem vcnt_mem_lt {l : List Int} (h : l.Pairwise (· < ·)) {p : Int} (hm : p ∈ l) : vcnt l p < l.length := (List.getElem?_eq_some_iff.1 (vcnt_mem h hm)).1
theorem vdel_mem {l : List Int} (h : l.Pairwise (· < ·)) {p : Int} (hm : p ∈ l) (z : Int) : z ∈ vdel l p ↔ z ∈ l ∧ z ≠ p := by
  have hc := vcnt_mem h hm
  have hlt := vcnt_mem_lt h hm
  have hd : l.drop (vcnt l p) = p :: l.drop (vcnt l p + 1) := by
    have e1 := List.getElem?_eq_getElem hlt
    rw [hc] at e1
    have e2 : p = l[vcnt l p] := Option.some.inj e1
    have e3 : l.drop (vcnt l p) = l[vcnt l p] :: l.drop (vcnt l p + 1) := (List.getElem_cons_drop hlt).symm
    rw [← e2] at e3
    exact e3
  have hp2 : ∀ z ∈ l.drop (vcnt l p + 1), p < z := by
    have : (l.drop (vcnt l p)).Pairwise (· < ·) := h.sublist (List.drop_sublist _ _)
    rw [hd, List.pairwise_cons] at this
    exact this.1
  have hdm := mem_drop_iff h p
  rw [hd] at hdm
  simp only [vdel, List.mem_append, mem_take_iff h]
  constructor
  · rintro (h1 | h1)
    · exact ⟨h1.1, by omega⟩
    · have h2 := hp2 z h1
      exact ⟨((hdm z).1 (List.mem_cons_of_mem _ h1)).1, by omega⟩
  · rintro ⟨h1, h2⟩
    rcases Int.lt_or_le z p with h3 | h3
    · exact .inl ⟨h1, h3⟩
    · have := (hdm z).2 ⟨h1, h3⟩
      rcases List.mem_cons.1 this with h4 | h4
      · exact absurd h4 h2
      · exact .inr h4
theorem vdel_up {l : List Int} (h : l.Pairwise (· < ·)) (p : Int) : (vdel l p).Pairwise (· < ·) := by
  refine h.sublist ?_
  have e : l.take (vcnt l p) ++ l.drop (vcnt l p) = l := List.take_append_drop _ _
  conv => rhs; rw [← e]
  refine List.Sublist.append (List.Sublist.refl _) ?_
  rw [← List.drop_drop]
  exact List.drop_sublist _ _
theorem vdel_len {l : List Int} (h : l.Pairwise (· < ·)) {p : Int} (hm : p ∈ l) : (vdel l p).length + 1 = l.length := by
  have := vcnt_mem_lt h hm
  simp [vdel, List.length_take]; omega
/-- Rising lists are told by what is in them. -/
theorem up_ext : ∀ {a b : List Int}, a.Pairwise (· < ·) → b.Pairwise (· < ·) → (∀ z, z ∈ a ↔ z ∈ b) → a = b
  | [], [], _, _, _ => rfl
  | [], y :: b, _, _, h => by have := (h y).2 (by simp); simp at this
  | x :: a, [], _, _, h => by have := (h x).1 (by simp); simp at this
  | x :: a, y :: b, ha, hb, h => by
    rw [List.pairwise_cons] at ha hb
    have hxy : x = y := by
      have h1 := (h x).1 (by simp)
      have h2 := (h y).2 (by simp)
      rcases List.mem_cons.1 h1 with h1 | h1
      · exact h1
      · rcases List.mem_cons.1 h2 with h2 | h2
        · exact h2.symm
        · have := hb.1 x h1
          have := ha.1 y h2
          omega
    subst hxy
    rw [up_ext ha.2 hb.2 (fun z => ?_)]
    have h3 := h z
    simp only [List.mem_cons] at h3
    constructor
    · intro hz
      have := ha.1 z hz
      rcases h3.1 (.inr hz) with h4 | h4
      · omega
      · exact h4
    · intro hz
      have := hb.1 z hz
      rcases h3.2 (.inr hz) with h4 | h4
      · omega
      · exact h4
theorem up_nodup {l : List Int} (h : l.Pairwise (· < ·)) : l.Nodup := h.imp (fun h e => by omega)
/-- At most twelve. -/
theorem rl_le {l : List Int} (h : Rl l) : l.length ≤ 12 := by
  have h1 : ∀ (j : Nat) (z : Int), l[j]? = some z → (j : Int) ≤ z := by
    intro j
    induction j with
    | zero => intro z hz; have := (h.2 z (List.mem_of_getElem? hz)).1; omega
    | succ j ih =>
      intro z hz
      obtain ⟨hl, he⟩ := List.getElem?_eq_some_iff.1 hz
      have h2 := ih _ (List.getElem?_eq_getElem (show j < l.length by omega))
      have h3 : l[j] < l[j + 1] := List.pairwise_iff_getElem.1 h.1 _ _ (by omega) hl (by omega)
      rw [he] at h3
      omega
  rcases Nat.lt_or_ge 12 l.length with h2 | h2
  · have e := List.getElem?_eq_getElem h2
    have := h1 12 _ e
    have := (h.2 _ (List.mem_of_getElem? e)).2
    omega
  · exact h2

/-- One is put into a view of so many places: the view, the numbers that are left, who had to leave. -/
def vputL (l : List Int) (n : Nat) (p : Int) (zs : List Int) : List Int := if l.length = n then vins (vdel l (pkN zs l)) p else vins l p
def vputZ (l : List Int) (n : Nat) (zs : List Int) : List Int := if l.length = n then pkL zs l else zs
def vputG (l : List Int) (n : Nat) (zs : List Int) : Int := if l.length = n then pkN zs l else -1

/-- Views. -/
structure Vm where
  self : Int
  act : List Int
  pas : List Int
  a : Nat
  p : Nat
/-- Another node. -/
def oth (s : Vm) (p : Int) : Bool := nodeB p && decide (p ≠ s.self)
def rsOk (s : Vm) (p : Int) : Bool := oth s p && !decide (p ∈ s.act)
/-- The passive view without one. -/
def vrm (l : List Int) (p : Int) : List Int := if p ∈ l then vdel l p else l
def rsG (s : Vm) (p : Int) (zs : List Int) : Int := if rsOk s p then vputG s.act s.a zs else -1
def rsV (s : Vm) (p : Int) (zs : List Int) : Vm :=
  if rsOk s p then
    { s with act := vputL s.act s.a p zs, pas := if vputG s.act s.a zs = -1 then vrm s.pas p else vputL (vrm s.pas p) s.p (vputG s.act s.a zs) (vputZ s.act s.a zs) }
  else s
def rsZ (s : Vm) (p : Int) (zs : List Int) : List Int :=
  if rsOk s p then (if vputG s.act s.a zs = -1 then vputZ s.act s.a zs else vputZ (vrm s.pas p) s.p (vputZ s.act s.a zs)) else zs
def loV (s : Vm) (p : Int) (zs : List Int) : Vm := if p ∈ s.act then { s with act := vdel s.act p, pas := vputL s.pas s.p p zs } else s
def loZ (s : Vm) (p : Int) (zs : List Int) : List Int := if p ∈ s.act then vputZ s.pas s.p zs else zs
def leOk (s : Vm) (p : Int) : Bool := oth s p && !decide (p ∈ s.act) && !decide (p ∈ s.pas)
def leV (s : Vm) (p : Int) (zs : List Int) : Vm := if leOk s p then { s with pas := vputL s.pas s.p p zs } else s
def leZ (s : Vm) (p : Int) (zs : List Int) : List Int := if leOk s p then vputZ s.pas s.p zs else zs

/-- What holds of all views. -/
structure Vok (s : Vm) : Prop where
  me : 0 ≤ s.self ∧ s.self < 12
  ua : Rl s.act
  up : Rl s.pas
  na : s.self ∉ s.act
  np : s.self ∉ s.pas
  ds : ∀ z, z ∈ s.act → z ∉ s.pas
  la : s.act.length ≤ s.a
  lp : s.pas.length ≤ s.p
  ra : 1 ≤ s.a ∧ s.a ≤ 11
  rp : 1 ≤ s.p ∧ s.p ≤ 11

theorem pk_mem {zs l : List Int} (h : 0 < l.length) : pkN zs l ∈ l := by
  have h1 := drN_pos (zs := zs) (n := l.length) (by omega)
  have h2 : (drN zs l.length).toNat < l.length := by omega
  unfold pkN
  rw [List.getD_eq_getElem?_getD, List.getElem?_eq_getElem h2, Option.getD_some]
  exact List.getElem_mem h2
theorem pkL_len (zs l : List Int) : (pkL zs l).length ≤ zs.length := by
  unfold pkL; split
  · exact Nat.le_refl _
  · exact drL_len _ _
theorem vputZ_len (l : List Int) (n : Nat) (zs : List Int) : (vputZ l n zs).length ≤ zs.length := by
  unfold vputZ; split
  · exact pkL_len _ _
  · exact Nat.le_refl _
theorem vrm_mem {l : List Int} (h : l.Pairwise (· < ·)) (p z : Int) : z ∈ vrm l p ↔ z ∈ l ∧ z ≠ p := by
  unfold vrm; split
  · rename_i hm; exact vdel_mem h hm z
  · rename_i hm; exact ⟨fun hz => ⟨hz, fun e => hm (e ▸ hz)⟩, fun hz => hz.1⟩
theorem vrm_up {l : List Int} (h : l.Pairwise (· < ·)) (p : Int) : (vrm l p).Pairwise (· < ·) := by
  unfold vrm; split
  · exact vdel_up h p
  · exact h
theorem vrm_len {l : List Int} (h : l.Pairwise (· < ·)) (p : Int) : (vrm l p).length ≤ l.length := by
  unfold vrm; split
  · rename_i hm; have := vdel_len h hm; omega
  · exact Nat.le_refl _
theorem vrm_rl {l : List Int} (h : Rl l) (p : Int) : Rl (vrm l p) := ⟨vrm_up h.1 p, fun z hz => h.2 z ((vrm_mem h.1 p z).1 hz).1⟩
theorem vdel_rl {l : List Int} (h : Rl l) {p : Int} (hm : p ∈ l) : Rl (vdel l p) := ⟨vdel_up h.1 p, fun z hz => h.2 z ((vdel_mem h.1 hm z).1 hz).1⟩
/-- What a view holds into which one is put. -/
theorem vput_facts {l : List Int} {n : Nat} {p : Int} {zs : List Int} (h : Rl l) (hp : nodeB p = true) (hn : p ∉ l) (hl : l.length ≤ n) (h1 : 1 ≤ n) :
    Rl (vputL l n p zs) ∧ (vputL l n p zs).length ≤ n ∧ (∀ z, z ∈ vputL l n p zs ↔ (z ∈ l ∧ z ≠ vputG l n zs) ∨ z = p) ∧ (vputG l n zs = -1 ↔ l.length ≠ n) ∧ (l.length = n → vputG l n zs ∈ l) := by
  have hp' : 0 ≤ p ∧ p < 12 := by simpa [nodeB] using hp
  by_cases he : l.length = n
  · have hm : pkN zs l ∈ l := pk_mem (by omega)
    have hd := vdel_mem h.1 hm
    have hu := vdel_up h.1 (pkN zs l)
    have hnd : p ∉ vdel l (pkN zs l) := fun hc => hn ((hd p).1 hc).1
    simp only [vputL, vputG, if_pos he]
    refine ⟨⟨vins_up hu hnd, fun z hz => ?_⟩, ?_, fun z => ?_, ?_, fun _ => hm⟩
    · rcases (vins_mem hu p z).1 hz with h2 | h2
      · exact h.2 z ((hd z).1 h2).1
      · omega
    · rw [vins_len]; have := vdel_len h.1 hm; omega
    · rw [vins_mem hu, hd]
    · have := h.2 _ hm
      constructor
      · intro e; omega
      · intro e; exact absurd he e
  · simp only [vputL, vputG, if_neg he]
    refine ⟨⟨vins_up h.1 hn, fun z hz => ?_⟩, ?_, fun z => ?_, ?_, fun e => absurd e he⟩
    · rcases (vins_mem h.1 p z).1 hz with h2 | h2
      · exact h.2 z h2
      · omega
    · rw [vins_len]; omega
    · rw [vins_mem h.1]
      constructor
      · rintro (h2 | h2)
        · exact .inl ⟨h2, by have := h.2 z h2; omega⟩
        · exact .inr h2
      · rintro (h2 | h2)
        · exact .inl h2.1
        · exact .inr h2
    · simp [he]
theorem rs_node {s : Vm} {p : Int} (h : rsOk s p = true) : nodeB p = true ∧ p ≠ s.self ∧ p ∉ s.act := by
  simp only [rsOk, oth, Bool.and_eq_true, decide_eq_true_eq, Bool.not_eq_true', decide_eq_false_iff_not] at h
  exact ⟨h.1.1, h.1.2, h.2⟩
theorem le_node {s : Vm} {p : Int} (h : leOk s p = true) : nodeB p = true ∧ p ≠ s.self ∧ p ∉ s.act ∧ p ∉ s.pas := by
  simp only [leOk, oth, Bool.and_eq_true, decide_eq_true_eq, Bool.not_eq_true', decide_eq_false_iff_not] at h
  exact ⟨h.1.1.1, h.1.1.2, h.1.2, h.2⟩
theorem node_of {l : List Int} (h : Rl l) {z : Int} (hz : z ∈ l) : nodeB z = true := by have := h.2 z hz; simp [nodeB]; omega
end Go.Proofs.Ytiigebdmkibnbaa
