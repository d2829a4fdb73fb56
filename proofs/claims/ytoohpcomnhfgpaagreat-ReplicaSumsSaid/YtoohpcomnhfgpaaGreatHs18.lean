/- Texts of mine, one behind the other: RpZ, RpDl, RpY, RpSp, RpWy, RpRc. No statement of the seat is proved here. -/
import Derived.Test.YtoohpcomnhfgpaaGreatHs15
import Derived.Test.YtoohpcomnhfgpaaGreatHs17
import Derived.Deep.DeepCutAuto
section
namespace Go.Proofs.YtoohpcomnhfgpaaGreat
open Go.RowKit
set_option maxRecDepth 100000
set_option linter.all false
structure Wf (log : List En) (s : Rs) : Prop where
  o : roBad s.o = false
  si : 0 ≤ s.site ∧ s.site < s.o.n
  ris : RisE s.tab
  chk : ∀ e ∈ s.tab, enCheck e = 0 ∧ e.a.c ≤ s.c
  c : 0 ≤ s.c ∧ s.c ≤ 4294967295
  len : (s.tab.length : Int) ≤ roRoom s.o
  z : s.z = sumH s.tab
  mks : s.mks.Perm (s.tab.map mkOf)
  gris : RisE s.gr
  g : ∀ y ∈ s.gr, enCheck y = 0 ∧ y.d = true ∧ y.a.c ≤ s.c
  own : RisK s.own
  D : s.D = dvOf (log.map encB)
  n : s.n = log.length
  lg : ∀ e ∈ log, enCheck e = 0
  tl : s.tab.length ≤ log.length
  gl : s.gr.length ≤ log.length
  gt : ∀ y ∈ s.gr, y.g < s.o.t2
def toM (s : Rs) (log : List En) : Rm := ⟨s.tab, s.gr, s.own, s.c, log⟩
theorem enc_rok {e : En} (h : enCheck e = 0) : Rok (encB e) := by
  have := enc_len h
  exact ⟨this.1, by omega⟩
section
variable {log : List En} {s : Rs} {x : En}
theorem Wf.site (h : Wf log s) : stSite s.site = true := by
  have := (ro_ok h.o).1
  have := h.si
  simp only [stSite, decide_eq_true_eq]; omega
theorem Wf.gok (h : Wf log s) : Gok s := ⟨h.c, h.site, (ro_ok h.o).2.2.2.1, h.g⟩
theorem Wf.tabok (h : Wf log s) : ∀ e ∈ s.tab, enCheck e = 0 := fun e he => (h.chk e he).1
theorem Wf.roks (h : Wf log s) : ∀ r ∈ log.map encB, Rok r := fun r hr => by
  obtain ⟨e, he, rfl⟩ := List.mem_map.1 hr
  exact enc_rok (h.lg e he)
theorem Wf.flat (h : Wf log s) : (flatB (log.map encB)).length ≤ 522 * log.length := by
  have := flatB_le _ h.roks
  rwa [List.length_map] at this
theorem Wf.rky (h : Wf log s) (hl : log.length ≤ 60) : Rky s := by
  have h1 := h.mks.length_eq
  rw [List.length_map] at h1
  have h2 := h.tl
  have h3 := h.gl
  have h4 := h.flat
  have h5 : s.D.bs = flatB (log.map encB) := by rw [h.D]; rfl
  have h6 := h.n
  exact ⟨by omega, by omega, h.own, by rw [h5]; omega, by omega⟩
theorem check_turn {e : En} {a : St} {g : Int} (hc : enCheck e = 0) (hd : e.d = true) (hg : stGood a = true) (hl : stLater e.s a = false) (h0 : 0 ≤ g) (h1 : g ≤ 2147483647) : enCheck { e with a := a, g := g } = 0 := by
  have hk := check_of hc
  have hr : enRestBad { e with a := a, g := g } = false := by
    have := hk.2.2.2.2.2.2.2 hd
    simp only [enRestBad, hd, if_true, enCert, Bool.not_eq_false', Bool.and_eq_true, decide_eq_true_eq]
    exact ⟨⟨⟨this.1, this.2.1⟩, h0⟩, h1⟩
  have h2 : enKeyBad { e with a := a, g := g } = enKeyBad e := rfl
  have h3 : enValBad { e with a := a, g := g } = enValBad e := rfl
  have h4 : enStBad { e with a := a, g := g } = false := by simp only [enStBad, hk.2.2.2.1, hg, hl]; rfl
  unfold enCheck at hc ⊢
  rw [h2, h3, h4, hr]
  split at hc
  · cases hc
  next a1 =>
  rw [if_neg a1]
  split at hc
  · cases hc
  next a2 =>
  rw [if_neg a2]; simp
theorem gr_bury {l : List En} {c t2 : Int} {site : Int} (hg : ∀ y ∈ l, enCheck y = 0 ∧ y.d = true ∧ y.a.c ≤ c) (hx : x.a.c ≤ c) : ∀ y ∈ (buryE (enDuty x site) t2 l x).1, enCheck y = 0 ∧ y.d = true ∧ y.a.c ≤ c := by
  intro y hy
  rcases mem_bury hy with h1 | ⟨ht, h1 | ⟨was, hm, _, h1⟩⟩
  · exact hg y h1
  · subst h1
    simp only [takes, enDuty, Bool.and_eq_true, decide_eq_true_eq] at ht
    exact ⟨ht.1.1, ht.1.2.1.1, hx⟩
  · subst h1
    simp only [takes, enDuty, Bool.and_eq_true, decide_eq_true_eq] at ht
    have hw := hg was hm
    have k1 := check_of hw.1
    have k2 := check_of ht.1.1
    have r1 := k1.2.2.2.2.2.2.2 hw.2.1
    have r2 := k2.2.2.2.2.2.2.2 ht.1.2.1.1
    refine ⟨?_, hw.2.1, ?_⟩
    · refine check_turn hw.1 hw.2.1 ?_ ?_ ?_ ?_
      · show stGood (if stLater x.a was.a = true then x.a else was.a) = true
        split
        · exact k2.2.2.2.2.1
        · exact k1.2.2.2.2.1
      · show stLater was.s (if stLater x.a was.a = true then x.a else was.a) = false
        have h6 := k1.2.2.2.2.2.1
        split
        · next h => rw [later_def] at h; rw [later_false] at h6 ⊢; omega
        · exact h6
      · show 0 ≤ (if x.g < was.g then x.g else was.g)
        split <;> omega
      · show (if x.g < was.g then x.g else was.g) ≤ 2147483647
        split <;> omega
    · show (if stLater x.a was.a = true then x.a else was.a).c ≤ c
      split
      · exact hx
      · exact hw.2.2
theorem gt_bury {l : List En} {t2 : Int} {duty : Bool} (hg : ∀ y ∈ l, y.g < t2) : ∀ y ∈ (buryE duty t2 l x).1, y.g < t2 := by
  intro y hy
  rcases mem_bury hy with h1 | ⟨ht, h1 | ⟨was, hm, _, h1⟩⟩
  · exact hg y h1
  · subst h1
    simp only [takes, Bool.and_eq_true, decide_eq_true_eq] at ht
    exact ht.2
  · subst h1
    simp only [takes, Bool.and_eq_true, decide_eq_true_eq] at ht
    show (if x.g < was.g then x.g else was.g) < t2
    split
    · exact ht.2
    · exact hg was hm
theorem see_after {c : Int} {a : St} (h : a.c ≤ c) : seeC c a = c := by
  unfold seeC; rw [if_neg]; intro e; omega
theorem Wf.see (h : Wf log s) (hc : enCheck x = 0) : Wf log (seeS s x) ∧ x.a.c ≤ (seeS s x).c := by
  have hs := see_ge s.c x.a h.c
  have hk := (check_of hc).2.2.2.2.1
  have hxc : x.a.c ≤ seeC s.c x.a := by
    unfold seeC
    split
    · omega
    · next e =>
      have : ¬ s.c < x.a.c := fun h => e ⟨hk, h⟩
      omega
  exact ⟨⟨h.o, h.si, h.ris, fun e he => ⟨(h.chk e he).1, Int.le_trans (h.chk e he).2 hs.1⟩, hs.2, h.len, h.z, h.mks, h.gris, fun y hy => ⟨(h.g y hy).1, (h.g y hy).2.1, Int.le_trans (h.g y hy).2.2 hs.1⟩, h.own, h.D, h.n, h.lg, h.tl, h.gl, h.gt⟩, hxc⟩
theorem Wf.next (h : Wf log s) (hc : s.c < 4294967295) : Wf log { s with c := s.c + 1 } := by
  have := h.c
  exact ⟨h.o, h.si, h.ris, fun e he => ⟨(h.chk e he).1, Int.le_trans (h.chk e he).2 (by show s.c ≤ s.c + 1; omega)⟩, by show 0 ≤ s.c + 1 ∧ s.c + 1 ≤ 4294967295; omega, h.len, h.z, h.mks, h.gris, fun y hy => ⟨(h.g y hy).1, (h.g y hy).2.1, Int.le_trans (h.g y hy).2.2 (by show s.c ≤ s.c + 1; omega)⟩, h.own, h.D, h.n, h.lg, h.tl, h.gl, h.gt⟩
theorem downS_is (s : Rs) (x : En) : downS s x = ⟨s.o, s.site, s.c, setE x s.tab, s.z + (hsh x - hsh ((lookE s.tab x.k).getD enZero)), putM s.mks (mkOf x), (buryE (enDuty x s.site) s.o.t2 s.gr x).1, if x.s.s = s.site then withK x.k s.own else s.own, adD (encB x) s.D, adN (encB x) s.D s.n⟩ := by
  simp only [downS, noteS, placeS, addS]
  congr
theorem Wf.dn (h : Wf log s) (hl : log.length ≤ 60) (hc : enCheck x = 0) (hx : x.a.c ≤ s.c) (hf : fullM s.o s.tab x.k = false) : dnR s x = (downS s x, x, 0) ∧ Wf (log ++ [x]) (downS s x) ∧ toM (downS s x) (log ++ [x]) = setM s.site s.o (toM s log) x := by
  have hfl := h.flat
  have hrc : recCode (encB x).length = 0 := (rok_iff _).2 (enc_rok hc)
  obtain ⟨a1, a2⟩ := add_all (log.map encB) (encB x) (by omega)
  rw [hrc] at a1
  rw [if_pos hrc] at a2
  have b1 : adC (encB x) s.D = 0 := by rw [h.D]; exact a1
  have hsl := set_len h.ris x
  have hlen : ((setE x s.tab).length : Int) ≤ roRoom s.o := by
    have h1 := h.len
    rw [hsl]
    unfold fullM at hf
    cases he : hasE s.tab x.k with
    | true => simpa using h1
    | false =>
      rw [he] at hf
      simp at hf
      simp; omega
  have hgl := len_bury (enDuty x s.site) s.o.t2 s.gr x
  have hD : adD (encB x) s.D = dvOf ((log ++ [x]).map encB) := by rw [h.D, a2, List.map_append, List.map_cons, List.map_nil]
  have hN : adN (encB x) s.D s.n = ((log ++ [x]).length : Int) := by rw [adN, if_pos b1, h.n, List.length_append]; simp
  have hmk := marks_set h.mks x
  have hz : s.z + (hsh x - hsh ((lookE s.tab x.k).getD enZero)) = sumH (setE x s.tab) := by rw [sum_set h.ris x, h.z]
  have hgr := ris_bury h.gris (enDuty x s.site) s.o.t2 x
  have hgg := gr_bury (site := s.site) (t2 := s.o.t2) h.g hx
  have hgt2 := gt_bury (x := x) (duty := enDuty x s.site) h.gt
  have hri := risE_set h.ris x
  have htl := setE_len x s.tab
  have h1 := h.tl
  have h2 := h.gl
  have ho := h.o
  have hsi := h.si
  have hcc := h.c
  have hlg := h.lg
  have hchk : ∀ e ∈ setE x s.tab, enCheck e = 0 ∧ e.a.c ≤ s.c := by
    intro e he
    rcases mem_set he with rfl | ⟨h1, _⟩
    · exact ⟨hc, hx⟩
    · exact h.chk e h1
  have how : RisK (if x.s.s = s.site then withK x.k s.own else s.own) := by
    split
    · exact ris_withK h.own
    · exact h.own
  have h5 : seeC s.c x.a = s.c := see_after hx
  have hdn : dnR s x = (downS s x, x, 0) := by rw [dnR, if_pos b1]
  have hto : toM (downS s x) (log ++ [x]) = setM s.site s.o (toM s log) x := by simp only [toM, downS_is, setM, noteM, h5]
  refine ⟨hdn, ?_, hto⟩
  clear hdn hto
  rw [downS_is]
  generalize setE x s.tab = tab at *
  generalize s.z + (hsh x - hsh ((lookE s.tab x.k).getD enZero)) = z at *
  generalize putM s.mks (mkOf x) = mk at *
  generalize (buryE (enDuty x s.site) s.o.t2 s.gr x).1 = gr at *
  generalize (if x.s.s = s.site then withK x.k s.own else s.own) = own at *
  generalize adD (encB x) s.D = D at *
  generalize adN (encB x) s.D s.n = n at *
  refine ⟨ho, hsi, hri, hchk, hcc, hlen, hz, hmk, hgr, hgg, how, hD, hN, ?_, ?_, ?_, hgt2⟩
  · intro e he
    rcases List.mem_append.1 he with h1 | h1
    · exact hlg e h1
    · rw [List.mem_singleton.1 h1]; exact hc
  · dsimp only
    rw [List.length_append]; simp only [List.length_cons, List.length_nil]; omega
  · dsimp only
    rw [List.length_append]; simp only [List.length_cons, List.length_nil]; omega
theorem Wf.young (h : Wf log s) (hc : enCheck x = 0) : Wf log { s with tab := youngM s.o s.tab x } := by
  unfold youngM
  cases hw : lookE s.tab x.k with
  | none => exact h
  | some was =>
    simp only
    split
    · next hd =>
      simp only [Bool.and_eq_true] at hd
      obtain ⟨hm, hk⟩ := look_some hw
      have hcw := h.chk was hm
      have r1 := (check_of hcw.1).2.2.2.2.2.2.2 hd.1
      have r2 := (check_of hc).2.2.2.2.2.2.2 hd.2
      have hag : 0 ≤ ageM s.o s.tab x ∧ ageM s.o s.tab x ≤ 2147483647 := by
        unfold ageM
        rw [hw]
        split
        · omega
        · simp only
          split
          · omega
          · next h1 h2 => 
            have : ¬ was.g < x.g + 1 := fun e => h2 ⟨hd.1, e⟩
            omega
      obtain ⟨g, hg⟩ : ∃ g, ageM s.o s.tab x = g := ⟨_, rfl⟩
      rw [hg] at hag ⊢
      have hck := check_age hcw.1 hd.1 hag.1 hag.2
      have hsl := set_len h.ris { was with g := g }
      rw [if_pos (hasE_mem hm)] at hsl
      refine ⟨h.o, h.si, risE_set h.ris _, ?_, h.c, by show ((setE { was with g := g } s.tab).length : Int) ≤ _; rw [hsl]; exact h.len, ?_, h.mks.trans (marks_age h.ris hm g).symm, h.gris, h.g, h.own, h.D, h.n, h.lg, by show (setE { was with g := g } s.tab).length ≤ _; rw [hsl]; exact h.tl, h.gl, h.gt⟩
      · intro e he
        rcases mem_set he with rfl | ⟨h1, _⟩
        · exact ⟨hck, hcw.2⟩
        · exact h.chk e h1
      · show s.z = sumH (setE { was with g := g } s.tab)
        rw [sum_set h.ris, look_mem h.ris hm, Option.getD_some, hsh_aged hcw.1 hd.1 hag.1 hag.2, h.z]; omega
    · exact h
theorem over_some {l : List En} (h : overE l x = true) : ∃ y, lookE l x.k = some y := by
  rw [overE_look] at h
  cases hg : lookE l x.k with
  | none => rw [hg] at h; cases h
  | some y => exact ⟨y, rfl⟩
theorem down_z (site : Int) (o : Ro) (m : Rm) (e : En) : downM site o m e 0 = ⟨setM site o m e, e, 0, some e⟩ := if_pos rfl
theorem take_yes (k : Int) (m : Rm) (e : En) : takeM k ⟨m, e, 0, some e⟩ = ⟨m, k, e, 0, some e⟩ := if_pos rfl
theorem tk_yes (k : Int) (t : Rs) (e : En) : tkR k (t, e, 0) = (t, k, e, 0) := if_pos rfl
theorem tk_no (k : Int) (t : Rs) (e : En) : tkR k (t, e, 8) = (t, 0, enZero, 8) := if_neg (show ¬ (8 : Int) = 0 by decide)
theorem takeM_no (k : Int) (m : Rm) (e : En) : takeM k ⟨m, e, 8, none⟩ = ⟨m, 0, enZero, 8, none⟩ := if_neg (show ¬ (8 : Int) = 0 by decide)
def tqM (site : Int) (o : Ro) (m : Rm) (x : En) : Mr := if overE m.gr x = true then takeM 2 (wokeR site o m x.k 0) else takeM 1 (downM site o m { x with g := ageM o m.tab x } 0)
structure Fit (log : List En) (r : Mr) (q : Rs × Int × En × Int) : Prop where
  ex : ∃ log', Wf log' q.1 ∧ log'.length ≤ log.length + 1 ∧ r.m = toM q.1 log'
  k : r.kind = q.2.1
  e : r.e = q.2.2.1
  z : r.z = q.2.2.2
theorem Fit.of {s' : Rs} {k z : Int} {e : En} {log' : List En} {ad : Option En} (h : Wf log' s') (hl : log'.length ≤ log.length + 1) : Fit log ⟨toM s' log', k, e, z, ad⟩ (s', k, e, z) := ⟨⟨log', h, hl, rfl⟩, rfl, rfl, rfl⟩
theorem snoc_len (l : List En) (e : En) : (l ++ [e]).length ≤ l.length + 1 := by rw [List.length_append]; exact Nat.le_refl _
theorem Wf.tq (h : Wf log s) (hl : log.length ≤ 60) (hc : enCheck x = 0) (hx : x.a.c ≤ s.c) (hf : fullM s.o s.tab x.k = false) (hac : enCheck { x with g := ageM s.o s.tab x } = 0) : Fit log (tqM s.site s.o (toM s log) x) (tqR s x) := by
  have eg : (toM s log).gr = s.gr := rfl
  have et : (toM s log).tab = s.tab := rfl
  unfold tqM tqR
  rw [eg, et]
  cases ov : overE s.gr x with
  | false =>
    have n3 : ¬ false = true := by decide
    rw [if_neg n3, if_neg n3]
    obtain ⟨y, hy⟩ : ∃ y, ({ x with g := ageM s.o s.tab x } : En) = y := ⟨_, rfl⟩
    have hya : y.a.c ≤ s.c := by rw [← hy]; exact hx
    have hyk : fullM s.o s.tab y.k = false := by rw [← hy]; exact hf
    rw [hy] at hac ⊢
    obtain ⟨d1, d2, d3⟩ := h.dn hl hac hya hyk
    rw [down_z, take_yes, d1, tk_yes, ← d3]
    exact Fit.of d2 (snoc_len _ _)
  | true =>
    rw [if_pos rfl, if_pos rfl]
    obtain ⟨y, hy⟩ := over_some ov
    obtain ⟨hym, hyk⟩ := look_some hy
    have hg := h.g y hym
    have hw0 : wokeR s.site s.o (toM s log) x.k 0 = if s.c = 4294967295 then ⟨toM s log, enZero, 8, none⟩ else downM s.site s.o (toM { s with c := s.c + 1 } log) (wkE s x.k) 0 := rfl
    rw [hw0]
    unfold nxR
    by_cases hcc : s.c = 4294967295
    · rw [if_pos hcc, if_pos hcc, tk_no, takeM_no]
      exact Fit.of h (Nat.le_succ _)
    · rw [if_neg hcc, if_neg hcc]
      have hcl : s.c < 4294967295 := by have := h.c; omega
      have hlt : stLater ⟨s.c + 1, s.site⟩ y.a = true := (later_def _ _).2 (.inl (by have := hg.2.2; show y.a.c < s.c + 1; omega))
      have hgn := good_next h.site h.c.1 hcl
      have hw := wake_ok hg.1 hg.2.1 hgn (show y.a.c < s.c + 1 by have := hg.2.2; omega)
      have hwk : wkE s x.k = (enWake y ⟨s.c + 1, s.site⟩).1 := by
        unfold wkE
        rw [hy]; rfl
      have hwa : (enWake y ⟨s.c + 1, s.site⟩).1.a.c = s.c + 1 := by
        unfold enWake
        rw [if_pos hg.1, if_pos (by rw [hg.2.1, hgn, hlt]; rfl)]
      obtain ⟨q, hq⟩ : ∃ q, wkE s x.k = q := ⟨_, rfl⟩
      rw [← hwk, hq] at hw hwa
      rw [hq]
      obtain ⟨s1, hs1⟩ : ∃ s1, { s with c := s.c + 1 } = s1 := ⟨_, rfl⟩
      have h1 := h.next hcl
      have f1 : s1.c = s.c + 1 := by rw [← hs1]
      have f2 : s1.o = s.o := by rw [← hs1]
      have f3 : s1.tab = s.tab := by rw [← hs1]
      have f4 : s1.site = s.site := by rw [← hs1]
      rw [hs1] at h1 ⊢
      obtain ⟨d1, d2, d3⟩ := h1.dn (x := q) hl hw.2.1 (by rw [hwa, f1]; exact Int.le_refl _) (by rw [hw.2.2, hyk, f2, f3]; exact hf)
      rw [f2, f4] at d3
      rw [down_z, take_yes, d1, tk_yes, ← d3]
      exact Fit.of d2 (snoc_len _ _)
theorem Wf.mg (h : Wf log s) (hl : log.length ≤ 60) (x : En) : Fit log (mergeR s.site s.o (toM s log) x 0) (mgR s x) := by
  have hm : mergeR s.site s.o (toM s log) x 0 = if enCheck x ≠ 0 then ⟨toM s log, 0, enZero, enCheck x, none⟩ else if newsM s.tab x = false then ⟨toM { seeS s x with tab := youngM s.o s.tab x } log, 0, enZero, 0, none⟩
    else if lateM s.o x = true then ⟨toM (seeS s x) log, 0, enZero, 0, none⟩ else if fullM s.o s.tab x.k = true then ⟨toM (seeS s x) log, 0, enZero, 7, none⟩ else tqM s.site s.o (toM (seeS s x) log) x := rfl
  rw [hm]
  unfold mgR
  by_cases hc : enCheck x = 0
  · have n1 : ¬ enCheck x ≠ 0 := fun e => e hc
    rw [if_neg n1, if_neg n1]
    obtain ⟨h1, hx⟩ := h.see hc
    cases hn : newsM s.tab x with
    | false =>
      rw [if_pos rfl, if_pos rfl]
      exact Fit.of (h1.young hc) (Nat.le_succ _)
    | true =>
      have n2 : ¬ true = false := by decide
      rw [if_neg n2, if_neg n2]
      cases ht : lateM s.o x with
      | true =>
        rw [if_pos rfl, if_pos rfl]
        exact Fit.of h1 (Nat.le_succ _)
      | false =>
        have n3 : ¬ false = true := by decide
        rw [if_neg n3, if_neg n3]
        cases hf : fullM s.o s.tab x.k with
        | true =>
          rw [if_pos rfl, if_pos rfl]
          exact Fit.of h1 (Nat.le_succ _)
        | false =>
          rw [if_neg n3, if_neg n3]
          have hac := age_check (ro_ok h.o).2.2.2.1 hc ht h.tabok
          obtain ⟨s1, hs1⟩ : ∃ s1, seeS s x = s1 := ⟨_, rfl⟩
          have f2 : s1.o = s.o := by rw [← hs1]; rfl
          have f3 : s1.tab = s.tab := by rw [← hs1]; rfl
          have f4 : s1.site = s.site := by rw [← hs1]; rfl
          rw [hs1] at h1 hx ⊢
          rw [← f2, ← f3] at hac hf
          rw [← f2, ← f4]
          exact h1.tq hl hc hx hf hac
  · rw [if_pos hc, if_pos hc]
    exact Fit.of h (Nat.le_succ _)
structure Fitw (log : List En) (r : Rr) (q : Rs × En × Int) : Prop where
  ex : ∃ log', Wf log' q.1 ∧ log'.length ≤ log.length + 1 ∧ r.m = toM q.1 log'
  e : r.e = q.2.1
  z : r.z = q.2.2
theorem Fitw.of {s' : Rs} {z : Int} {e : En} {log' : List En} {ad : Option En} (h : Wf log' s') (hl : log'.length ≤ log.length + 1) : Fitw log ⟨toM s' log', e, z, ad⟩ (s', e, z) := ⟨⟨log', h, hl, rfl⟩, rfl, rfl⟩
theorem Wf.wr (h : Wf log s) (hl : log.length ≤ 60) (e : En) (hc : s.c < 4294967295 → enCheck (stampE e ⟨s.c + 1, s.site⟩) = 0) : Fitw log (writeM s.site s.o (toM s log) e 0) (wrR s e.k (stampE e ⟨s.c + 1, s.site⟩)) := by
  obtain ⟨q, hq⟩ : ∃ q, stampE e ⟨s.c + 1, s.site⟩ = q := ⟨_, rfl⟩
  have hqk : q.k = e.k := by rw [← hq]; rfl
  have hqa : q.a.c = s.c + 1 := by rw [← hq]; rfl
  have hm : writeM s.site s.o (toM s log) e 0 = if ((!hasK s.own e.k && decide (s.o.q ≤ (s.own.length : Int))) || fullM s.o s.tab e.k) = true then ⟨toM s log, enZero, 7, none⟩ else if s.c = 4294967295 then ⟨toM s log, enZero, 8, none⟩ else downM s.site s.o (toM { s with c := s.c + 1 } log) (stampE e ⟨s.c + 1, s.site⟩) 0 := rfl
  rw [hm, hq]
  rw [hq] at hc
  unfold wrR
  by_cases hb : ((!hasK s.own e.k && decide (s.o.q ≤ (s.own.length : Int))) || fullM s.o s.tab e.k) = true
  · rw [if_pos hb, if_pos hb]
    exact Fitw.of h (Nat.le_succ _)
  · rw [if_neg hb, if_neg hb]
    unfold nxR
    by_cases hcc : s.c = 4294967295
    · rw [if_pos hcc, if_pos hcc]
      exact Fitw.of h (Nat.le_succ _)
    · rw [if_neg hcc, if_neg hcc]
      have hcl : s.c < 4294967295 := by have := h.c; omega
      have hf : fullM s.o s.tab e.k = false := by
        cases q : fullM s.o s.tab e.k with
        | false => rfl
        | true => rw [q] at hb; simp at hb
      have hck := hc hcl
      obtain ⟨s1, hs1⟩ : ∃ s1, { s with c := s.c + 1 } = s1 := ⟨_, rfl⟩
      have h1 := h.next hcl
      have f1 : s1.c = s.c + 1 := by rw [← hs1]
      have f2 : s1.o = s.o := by rw [← hs1]
      have f3 : s1.tab = s.tab := by rw [← hs1]
      have f4 : s1.site = s.site := by rw [← hs1]
      rw [hs1] at h1 ⊢
      obtain ⟨d1, d2, d3⟩ := h1.dn (x := q) hl hck (by rw [hqa, f1]; exact Int.le_refl _) (by rw [hqk, f2, f3]; exact hf)
      rw [f2, f4] at d3
      rw [down_z, d1, ← d3]
      exact Fitw.of d2 (snoc_len _ _)
theorem Wf.pt (h : Wf log s) (hl : log.length ≤ 60) (k v : ByteArray) : Fitw log (putR s.site s.o (toM s log) k v 0) (putRs s k v) := by
  unfold putR putRs
  by_cases hc : enCheck (putE k v ⟨1, s.site⟩) = 0
  · have n1 : ¬ enCheck (putE k v ⟨1, s.site⟩) ≠ 0 := fun e => e hc
    rw [if_neg n1, if_neg n1]
    exact h.wr hl (putE k v ⟨1, s.site⟩) fun hlt => (put_check k v (good_next h.site h.c.1 hlt) (good_one h.site)).trans hc
  · rw [if_pos hc, if_pos hc]
    exact Fitw.of h (Nat.le_succ _)
end
end Go.Proofs.YtoohpcomnhfgpaaGreat
end
section
namespace Go.Proofs.YtoohpcomnhfgpaaGreat
open Go.RowKit
set_option maxRecDepth 100000
set_option linter.all false
theorem kp_pos : ∀ n, n ≤ 12 → ∀ s, s < n → ∀ r, r < n → 1 ≤ kpP s n (r + 1) := by decide +kernel
theorem keepers_ok {site r n : Int} (hn : 1 ≤ n ∧ n ≤ 12) (hs : 0 ≤ site ∧ site < n) (hr : 1 ≤ r ∧ r ≤ n) : 1 ≤ enKeepers site r n ∧ enKeepers site r n ≤ 4095 := by
  have hk : kpOk site r n := ⟨hn.1, hn.2, hs.1, hs.2, hr.1, hr.2⟩
  have e : enKeepers site r n = (kpP site.toNat n.toNat r.toNat : Int) := if_pos hk
  have h1 := kp_small n.toNat (by omega) site.toNat (by omega) r.toNat (by omega)
  have h2 := kp_pos n.toNat (by omega) site.toNat (by omega) (r.toNat - 1) (by omega)
  rw [show r.toNat - 1 + 1 = r.toNat by omega] at h2
  rw [e]; omega
theorem del_put (k : ByteArray) {p : Int} {a : St} (ha : stGood a = true) (hp : 1 ≤ p ∧ p ≤ 4095) : enCheck (delE k a p) = enCheck (putE k ⟨#[]⟩ a) := by
  have a1 : enKeyBad (delE k a p) = enKeyBad (putE k ⟨#[]⟩ a) := rfl
  have a2 : enValBad (delE k a p) = false := rfl
  have a3 : enValBad (putE k ⟨#[]⟩ a) = false := rfl
  have a4 : enStBad (delE k a p) = enStBad (putE k ⟨#[]⟩ a) := rfl
  have a5 : enRestBad (delE k a p) = false := by
    show (!(if true = true then enCert (delE k a p) else enLive (delE k a p))) = false
    rw [if_pos rfl, Bool.not_eq_false']
    simp only [enCert, delE, Bool.and_eq_true, decide_eq_true_eq]
    exact ⟨⟨⟨decide_eq_true hp.1, decide_eq_true hp.2⟩, rfl⟩, rfl⟩
  have a6 : enRestBad (putE k ⟨#[]⟩ a) = false := by
    show (!(if false = true then enCert (putE k ⟨#[]⟩ a) else enLive (putE k ⟨#[]⟩ a))) = false
    rw [if_neg (by decide), Bool.not_eq_false']
    simp [enLive, putE, stEq_refl]
  unfold enCheck
  rw [a1, a2, a3, a4, a5, a6]
theorem Wf.dl {log : List En} {s : Rs} (h : Wf log s) (hl : log.length ≤ 60) (k : ByteArray) : Fitw log (delR s.site s.o (toM s log) k 0) (delRs s k) := by
  have ho := ro_ok h.o
  have hp := keepers_ok ho.1 h.si ho.2.2.1
  have eT : (toM s log).tab = s.tab := rfl
  unfold delR delRs
  rw [eT, del_put k (good_one h.site) hp]
  by_cases hc : enCheck (putE k ⟨#[]⟩ ⟨1, s.site⟩) = 0
  · have n1 : ¬ enCheck (putE k ⟨#[]⟩ ⟨1, s.site⟩) ≠ 0 := fun e => e hc
    rw [if_neg n1, if_neg n1]
    cases hv : liveM s.tab k with
    | false =>
      rw [if_pos rfl, if_pos rfl]
      exact Fitw.of h (Nat.le_succ _)
    | true =>
      have n2 : ¬ true = false := by decide
      rw [if_neg n2, if_neg n2]
      exact h.wr hl (delE k ⟨1, s.site⟩ (enKeepers s.site s.o.r s.o.n)) fun hlt => by
        show enCheck (delE k ⟨s.c + 1, s.site⟩ (enKeepers s.site s.o.r s.o.n)) = 0
        rw [del_put k (good_next h.site h.c.1 hlt) hp, put_check k ⟨#[]⟩ (good_next h.site h.c.1 hlt) (good_one h.site)]
        exact hc
  · rw [if_pos hc, if_pos hc]
    exact Fitw.of h (Nat.le_succ _)
end Go.Proofs.YtoohpcomnhfgpaaGreat
end
section
namespace Go.Proofs.YtoohpcomnhfgpaaGreat
open Go.RowKit
set_option maxRecDepth 100000
set_option linter.all false
def OpP (B w : World) (dg : Nat) (vd : Value) (D : Dv) (res : Option Rs) (E : Ending) (w' : World) : Prop := match res with
  | none => E = .returned (.tuple #[.pointer none, .int .i64 12]) ∧ ∃ v', Dsk B dg D v' w' ∧ Only (foot dg vd) w w' ∧ ∀ k, foot dg v' k → foot dg vd k ∨ w.heap.size ≤ k
  | some s => ∃ a, E = .returned (.tuple #[.pointer (some ⟨a.r, 0, none⟩), .int .i64 0]) ∧ Rp B a s w' ∧ a.dg = dg ∧ Only (foot dg vd) w w' ∧ ∀ k, allF a k → foot dg vd k ∨ w.heap.size ≤ k
structure Oz (B w : World) (dg : Nat) (vd : Value) (m r : Nat) (vl : Value) (l : List En) (k : Nat) (s0 : Rs) (X : World) : Prop where
  ex : ∃ a s, Rp B a s X ∧ a.r = r ∧ a.dg = dg ∧ opF (l.take k) s0 = some s ∧ ∀ b, allF a b → foot dg vd b ∨ m ≤ b
  l : Lst X w.heap.size (fun b => w.heap.size ≤ b ∧ b < m) vl (l.map encB)
  o : Only (foot dg vd) w X
  sz : m ≤ X.heap.size
theorem opF_at {l : List En} {k : Nat} {x : En} {s0 s : Rs} (hx : l[k]? = some x) (h : opF (l.take k) s0 = some s) : opF (l.take (k + 1)) s0 = (if fullM s.o s.tab x.k = true then none else some (rcS s x)) ∧ (fullM s.o s.tab x.k = true → opF l s0 = none) := by
  obtain ⟨hk, hb⟩ := List.getElem?_eq_some_iff.1 hx
  have h1 : opF (l.take (k + 1)) s0 = (if fullM s.o s.tab x.k = true then none else some (rcS s x)) := by
    rw [List.take_succ_eq_append_getElem hk, opF_app, h, hb]; rfl
  refine ⟨h1, fun hf => ?_⟩
  rw [if_pos hf] at h1
  have h2 : l = l.take (k + 1) ++ l.drop (k + 1) := (List.take_append_drop _ _).symm
  rw [h2, opF_app, h1]; rfl
theorem OpP.yes {B w w' : World} {dg : Nat} {vd : Value} {D : Dv} {s : Rs} {E : Ending} {a : Ra} (h1 : E = .returned (.tuple #[.pointer (some ⟨a.r, 0, none⟩), .int .i64 0])) (h2 : Rp B a s w') (h3 : a.dg = dg) (h4 : Only (foot dg vd) w w') (h5 : ∀ k, allF a k → foot dg vd k ∨ w.heap.size ≤ k) : OpP B w dg vd D (some s) E w' := ⟨a, h1, h2, h3, h4, h5⟩
theorem OpP.no {B w w' : World} {dg : Nat} {vd v' : Value} {D : Dv} {E : Ending} (h1 : E = .returned (.tuple #[.pointer none, .int .i64 12])) (h2 : Dsk B dg D v' w') (h4 : Only (foot dg vd) w w') (h5 : ∀ k, foot dg v' k → foot dg vd k ∨ w.heap.size ≤ k) : OpP B w dg vd D none E w' := ⟨h1, v', h2, h4, h5⟩
theorem opF_D {l : List En} {o : Ro} {site : Int} {D : Dv} {n : Int} {s : Rs} (h : opF l (blankS o site D n) = some s) : s.D = D := (opF_inv l _ _ h).2.2.2.1
set_option maxHeartbeats 51200000 in
theorem rp_open (B : World) (dg : Nat) (d : Dv) (vd : Value) (site : Int) (o : Ro) (l : List En) (w : World) (h : Dsk B dg d vd w) (hon : d.on = true) (hko : (jnRead d.bs).2.2 = 0) (hfo : d.fuse ≠ 0) (hrec : (jnRead d.bs).1 = l.map encB) (hl : ∀ e ∈ l, enCheck e = 0) (hlen : l.length ≤ 60)
    (ho : roBad o = false) (hs : 0 ≤ site ∧ site < o.n) (hd : (opD d).bs.length + 100 ≤ 1048576) :
    Calls Tryz.prog 15 #[.int .i64 site, .agg #[.int .i64 o.n, .int .i64 o.q, .int .i64 o.r, .int .i64 o.t1, .int .i64 o.t2], .pointer (some ⟨dg, 0, none⟩)] w fun E w' => OpP B w dg vd (opD d) (opF l (blankS o site (opD d) l.length)) E w' := by
  have hok := ro_ok ho
  have O0 := Lib.hid ((Only.refl none_ w).alloc (.cells #[.int .i64 o.n, .int .i64 o.q, .int .i64 o.r, .int .i64 o.t1, .int .i64 o.t2] 33))
  have B0 := Lib.hid (Blk.new w 33 #[.int .i64 o.n, .int .i64 o.q, .int .i64 o.r, .int .i64 o.t1, .int .i64 o.t2])
  have HCK := Lib.hid (fun X => rp_check o X)
  have hrc : roCheck o = 0 := by unfold roCheck; rw [ho]; rfl
  rw [hrc] at HCK
  have HWI := Lib.hid (fun X => rp_within site 0 (o.n - 1) X)
  have hwi : decide (0 ≤ site ∧ site ≤ o.n - 1) = true := by rw [decide_eq_true_eq]; omega
  rw [hwi] at HWI
  obtain ⟨n1, hn1⟩ : ∃ y, o.n - 1 = y := ⟨_, rfl⟩
  have hw1 : IntKind.i64.wrap (o.n - 1) = n1 := (IntWalk.i64_in _ (by omega)).trans hn1
  rw [hn1] at HWI
  have HOP := Lib.hid (fun (X : World) (hX : Only none_ w X) => open_far B dg d vd X (h.keep hX) hon hko hfo)
  rw [hrec] at HOP
  have HBL := Lib.hid (fun (X : World) (hX : Only none_ B X) => rp_blank B site o X hX ho (by simp only [stSite, decide_eq_true_eq]; omega))
  have HROK : Hid (∀ k s, k ≤ l.length → opF (l.take k) (blankS o site (opD d) l.length) = some s → Rky s) := fun k s hk hh => opF_rok hh (by simp; omega) hd ⟨by omega, by omega⟩
  have HL := Lib.hid hl
  have HLN : Hid (l.length ≤ 60) := hlen
  have HDK := Lib.hid h
  obtain ⟨L, hL⟩ : ∃ L, l.length = L := ⟨_, rfl⟩
  have HLL := Lib.hid hL
  obtain ⟨s0, hs0⟩ : ∃ s0, blankS o site (opD d) L = s0 := ⟨_, rfl⟩
  rw [hL] at HROK HLN ⊢
  have HS0 := Lib.hid hs0
  rw [hs0] at HROK ⊢
  obtain ⟨D, hD⟩ : ∃ D, opD d = D := ⟨_, rfl⟩
  rw [hD] at HOP HS0 ⊢
  clear h hon hko hfo hrec hl hlen ho hs hd hok hrc hwi hn1 hL hs0 hD
  obtain ⟨on, oq, or, ot1, ot2⟩ := o
  dsimp only at HCK HBL O0 B0 hw1 ⊢
  have p0 := five_of B0.out
  generalize hPost : OpP B w dg vd D (opF l s0) = QQ
  have HQ := Lib.hid hPost
  clear hPost
  go_enter Tryz.func15, Tryz.ntmps15
  go_upto_region 11 with (first
    | (go_at_call 18; refine (HCK.out _).mono ?_; rintro E w1 ⟨rfl, o1⟩
       have O1 := Lib.hid (O0.out.trans o1)
       have B1 := Lib.hid (B0.out.only o1 (fun h => h))
       have p1 := five_of B1.out
       clear o1)
    | (go_at_call 62; with_reducible refine (HWI.out _).mono ?_; rintro E w1' ⟨rfl, rfl⟩)
    | (go_at_call 63; refine (HOP.out _ O1.out).mono ?_; rintro E w2 ⟨j, m, vl, v', rfl, f2⟩
       obtain ⟨F1, F2, F3, F4, F5, F6, F7, F8, F9⟩ := f2
       rw [List.length_map, HLL.out] at F4
       obtain ⟨A, c, hv⟩ := F5.shape
       rw [List.length_map, HLL.out] at hv
       subst hv
       have J2 := Lib.hid F4
       have L2 : Hid (Lst w2 w.heap.size (fun b => w.heap.size ≤ b ∧ b < m) (.slice A L c) (l.map encB)) := (F5.based O1.out.size).mono (fun b _ hb => ⟨Nat.le_trans O1.out.size hb.1, hb.2⟩)
       have D2 := Lib.hid F7
       have NM : Hid (w.heap.size ≤ m ∧ m ≤ j ∧ j < w2.heap.size) := ⟨Nat.le_trans O1.out.size F1, F2, F3⟩
       have V2 := Lib.hid (And.intro F6 F9)
       have O2 : Hid (Only (foot dg vd) w w2) := O1.out.of_none.trans' F8 (fun _ _ h => h)
       have B2 := Lib.hid (B1.out.only F8 (fun e => by rcases e with e | e
                                                       · have h1 := HDK.out.bk.lt; have e' : w.heap.size = dg := e; omega
                                                       · have h1 := (HDK.out.ow.lt _ e).2; omega))
       have p2 := five_of B2.out
       clear F1 F2 F3 F4 F5 F6 F7 F8 F9)
    | (go_at_call 64; refine (HBL.out _ D2.out.ho).mono ?_; rintro E w3 ⟨a0, rfl, K3⟩
       have hr11 := K3.bk.cell_ (i := 11) rfl
       have hf11 := K3.bk.frozen 11
       have hr12 := (K3.bk.set_ 11 (.pointer (some ⟨dg, 0, none⟩))).cell_ (i := 12) rfl
       have hf12 := (K3.bk.set_ 11 (.pointer (some ⟨dg, 0, none⟩))).frozen 12
       have R4 := Lib.hid (Rp.of_blank K3 D2.out J2.out (by have h1 := NM.out; have h2 := HDK.out.ho.size; omega))
       have K4 := Lib.hid K3
       clear K3))
  have R5 := R4.out
  rw [HS0.out] at R5
  have HD0 : Hid (∀ k s, opF (l.take k) s0 = some s → s.D = D) := fun k s hh => by rw [← HS0.out] at hh; exact opF_D hh
  have Z0 : Hid (Oz B w dg vd m a0.r (.slice A L c) l 0 s0 ((w3.setCell ⟨a0.r, 11, none⟩ (.pointer (some ⟨dg, 0, none⟩))).setCell ⟨a0.r, 12, none⟩ (.pointer (some ⟨j, 0, none⟩)))) := by
    have hge := K4.out.ge 0 a0.r (by decide) rfl
    have oS : Only (one a0.r) w3 ((w3.setCell ⟨a0.r, 11, none⟩ (.pointer (some ⟨dg, 0, none⟩))).setCell ⟨a0.r, 12, none⟩ (.pointer (some ⟨j, 0, none⟩))) := ((Only.refl (one a0.r) w3).setCell (.inl (show one a0.r a0.r from rfl)) _).setCell (.inl (show one a0.r a0.r from rfl)) _
    have o24 : Only none_ w2 _ := K4.out.o.trans' oS (fun k hk e => by have e' : k = a0.r := e; omega)
    refine ⟨⟨_, s0, R5, rfl, rfl, rfl, ?_⟩, L2.out.keep o24, O2.out.trans' o24 (fun _ _ h => h.elim), by have h1 := NM.out; have h2 := o24.size; omega⟩
    rintro b ⟨i, hi⟩
    have hn := NM.out
    match i, hi with
    | 0, hi => exact .inr (by have := (K4.out.ge 0 b (by decide) hi).1; omega)
    | 1, hi => exact .inr (by have := (K4.out.ge 1 b (by decide) hi).1; omega)
    | 2, hi => exact .inr (by have := (K4.out.ge 2 b (by decide) hi).1; omega)
    | 3, hi => exact .inr (by have := (K4.out.ge 3 b (by decide) hi).1; omega)
    | 4, hi => exact .inr (by have := (K4.out.ge 4 b (by decide) hi).1; omega)
    | 5, hi => exact .inr (by have := (K4.out.ge 5 b (by decide) hi).1; omega)
    | 6, hi =>
      rcases hi with e | e
      · exact .inl (.inl e)
      · exact (V2.out.2 b e).imp (fun e => .inr e) id
    | 7, hi => exact .inr (by have e' : b = j := hi; omega)
    | _ + 8, hi => exact hi.elim
  generalize (w3.setCell ⟨a0.r, 11, none⟩ (.pointer (some ⟨dg, 0, none⟩))).setCell ⟨a0.r, 12, none⟩ (.pointer (some ⟨j, 0, none⟩)) = w4 at Z0 R4 R5 ⊢
  have HFT : Hid (∀ b, foot dg vd b → b < w.heap.size) := fun b hb => (HDK.out.foot_ge hb).2
  have HVB : Hid (∀ b, (Value.slice A L c).ownBlock = some b → w.heap.size ≤ b ∧ b < m) := fun b hb => ⟨(L2.out.own_lt b hb).1, V2.out.1 b hb⟩
  generalize a0.r = r at Z0 ⊢
  clear R4 R5 K4 hr11 hf11 hr12 hf12 p0 p1 p2 B0 B1 B2 O0 O1 J2 D2 L2 V2 O2 HOP HBL HCK HWI hw1 HS0
  go_wp2_with fail
  go_loopw [49] (fun i X => ∃ k : Nat, k ≤ L ∧ i = .int .i64 (k : Int) ∧ Oz B w dg vd m r (.slice A L c) l k s0 X) (fun i _ => L - (intOf i).toNat)
  case atStart => exact ⟨0, Nat.zero_le _, rfl, Z0.out⟩
  case round =>
    obtain ⟨k, hk, rfl, hz⟩ := hrel
    have HZ := Lib.hid hz
    obtain ⟨a, s, hR, har, hdg, hop, hfar⟩ := hz.ex
    have HRR := Lib.hid hR
    have HAR := Lib.hid har
    have HDG := Lib.hid hdg
    have HFA := Lib.hid hfar
    have ok := HROK.out k s hk hop
    have hL60 : L ≤ 60 := HLN.out
    by_cases hlt : k < L
    · obtain ⟨x, hx⟩ : ∃ x, l[k]? = some x := ⟨l[k]'(by have := HLL.out; omega), List.getElem?_eq_getElem _⟩
      have hxc := HL.out x (List.mem_of_getElem? hx)
      obtain ⟨hkl, hxl⟩ := List.getElem?_eq_some_iff.1 hx
      obtain ⟨b, A1, L1, c1, rfl, hcell, hp, hL1, hbyt⟩ := hz.l.cell k hlt
      have hpx : (l.map encB)[k]'hp = encB x := by rw [List.getElem_map, hxl]
      rw [hpx] at hbyt
      have hat := opF_at hx hop
      have HRC := Lib.hid (by
        have := rp_recall B a s x A1 L1 c1 _ wr hR hbyt hxc ok
        rw [har] at this
        exact this)
      cases hf : fullM s.o s.tab x.k with
      | true =>
        rw [hf, if_pos rfl, if_pos rfl] at HRC
        have HFN := Lib.hid (hat.2 hf)
        have HDD := Lib.hid (HD0.out k s hop)
        clear hz hR har hdg hop hfar ok hx hxc hkl hxl hp hL1 hpx hat hbyt hf
        go_wp2_with (first
          | (go_at_call 65; refine HRC.out.mono ?_; rintro E w5 ⟨rfl, L5⟩
             have K5 := Lib.hid L5
             clear L5))
        obtain ⟨a5, r5, o5, f5, e5, d5⟩ := K5.out
        rw [← HQ.out, HFN.out]
        have hD5 := r5.dk
        rw [HDD.out, d5, HDG.out] at hD5
        refine OpP.no rfl hD5 (HZ.out.o.trans' o5 (fun b hb hb2 => ?_)) (fun b hb => ?_)
        · rcases HFA.out b hb2 with h1 | h1
          · exact h1
          · have := NM.out; omega
        · have h6 : ft a5 6 b := by show foot a5.dg a5.vd b; rw [d5, HDG.out]; exact hb
          rcases f5 b ⟨6, h6⟩ with h1 | h1
          · exact (HFA.out b h1).imp id (fun h => by have := NM.out; omega)
          · have := HZ.out.o.size; exact .inr (by omega)
      | false =>
        rw [hf, if_neg (by simp), if_neg (by simp)] at HRC
        have hat1 := hat.1
        rw [hf, if_neg (by simp)] at hat1
        have HAT := Lib.hid hat1
        clear hz hR har hdg hop hfar ok hx hxc hkl hxl hp hL1 hpx hat hbyt hf hat1
        go_wp2_with (first
          | (go_at_call 65; refine HRC.out.mono ?_; rintro E w5 ⟨rfl, L5⟩
             have K5 := Lib.hid L5
             clear L5))
        go_roundw
        case rel =>
          obtain ⟨a5, r5, o5, f5, e5, d5⟩ := K5.out
          refine ⟨k + 1, by omega, by go_num, ⟨a5, _, r5, e5.trans HAR.out, d5.trans HDG.out, HAT.out, fun b hb => ?_⟩, HZ.out.l.only o5 (fun b hb hf => ?_) (fun b hb hf => ?_), HZ.out.o.trans' o5 (fun b hb hb2 => ?_), ?_⟩
          · rcases f5 b hb with h1 | h1
            · exact HFA.out b h1
            · exact .inr (Nat.le_trans HZ.out.sz h1)
          · rcases HFA.out b hf with h1 | h1
            · have := HFT.out b h1; have := (HVB.out b hb).1; omega
            · have := (HVB.out b hb).2; omega
          · rcases HFA.out b hf with h1 | h1
            · have := HFT.out b h1; have := hb.1; omega
            · have := hb.2; omega
          · rcases HFA.out b hb2 with h1 | h1
            · exact h1
            · have := NM.out; omega
          · exact Nat.le_trans HZ.out.sz o5.size
        case measure => simp [intOf]; omega
    · obtain rfl : k = L := by omega
      have hfin : opF l s0 = some s := by rw [← hop, ← HLL.out, List.take_length]
      have HFN := Lib.hid hfin
      clear hz hR har hdg hop hfar ok hfin
      go_wp2_with fail
      rw [← HQ.out, HFN.out]
      exact OpP.yes (a := a) (by rw [HAR.out]; rfl) HRR.out HDG.out HZ.out.o (fun b hb => (HFA.out b hb).imp id (fun h => by have := NM.out; omega))
end Go.Proofs.YtoohpcomnhfgpaaGreat
end
section
namespace Go.Proofs.YtoohpcomnhfgpaaGreat
open Go.RowKit
set_option maxRecDepth 100000
set_option linter.all false
section
variable {s : Rs} {x : En}
theorem dn_o : (dnR s x).1.o = s.o ∧ (dnR s x).1.site = s.site := by
  unfold dnR
  split
  · rw [downS_is]; exact ⟨rfl, rfl⟩
  · exact ⟨rfl, rfl⟩
theorem nx_o : (nxR s x).1.o = s.o ∧ (nxR s x).1.site = s.site := by
  unfold nxR
  split
  · exact ⟨rfl, rfl⟩
  · exact dn_o (s := { s with c := s.c + 1 })
theorem wr_o {k : ByteArray} : (wrR s k x).1.o = s.o ∧ (wrR s k x).1.site = s.site := by
  unfold wrR
  split
  · exact ⟨rfl, rfl⟩
  · exact nx_o
theorem put_o {k v : ByteArray} : (putRs s k v).1.o = s.o ∧ (putRs s k v).1.site = s.site := by
  unfold putRs
  split
  · exact ⟨rfl, rfl⟩
  · exact wr_o
theorem del_o {k : ByteArray} : (delRs s k).1.o = s.o ∧ (delRs s k).1.site = s.site := by
  unfold delRs
  split
  · exact ⟨rfl, rfl⟩
  · split
    · exact ⟨rfl, rfl⟩
    · exact wr_o
theorem tk_o {kind : Int} {q : Rs × En × Int} : (tkR kind q).1 = q.1 := by unfold tkR; split <;> rfl
theorem tq_o : (tqR s x).1.o = s.o ∧ (tqR s x).1.site = s.site := by
  unfold tqR
  split
  · rw [tk_o]; exact nx_o
  · rw [tk_o]; exact dn_o
theorem mg_o : (mgR s x).1.o = s.o ∧ (mgR s x).1.site = s.site := by
  unfold mgR
  split
  · exact ⟨rfl, rfl⟩
  · split
    · exact ⟨rfl, rfl⟩
    · split
      · exact ⟨rfl, rfl⟩
      · split
        · exact ⟨rfl, rfl⟩
        · exact tq_o (s := seeS s x)
end
theorem wf_blank {o : Ro} {site : Int} (ho : roBad o = false) (hs : 0 ≤ site ∧ site < o.n) : Wf [] (blankS o site (dvOf []) 0) :=
  ⟨ho, hs, (List.Pairwise.nil : RisE []), (fun e (h : e ∈ ([] : List En)) => by cases h), ⟨Int.le_refl 0, (by decide : (0 : Int) ≤ 4294967295)⟩, (by have := ro_room ho; show ((0 : Nat) : Int) ≤ roRoom o; omega), rfl, List.Perm.refl [], (List.Pairwise.nil : RisE []), (fun e (h : e ∈ ([] : List En)) => by cases h), (List.Pairwise.nil : RisK []), rfl, rfl, (fun e (h : e ∈ ([] : List En)) => by cases h), Nat.le_refl _, Nat.le_refl _, (fun e (h : e ∈ ([] : List En)) => by cases h)⟩
def oEx : Ro := ⟨2, 4, 1, 0, 0⟩
def xEx : En := ⟨⟨#[97]⟩, ⟨#[]⟩, true, ⟨9, 1⟩, ⟨9, 1⟩, 1, 0⟩
def mEx1 : Rr := putR 0 oEx rmZero ⟨#[97]⟩ ⟨#[49]⟩ 0
def mEx2 : Mr := mergeR 0 oEx mEx1.m xEx 0
def mEx3 : Rr := putR 0 oEx mEx2.m ⟨#[97]⟩ ⟨#[50]⟩ 0
theorem ex1 : mEx1.z = 0 := by kernel_rfl
theorem ex2 : mEx2.kind = 1 ∧ mEx2.z = 0 := ⟨by kernel_rfl, by kernel_rfl⟩
theorem ex3 : mEx3.z = 0 ∧ mEx3.e.s.c = 10 ∧ mEx3.e.s.s = 0 := ⟨by kernel_rfl, by kernel_rfl, by kernel_rfl⟩
theorem ex_all : ∃ s1 s2 s3 e1 e2 l1 l2, let s0 := blankS oEx 0 (dvOf []) 0
    putRs s0 ⟨#[97]⟩ ⟨#[49]⟩ = (s1, e1, 0) ∧ Wf l1 s1 ∧ l1.length ≤ 1 ∧ mgR s1 xEx = (s2, 1, e2, 0) ∧ Wf l2 s2 ∧ l2.length ≤ 2 ∧ putRs s2 ⟨#[97]⟩ ⟨#[50]⟩ = (s3, mEx3.e, 0) := by
  obtain ⟨s0, hs0⟩ : ∃ s0, blankS oEx 0 (dvOf []) 0 = s0 := ⟨_, rfl⟩
  have w0 : Wf [] s0 := by rw [← hs0]; exact wf_blank (by decide) (by decide)
  have o0 : s0.o = oEx := by rw [← hs0]; rfl
  have i0 : s0.site = 0 := by rw [← hs0]; rfl
  have m0 : toM s0 [] = rmZero := by rw [← hs0]; rfl
  have f1 := w0.pt (Nat.zero_le _) ⟨#[97]⟩ ⟨#[49]⟩
  rw [o0, i0, m0] at f1
  have f1' : Fitw [] mEx1 (putRs s0 ⟨#[97]⟩ ⟨#[49]⟩) := f1
  have p1 := put_o (s := s0) (k := ⟨#[97]⟩) (v := ⟨#[49]⟩)
  obtain ⟨⟨s1, e1, z1⟩, hq1⟩ : ∃ q, putRs s0 ⟨#[97]⟩ ⟨#[49]⟩ = q := ⟨_, rfl⟩
  rw [hq1] at f1' p1
  obtain ⟨⟨l1, w1, g1, m1⟩, _, z1'⟩ := f1'
  have z1'' : z1 = 0 := by rw [ex1] at z1'; exact z1'.symm
  have g1' : l1.length ≤ 1 := g1
  have m1' : mEx1.m = toM s1 l1 := m1
  have o1 : s1.o = oEx := p1.1.trans o0
  have i1 : s1.site = 0 := p1.2.trans i0
  have w1' : Wf l1 s1 := w1
  have f2 := w1'.mg (by omega) xEx
  rw [o1, i1, ← m1'] at f2
  have f2' : Fit l1 mEx2 (mgR s1 xEx) := f2
  have p2 := mg_o (s := s1) (x := xEx)
  obtain ⟨⟨s2, k2, e2, z2⟩, hq2⟩ : ∃ q, mgR s1 xEx = q := ⟨_, rfl⟩
  rw [hq2] at f2' p2
  obtain ⟨⟨l2, w2, g2, m2⟩, k2', _, z2'⟩ := f2'
  have k2'' : k2 = 1 := by rw [ex2.1] at k2'; exact k2'.symm
  have z2'' : z2 = 0 := by rw [ex2.2] at z2'; exact z2'.symm
  have g2' : l2.length ≤ l1.length + 1 := g2
  have m2' : mEx2.m = toM s2 l2 := m2
  have o2 : s2.o = oEx := p2.1.trans o1
  have i2 : s2.site = 0 := p2.2.trans i1
  have w2' : Wf l2 s2 := w2
  have f3 := w2'.pt (by omega) ⟨#[97]⟩ ⟨#[50]⟩
  rw [o2, i2, ← m2'] at f3
  have f3' : Fitw l2 mEx3 (putRs s2 ⟨#[97]⟩ ⟨#[50]⟩) := f3
  obtain ⟨⟨s3, e3, z3⟩, hq3⟩ : ∃ q, putRs s2 ⟨#[97]⟩ ⟨#[50]⟩ = q := ⟨_, rfl⟩
  rw [hq3] at f3'
  obtain ⟨_, e3', z3'⟩ := f3'
  have e3'' : e3 = mEx3.e := e3'.symm
  have z3'' : z3 = 0 := by rw [ex3.1] at z3'; exact z3'.symm
  subst z1'' k2'' z2'' e3'' z3''
  rw [hs0]
  exact ⟨s1, s2, s3, e1, e2, l1, l2, hq1, w1', g1', hq2, w2', by omega, hq3⟩
def Pu (B w0 : World) (a0 : Ra) (s : Rs) (e : En) (z : Int) (u v : Value) (X : World) : Prop := ∃ a n, u = .pointer (some ⟨n, 0, none⟩) ∧ v = .int .i64 z ∧ w0.heap.size ≤ n ∧ Cy B a0 w0 a s X ∧ Bn a n 82 #[.string e.k, .string e.v, .bool e.d, .int .i64 e.s.c, .int .i64 e.s.s, .int .i64 e.a.c, .int .i64 e.a.s, .int .i64 e.p, .int .i64 e.g] X
theorem Pu.ahead {B w0 X : World} {a0 a : Ra} {s : Rs} {e x : En} {z : Int} {n : Nat} (c : Cy B a0 w0 a s X) (b : Bn a n 82 #[.string x.k, .string x.v, .bool x.d, .int .i64 x.s.c, .int .i64 x.s.s, .int .i64 x.a.c, .int .i64 x.a.s, .int .i64 x.p, .int .i64 x.g] X) (hn : w0.heap.size ≤ n) : Pu B w0 a0 s e z (.pointer (some ⟨n, 0, none⟩)) (.int .i64 z) (fill9 X n (.string e.k) (.string e.v) (.bool e.d) (.int .i64 e.s.c) (.int .i64 e.s.s) (.int .i64 e.a.c) (.int .i64 e.a.s) (.int .i64 e.p) (.int .i64 e.g)) :=
  ⟨a, n, rfl, rfl, hn, c.box b hn (fill9_only (S := one n) (Only.refl _ X) (.inl (show one n n from rfl)) _ _ _ _ _ _ _ _ _), ⟨fill9_blk b.b _ _ _ _ _ _ _ _ _, b.n⟩⟩
theorem Pu.behind {B w0 X : World} {a0 a : Ra} {s : Rs} {e : En} {z : Int} (c : Cy B a0 w0 a s X) : Pu B w0 a0 s e z (.pointer (some ⟨X.heap.size, 0, none⟩)) (.int .i64 z) (X.alloc (.cells #[.string e.k, .string e.v, .bool e.d, .int .i64 e.s.c, .int .i64 e.s.s, .int .i64 e.a.c, .int .i64 e.a.s, .int .i64 e.p, .int .i64 e.g] 82)) :=
  ⟨a, _, rfl, rfl, c.o.size, c.keep ((Only.refl none_ X).alloc _), Bn.new c.r⟩
set_option maxHeartbeats 12800000 in
theorem rp_speaks (w : World) :
    Calls Tryz.prog 12 #[] w fun E w' => E = .returned (.bool true) ∧ Only none_ w w' := by
  obtain ⟨s1, s2, s3, e1, e2, l1, l2, hq1, w1, g1, hq2, w2, g2, hq3⟩ := ex_all
  obtain ⟨s0, hs0⟩ : ∃ s0, blankS oEx 0 (dvOf []) 0 = s0 := ⟨_, rfl⟩
  rw [hs0] at hq1
  have w0 : Wf [] s0 := by rw [← hs0]; exact wf_blank (by decide) (by decide)
  have HDN := Lib.hid (disk_new w w (Only.refl _ _))
  have HOP := Lib.hid (fun (g : Nat) (v : Value) (X : World) (hX : Dsk w g (dvOf []) v X) => rp_open w g (dvOf []) v 0 oEx [] X hX rfl rfl (by decide) rfl (by intro e h; cases h) (by decide) (by decide) (by decide) (by decide))
  have hop : ∀ n : Int, opF [] (blankS oEx 0 (opD (dvOf [])) n) = some (blankS oEx 0 (dvOf []) n) := fun n => by rw [(open_all [] (by intro r h; cases h)).2.1]; rfl
  rw [hop] at HOP
  have HOP2 : Hid (∀ (g : Nat) (v : Value) (X : World), Dsk w g (dvOf []) v X → Calls Tryz.prog 15 #[.int .i64 0, .agg #[.int .i64 2, .int .i64 4, .int .i64 1, .int .i64 0, .int .i64 0], .pointer (some ⟨g, 0, none⟩)] X fun E w' => ∃ a r, a.r = r ∧ E = .returned (.tuple #[.pointer (some ⟨r, 0, none⟩), .int .i64 0]) ∧ Rp w a s0 w') := by
    intro g v X hX
    refine (HOP.out g v X hX).mono ?_
    rintro E w' ⟨a, h1, h2, _⟩
    exact ⟨a, _, rfl, h1, by rw [← hs0]; exact h2⟩
  have HP1 := Lib.hid (fun (a : Ra) (X : World) (hX : Rp w a s0 X) => rp_put w a s0 ⟨#[97]⟩ ⟨#[49]⟩ X hX w0.c w0.site (w0.rky (Nat.zero_le _)))
  rw [hq1] at HP1
  have HMG := Lib.hid (fun (a : Ra) (X : World) (hX : Rp w a s1 X) => rp_merge w a s1 xEx X hX (w1.rky (by omega)) w1.gok w1.tabok)
  rw [hq2] at HMG
  have HP2 := Lib.hid (fun (a : Ra) (X : World) (hX : Rp w a s2 X) => rp_put w a s2 ⟨#[97]⟩ ⟨#[50]⟩ X hX w2.c w2.site (w2.rky (by omega)))
  rw [hq3] at HP2
  have q3 := ex3.2
  obtain ⟨e3, he3⟩ : ∃ e, mEx3.e = e := ⟨_, rfl⟩
  rw [he3] at HP2 q3
  obtain ⟨k3, v3, d3, ⟨c3, i3⟩, ⟨ac3, as3⟩, p3, g3⟩ := e3
  dsimp only at q3
  obtain ⟨rfl, rfl⟩ := q3
  obtain ⟨k1, v1, d1, ⟨c1, i1⟩, ⟨ac1, as1⟩, p1, gg1⟩ := e1
  obtain ⟨k2, v2, d2, ⟨c2, i2⟩, ⟨ac2, as2⟩, p2, gg2⟩ := e2
  clear HOP hop hq1 hq2 hq3 w0 w1 w2 g1 g2 hs0 he3
  have tok1 : True := trivial
  go_enter Tryz.func12, Tryz.ntmps12
  go_wp2_with (first
    | (go_at_call 14; refine HDN.out.mono ?_; rintro E w1 ⟨dg, rfl, _, hd, o1⟩
       have D1 := Lib.hid hd
       clear hd o1)
    | (go_at_call 15; refine (HOP2.out dg _ _ D1.out).mono ?_; rintro E w2 ⟨a, r, hr, rfl, hR⟩
       have R2 := Lib.hid hR
       clear hR)
    | (go_at_call 44; have _t := tok1; have hcall := HP1.out a _ R2.out; rw [hr] at hcall; refine hcall.mono ?_; clear hcall tok1; rintro E w3 ⟨rfl, a3, hR, o3, f3, e3, g3⟩
       have hr3 : a3.r = r := e3.trans hr
       have R3 := Lib.hid ((hR.keep ((Only.refl none_ w3).alloc (.cells #[.string (⟨k1, v1, d1, ⟨c1, i1⟩, ⟨ac1, as1⟩, p1, gg1⟩ : En).k, .string (⟨k1, v1, d1, ⟨c1, i1⟩, ⟨ac1, as1⟩, p1, gg1⟩ : En).v, .bool (⟨k1, v1, d1, ⟨c1, i1⟩, ⟨ac1, as1⟩, p1, gg1⟩ : En).d, .int .i64 (⟨k1, v1, d1, ⟨c1, i1⟩, ⟨ac1, as1⟩, p1, gg1⟩ : En).s.c, .int .i64 (⟨k1, v1, d1, ⟨c1, i1⟩, ⟨ac1, as1⟩, p1, gg1⟩ : En).s.s, .int .i64 (⟨k1, v1, d1, ⟨c1, i1⟩, ⟨ac1, as1⟩, p1, gg1⟩ : En).a.c, .int .i64 (⟨k1, v1, d1, ⟨c1, i1⟩, ⟨ac1, as1⟩, p1, gg1⟩ : En).a.s, .int .i64 (⟨k1, v1, d1, ⟨c1, i1⟩, ⟨ac1, as1⟩, p1, gg1⟩ : En).p, .int .i64 (⟨k1, v1, d1, ⟨c1, i1⟩, ⟨ac1, as1⟩, p1, gg1⟩ : En).g] 82))).keep ((Only.refl none_ _).alloc (.cells #[.int .i64 9, .int .i64 1] 80)))
       clear hR o3 f3 e3 g3)
    | (go_at_call 35; have hcall := HMG.out a3 _ R3.out; rw [hr3] at hcall; refine hcall.mono ?_; clear hcall; rintro E w5 ⟨rfl, a5, hR, o5, f5, e5, g5⟩
       have hr5 : a5.r = r := e5.trans hr3
       have R5 := Lib.hid (hR.keep ((Only.refl none_ w5).alloc (.cells #[.string (⟨k2, v2, d2, ⟨c2, i2⟩, ⟨ac2, as2⟩, p2, gg2⟩ : En).k, .string (⟨k2, v2, d2, ⟨c2, i2⟩, ⟨ac2, as2⟩, p2, gg2⟩ : En).v, .bool (⟨k2, v2, d2, ⟨c2, i2⟩, ⟨ac2, as2⟩, p2, gg2⟩ : En).d, .int .i64 (⟨k2, v2, d2, ⟨c2, i2⟩, ⟨ac2, as2⟩, p2, gg2⟩ : En).s.c, .int .i64 (⟨k2, v2, d2, ⟨c2, i2⟩, ⟨ac2, as2⟩, p2, gg2⟩ : En).s.s, .int .i64 (⟨k2, v2, d2, ⟨c2, i2⟩, ⟨ac2, as2⟩, p2, gg2⟩ : En).a.c, .int .i64 (⟨k2, v2, d2, ⟨c2, i2⟩, ⟨ac2, as2⟩, p2, gg2⟩ : En).a.s, .int .i64 (⟨k2, v2, d2, ⟨c2, i2⟩, ⟨ac2, as2⟩, p2, gg2⟩ : En).p, .int .i64 (⟨k2, v2, d2, ⟨c2, i2⟩, ⟨ac2, as2⟩, p2, gg2⟩ : En).g] 82)))
       clear hR o5 f5 e5 g5)
    | (go_at_call 44; have hcall := HP2.out a5 _ R5.out; rw [hr5] at hcall; refine hcall.mono ?_; clear hcall; rintro E w7 ⟨rfl, a7, hR, o7, f7, e7, g7⟩
       have R7 := Lib.hid (hR.keep ((Only.refl none_ w7).alloc (.cells #[.string (⟨k3, v3, d3, ⟨10, 0⟩, ⟨ac3, as3⟩, p3, g3⟩ : En).k, .string (⟨k3, v3, d3, ⟨10, 0⟩, ⟨ac3, as3⟩, p3, g3⟩ : En).v, .bool (⟨k3, v3, d3, ⟨10, 0⟩, ⟨ac3, as3⟩, p3, g3⟩ : En).d, .int .i64 (⟨k3, v3, d3, ⟨10, 0⟩, ⟨ac3, as3⟩, p3, g3⟩ : En).s.c, .int .i64 (⟨k3, v3, d3, ⟨10, 0⟩, ⟨ac3, as3⟩, p3, g3⟩ : En).s.s, .int .i64 (⟨k3, v3, d3, ⟨10, 0⟩, ⟨ac3, as3⟩, p3, g3⟩ : En).a.c, .int .i64 (⟨k3, v3, d3, ⟨10, 0⟩, ⟨ac3, as3⟩, p3, g3⟩ : En).a.s, .int .i64 (⟨k3, v3, d3, ⟨10, 0⟩, ⟨ac3, as3⟩, p3, g3⟩ : En).p, .int .i64 (⟨k3, v3, d3, ⟨10, 0⟩, ⟨ac3, as3⟩, p3, g3⟩ : En).g] 82)))
       clear hR o7 f7 e7 g7))
  go_ret
  exact ⟨rfl, R7.out.ho⟩
end Go.Proofs.YtoohpcomnhfgpaaGreat
end
section
namespace Go.Proofs.YtoohpcomnhfgpaaGreat
open Go.RowKit
set_option maxRecDepth 100000
set_option linter.all false
structure Dn (log : List En) (s1 : Rs) (x : En) (s' : Rs) : Prop where
  wf : Wf (log ++ [x]) s'
  ck : enCheck x = 0
  room : fullM s1.o s1.tab x.k = false
  o : s'.o = s1.o
  site : s'.site = s1.site
  c : s'.c = s1.c
  tab : s'.tab = setE x s1.tab
  gr : s'.gr = (buryE (enDuty x s1.site) s1.o.t2 s1.gr x).1
  own : s'.own = if x.s.s = s1.site then withK x.k s1.own else s1.own
section
variable {log : List En} {s : Rs} {x : En}
theorem Wf.down (h : Wf log s) (hl : log.length ≤ 60) (hc : enCheck x = 0) (hx : x.a.c ≤ s.c) (hf : fullM s.o s.tab x.k = false) : dnR s x = (downS s x, x, 0) ∧ Dn log s x (downS s x) := by
  obtain ⟨d1, d2, _⟩ := h.dn hl hc hx hf
  refine ⟨d1, d2, hc, hf, ?_, ?_, ?_, ?_, ?_, ?_⟩ <;> rw [downS_is]
theorem Wf.wrw (h : Wf log s) (hl : log.length ≤ 60) {k : ByteArray} (hk : x.k = k) (ha : x.a.c = s.c + 1) (hc : s.c < 4294967295 → enCheck x = 0) :
    (∃ z, z ≠ 0 ∧ wrR s k x = (s, enZero, z)) ∨ (s.c < 4294967295 ∧ wrR s k x = (downS { s with c := s.c + 1 } x, x, 0) ∧ Dn log { s with c := s.c + 1 } x (downS { s with c := s.c + 1 } x) ∧ (hasK s.own k = true ∨ (s.own.length : Int) < s.o.q)) := by
  unfold wrR
  by_cases hb : ((!hasK s.own k && decide (s.o.q ≤ (s.own.length : Int))) || fullM s.o s.tab k) = true
  · rw [if_pos hb]
    exact .inl ⟨7, by decide, rfl⟩
  · rw [if_neg hb]
    unfold nxR
    by_cases hcc : s.c = 4294967295
    · rw [if_pos hcc]
      exact .inl ⟨8, by decide, rfl⟩
    · rw [if_neg hcc]
      have hcl : s.c < 4294967295 := by have := h.c; omega
      have hb2 : (hasK s.own k = true ∨ (s.own.length : Int) < s.o.q) ∧ fullM s.o s.tab k = false := by
        simp only [Bool.or_eq_true, Bool.and_eq_true, Bool.not_eq_true', decide_eq_true_eq, not_or, not_and] at hb
        refine ⟨?_, by simpa using hb.2⟩
        cases hh : hasK s.own k with
        | true => exact .inl rfl
        | false => exact .inr (by have := hb.1 hh; omega)
      obtain ⟨d1, d2⟩ := (h.next hcl).down (x := x) hl (hc hcl) (by show x.a.c ≤ s.c + 1; omega) (by rw [hk]; exact hb2.2)
      exact .inr ⟨hcl, d1, d2, hb2.1⟩
theorem Wf.ptw (h : Wf log s) (hl : log.length ≤ 60) (k v : ByteArray) :
    (∃ z, z ≠ 0 ∧ putRs s k v = (s, enZero, z)) ∨ (s.c < 4294967295 ∧ putRs s k v = (downS { s with c := s.c + 1 } (putE k v ⟨s.c + 1, s.site⟩), putE k v ⟨s.c + 1, s.site⟩, 0) ∧ Dn log { s with c := s.c + 1 } (putE k v ⟨s.c + 1, s.site⟩) (downS { s with c := s.c + 1 } (putE k v ⟨s.c + 1, s.site⟩)) ∧ (hasK s.own k = true ∨ (s.own.length : Int) < s.o.q)) := by
  unfold putRs
  by_cases hc : enCheck (putE k v ⟨1, s.site⟩) = 0
  · rw [if_neg (fun e => e hc)]
    exact h.wrw hl (x := putE k v ⟨s.c + 1, s.site⟩) rfl rfl fun hlt => (put_check k v (good_next h.site h.c.1 hlt) (good_one h.site)).trans hc
  · rw [if_pos hc]
    exact .inl ⟨_, hc, rfl⟩
theorem Wf.dlw (h : Wf log s) (hl : log.length ≤ 60) (k : ByteArray) :
    (∃ z, z ≠ 0 ∧ delRs s k = (s, enZero, z)) ∨ (s.c < 4294967295 ∧ liveM s.tab k = true ∧ ∃ x, x = delE k ⟨s.c + 1, s.site⟩ (enKeepers s.site s.o.r s.o.n) ∧ delRs s k = (downS { s with c := s.c + 1 } x, x, 0) ∧ Dn log { s with c := s.c + 1 } x (downS { s with c := s.c + 1 } x) ∧ (hasK s.own k = true ∨ (s.own.length : Int) < s.o.q)) := by
  have ho := ro_ok h.o
  have hp := keepers_ok ho.1 h.si ho.2.2.1
  unfold delRs
  by_cases hc : enCheck (delE k ⟨1, s.site⟩ (enKeepers s.site s.o.r s.o.n)) = 0
  · rw [if_neg (fun e => e hc)]
    cases hv : liveM s.tab k with
    | false => rw [if_pos rfl]; exact .inl ⟨3, by decide, rfl⟩
    | true =>
      rw [if_neg (by decide)]
      rcases h.wrw hl (x := delE k ⟨s.c + 1, s.site⟩ (enKeepers s.site s.o.r s.o.n)) (k := k) rfl rfl (fun hlt => by
        rw [del_put k (good_next h.site h.c.1 hlt) hp, put_check k ⟨#[]⟩ (good_next h.site h.c.1 hlt) (good_one h.site)]
        rwa [del_put k (good_one h.site) hp] at hc) with h1 | ⟨h1, h2, h3, h4⟩
      · exact .inl h1
      · exact .inr ⟨h1, rfl, _, rfl, h2, h3, h4⟩
  · rw [if_pos hc]
    exact .inl ⟨_, hc, rfl⟩
inductive MgW (log : List En) (s : Rs) (x : En) : Prop
  | bad (z : Int) (hz : z ≠ 0) (e : mgR s x = (s, 0, enZero, z)) (hc : enCheck x = z)
  | old (hc : enCheck x = 0) (hn : newsM s.tab x = false) (e : mgR s x = ({ seeS s x with tab := youngM s.o s.tab x }, 0, enZero, 0)) (wf : Wf log { seeS s x with tab := youngM s.o s.tab x })
  | not (z : Int) (hc : enCheck x = 0) (e : mgR s x = (seeS s x, 0, enZero, z)) (wf : Wf log (seeS s x))
  | woken (hc : enCheck x = 0) (hn : newsM s.tab x = true) (y q : En) (hy : lookE s.gr x.k = some y) (hov : stLater y.s x.s = true) (hcl : (seeS s x).c < 4294967295) (e : mgR s x = (downS { seeS s x with c := (seeS s x).c + 1 } q, 2, q, 0)) (hq : q.k = x.k ∧ q.s = y.s ∧ q.a = ⟨(seeS s x).c + 1, s.site⟩ ∧ q.d = true ∧ q.g = 0)
      (dn : Dn log { seeS s x with c := (seeS s x).c + 1 } q (downS { seeS s x with c := (seeS s x).c + 1 } q))
  | taken (hc : enCheck x = 0) (hn : newsM s.tab x = true) (hlt : lateM s.o x = false) (hov : overE s.gr x = false) (e : mgR s x = (downS (seeS s x) { x with g := ageM s.o s.tab x }, 1, { x with g := ageM s.o s.tab x }, 0))
      (dn : Dn log (seeS s x) { x with g := ageM s.o s.tab x } (downS (seeS s x) { x with g := ageM s.o s.tab x }))
theorem Wf.mgw (h : Wf log s) (hl : log.length ≤ 60) (x : En) : MgW log s x := by
  by_cases hc : enCheck x = 0
  · have e0 : mgR s x = if newsM s.tab x = false then ({ seeS s x with tab := youngM s.o s.tab x }, 0, enZero, 0) else if lateM s.o x = true then (seeS s x, 0, enZero, 0) else if fullM s.o s.tab x.k = true then (seeS s x, 0, enZero, 7) else tqR (seeS s x) x := by
      unfold mgR; rw [if_neg (fun e => e hc)]
    obtain ⟨h1, hx⟩ := h.see hc
    cases hn : newsM s.tab x with
    | false => rw [hn, if_pos rfl] at e0; exact .old hc hn e0 (h1.young hc)
    | true =>
      rw [hn, if_neg (by decide)] at e0
      cases ht : lateM s.o x with
      | true => rw [ht, if_pos rfl] at e0; exact .not 0 hc e0 h1
      | false =>
        rw [ht, if_neg (by decide)] at e0
        cases hf : fullM s.o s.tab x.k with
        | true => rw [hf, if_pos rfl] at e0; exact .not 7 hc e0 h1
        | false =>
          rw [hf, if_neg (by decide)] at e0
          unfold tqR at e0
          have eg : (seeS s x).gr = s.gr := rfl
          have et : (seeS s x).tab = s.tab := rfl
          have eo : (seeS s x).o = s.o := rfl
          have es : (seeS s x).site = s.site := rfl
          rw [eg, et, eo] at e0
          cases hov : overE s.gr x with
          | false =>
            rw [hov, if_neg (by decide)] at e0
            have hac := age_check (ro_ok h.o).2.2.2.1 hc ht h.tabok
            obtain ⟨d1, d2⟩ := h1.down (x := { x with g := ageM s.o s.tab x }) hl hac hx (by rw [eo, et]; exact hf)
            rw [d1, tk_yes] at e0
            exact .taken hc hn ht hov e0 d2
          | true =>
            rw [hov, if_pos rfl] at e0
            obtain ⟨y, hy⟩ := over_some hov
            obtain ⟨hym, hyk⟩ := look_some hy
            have hg := h1.g y (by rw [eg]; exact hym)
            unfold nxR at e0
            by_cases hcc : (seeS s x).c = 4294967295
            · rw [if_pos hcc, tk_no] at e0
              exact .not 8 hc e0 h1
            · rw [if_neg hcc] at e0
              have hcl : (seeS s x).c < 4294967295 := by have := h1.c; omega
              have hgn := good_next h1.site h1.c.1 hcl
              have hw := wake_ok hg.1 hg.2.1 hgn (show y.a.c < (seeS s x).c + 1 by have := hg.2.2; omega)
              have hlt : stLater ⟨(seeS s x).c + 1, (seeS s x).site⟩ y.a = true := (later_def _ _).2 (.inl (by have := hg.2.2; show y.a.c < (seeS s x).c + 1; omega))
              have hwk : wkE (seeS s x) x.k = (enWake y ⟨(seeS s x).c + 1, (seeS s x).site⟩).1 := by
                unfold wkE
                rw [eg, hy]; rfl
              have hwe : (enWake y ⟨(seeS s x).c + 1, (seeS s x).site⟩).1 = { y with a := ⟨(seeS s x).c + 1, (seeS s x).site⟩, g := 0 } := by
                unfold enWake
                rw [if_pos hg.1, if_pos (by rw [hg.2.1, hgn, hlt]; rfl)]
              rw [hwe] at hwk hw
              rw [hwk] at e0
              obtain ⟨d1, d2⟩ := (h1.next hcl).down (x := { y with a := ⟨(seeS s x).c + 1, (seeS s x).site⟩, g := 0 }) hl hw.2.1 (Int.le_refl _) (by show fullM s.o s.tab y.k = false; rw [hyk]; exact hf)
              rw [d1, tk_yes] at e0
              have hov2 : stLater y.s x.s = true := by
                unfold overE at hov
                rw [show (s.gr.find? fun e => decide (e.k = x.k)) = some y from hy] at hov
                exact hov
              exact .woken hc hn y _ hy hov2 hcl e0 ⟨hyk, rfl, rfl, hg.2.1, rfl⟩ d2
  · refine .bad (enCheck x) hc ?_ rfl
    unfold mgR; rw [if_pos hc]
end
end Go.Proofs.YtoohpcomnhfgpaaGreat
end
section
namespace Go.Proofs.YtoohpcomnhfgpaaGreat
open Go.RowKit
set_option maxRecDepth 100000
set_option linter.all false
theorem rcS_new {s : Rs} {x : En} (hn : newsM s.tab x = true) : rcS s x = ⟨s.o, s.site, seeC s.c x.a, setE x s.tab, s.z + (hsh x - hsh ((lookE s.tab x.k).getD enZero)), putM s.mks (mkOf x), (buryE (enDuty x s.site) s.o.t2 s.gr x).1, if x.s.s = s.site then withK x.k s.own else s.own, s.D, s.n⟩ := by
  unfold rcS
  rw [if_pos hn]
  simp only [noteS, placeS, seeS]
  congr
theorem rcS_old {s : Rs} {x : En} (hn : newsM s.tab x = false) : rcS s x = ⟨s.o, s.site, seeC s.c x.a, s.tab, s.z, s.mks, (buryE (enDuty x s.site) s.o.t2 s.gr x).1, if x.s.s = s.site then withK x.k s.own else s.own, s.D, s.n⟩ := by
  unfold rcS
  rw [if_neg (by rw [hn]; simp)]
  simp only [noteS, seeS]
  congr
theorem Wf.rc {L pre : List En} {s : Rs} {x : En} (h : Wf L s) (hc : enCheck x = 0) (ht : s.tab.length + 1 ≤ L.length) (hg : s.gr.length + 1 ≤ L.length) (hf : fullM s.o s.tab x.k = false) :
    Wf L (rcS s x) ∧ toM (rcS s x) (pre ++ [x]) = recallM s.site s.o (toM s pre) x := by
  obtain ⟨h1, hx⟩ := h.see hc
  have hsl := set_len h.ris x
  have hlen : ((setE x s.tab).length : Int) ≤ roRoom s.o := by
    have h1 := h.len
    rw [hsl]
    unfold fullM at hf
    cases he : hasE s.tab x.k with
    | true => simpa using h1
    | false =>
      rw [he] at hf
      simp at hf
      simp; omega
  have hgl := len_bury (enDuty x s.site) s.o.t2 s.gr x
  have hmk := marks_set h.mks x
  have hz : s.z + (hsh x - hsh ((lookE s.tab x.k).getD enZero)) = sumH (setE x s.tab) := by rw [sum_set h.ris x, h.z]
  have hgr := ris_bury h.gris (enDuty x s.site) s.o.t2 x
  have hgg : ∀ y ∈ (buryE (enDuty x s.site) s.o.t2 s.gr x).1, enCheck y = 0 ∧ y.d = true ∧ y.a.c ≤ seeC s.c x.a := gr_bury (site := s.site) (t2 := s.o.t2) h1.g hx
  have hgt2 := gt_bury (x := x) (duty := enDuty x s.site) h.gt
  have hri := risE_set h.ris x
  have htl := setE_len x s.tab
  have hcc : 0 ≤ seeC s.c x.a ∧ seeC s.c x.a ≤ 4294967295 := h1.c
  have hold : ∀ e ∈ s.tab, enCheck e = 0 ∧ e.a.c ≤ seeC s.c x.a := h1.chk
  have hchk : ∀ e ∈ setE x s.tab, enCheck e = 0 ∧ e.a.c ≤ seeC s.c x.a := by
    intro e he
    rcases mem_set he with rfl | ⟨h2, _⟩
    · exact ⟨hc, hx⟩
    · exact hold e h2
  have how : RisK (if x.s.s = s.site then withK x.k s.own else s.own) := by
    split
    · exact ris_withK h.own
    · exact h.own
  have ho := h.o
  have hsi := h.si
  have hlg := h.lg
  have hD := h.D
  have hn := h.n
  have hris := h.ris
  have hll := h.len
  have hzz := h.z
  have hmm := h.mks
  have htt := h.tl
  cases hw : newsM s.tab x with
  | true =>
    have hto : toM (rcS s x) (pre ++ [x]) = recallM s.site s.o (toM s pre) x := by
      rw [rcS_new hw]
      unfold newsM at hw
      simp only [toM, recallM, noteM]
      cases hl : lookE s.tab x.k with
      | none => rfl
      | some was =>
        rw [hl] at hw
        simp only
        rw [if_pos hw]
    refine ⟨?_, hto⟩
    rw [rcS_new hw]
    clear hto hw h1 h hx
    generalize setE x s.tab = tab at *
    generalize s.z + (hsh x - hsh ((lookE s.tab x.k).getD enZero)) = z at *
    generalize putM s.mks (mkOf x) = mk at *
    generalize (buryE (enDuty x s.site) s.o.t2 s.gr x).1 = gr at *
    generalize (if x.s.s = s.site then withK x.k s.own else s.own) = own at *
    generalize seeC s.c x.a = cc at *
    exact ⟨ho, hsi, hri, hchk, hcc, hlen, hz, hmk, hgr, hgg, how, hD, hn, hlg, by dsimp only; omega, by dsimp only; omega, hgt2⟩
  | false =>
    have hto : toM (rcS s x) (pre ++ [x]) = recallM s.site s.o (toM s pre) x := by
      rw [rcS_old hw]
      unfold newsM at hw
      simp only [toM, recallM, noteM]
      cases hl : lookE s.tab x.k with
      | none => rw [hl] at hw; cases hw
      | some was =>
        rw [hl] at hw
        have hw2 : ¬ enNewer x was = true := by have h3 : enNewer x was = false := hw; rw [h3]; simp
        simp only
        rw [if_neg hw2]
    refine ⟨?_, hto⟩
    rw [rcS_old hw]
    clear hto hw h1 h hx
    generalize (buryE (enDuty x s.site) s.o.t2 s.gr x).1 = gr at *
    generalize (if x.s.s = s.site then withK x.k s.own else s.own) = own at *
    generalize seeC s.c x.a = cc at *
    exact ⟨ho, hsi, hris, hold, hcc, hll, hzz, hmm, hgr, hgg, how, hD, hn, hlg, htt, by dsimp only; omega, hgt2⟩
theorem Wf.op {L : List En} : ∀ (l pre : List En) (s : Rs), L = pre ++ l → Wf L s → s.tab.length ≤ pre.length → s.gr.length ≤ pre.length → (∀ e ∈ l, enCheck e = 0) →
    match opF l s with
    | none => openM s.site s.o l (toM s pre) = none
    | some s' => Wf L s' ∧ openM s.site s.o l (toM s pre) = some (toM s' L) ∧ s'.o = s.o ∧ s'.site = s.site
  | [], pre, s, hL, h, _, _, _ => by
    rw [List.append_nil] at hL
    subst hL
    exact ⟨h, rfl, rfl, rfl⟩
  | x :: l, pre, s, hL, h, ht, hg, hc => by
    have hLl : L.length = pre.length + (l.length + 1) := by rw [hL, List.length_append, List.length_cons]
    have hcx := hc x List.mem_cons_self
    have eO : opF (x :: l) s = if fullM s.o s.tab x.k = true then none else opF l (rcS s x) := rfl
    have eM : openM s.site s.o (x :: l) (toM s pre) = if fullM s.o s.tab x.k = true then none else openM s.site s.o l (recallM s.site s.o (toM s pre) x) := rfl
    rw [eO, eM]
    cases hf : fullM s.o s.tab x.k with
    | true => rw [if_pos rfl, if_pos rfl]
    | false =>
      have n3 : ¬ false = true := by decide
      rw [if_neg n3, if_neg n3]
      obtain ⟨h1, h2⟩ := h.rc (pre := pre) hcx (by omega) (by omega) hf
      have hi := rc_inv s x
      have htl : (rcS s x).tab.length ≤ (pre ++ [x]).length := by
        rw [List.length_append, List.length_singleton]
        cases hw : newsM s.tab x with
        | true => rw [rcS_new hw]; have := setE_len x s.tab; show (setE x s.tab).length ≤ _; omega
        | false => rw [rcS_old hw]; show s.tab.length ≤ _; omega
      have hgl : (rcS s x).gr.length ≤ (pre ++ [x]).length := by
        rw [List.length_append, List.length_singleton]
        have := hi.2.1; omega
      have ih := Wf.op l (pre ++ [x]) (rcS s x) (by rw [hL, List.append_assoc]; rfl) h1 htl hgl (fun e he => hc e (List.mem_cons_of_mem _ he))
      rw [h2, hi.2.2.2.2.2.1, hi.2.2.2.2.2.2] at ih
      exact ih
theorem wf_blankL {o : Ro} {site : Int} {L : List En} (ho : roBad o = false) (hs : 0 ≤ site ∧ site < o.n) (hl : ∀ e ∈ L, enCheck e = 0) : Wf L (blankS o site (dvOf (L.map encB)) L.length) :=
  ⟨ho, hs, (List.Pairwise.nil : RisE []), (fun e (h : e ∈ ([] : List En)) => by cases h), ⟨Int.le_refl 0, (by decide : (0 : Int) ≤ 4294967295)⟩, (by have := ro_room ho; show ((0 : Nat) : Int) ≤ roRoom o; omega), rfl, List.Perm.refl [], (List.Pairwise.nil : RisE []), (fun e (h : e ∈ ([] : List En)) => by cases h), (List.Pairwise.nil : RisK []), rfl, rfl, hl, Nat.zero_le _, Nat.zero_le _, (fun e (h : e ∈ ([] : List En)) => by cases h)⟩
theorem Wf.open {o : Ro} {site : Int} {L : List En} (ho : roBad o = false) (hs : 0 ≤ site ∧ site < o.n) (hl : ∀ e ∈ L, enCheck e = 0) :
    match opF L (blankS o site (dvOf (L.map encB)) L.length) with
    | none => openM site o L rmZero = none
    | some s' => Wf L s' ∧ openM site o L rmZero = some (toM s' L) ∧ s'.o = o ∧ s'.site = site :=
  Wf.op L [] _ rfl (wf_blankL ho hs hl) (Nat.zero_le _) (Nat.zero_le _) hl
end Go.Proofs.YtoohpcomnhfgpaaGreat
end
