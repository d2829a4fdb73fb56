/- Texts of mine, one behind the other: EnN, RpNa, RpNb, RpY, RpSp, RpGs, RpFw, StEo, EnEo. No statement of the seat is proved here. -/
import Derived.Test.YtoohpcomnhfgpaaGreatHn1
import Derived.Test.YtoohpcomnhfgpaaGreatHn18
import Derived.Test.YtoohpcomnhfgpaaGreatHn13
import Derived.Test.YtoohpcomnhfgpaaGreatHn16
import Derived.Deep.DeepCutAuto
import Derived.Test.YtoohpcomnhfgpaaGreatHn12
import Derived.Test.YtoohpcomnhfgpaaGreatHn8
import Derived.Test.YtoohpcomnhfgpaaGreatHn5
import Derived.Test.YtoohpcomnhfgpaaGreatHn2
import Derived.LoopTactic
section
namespace Go.Proofs.YtoohpcomnhfgpaaGreat
set_option maxRecDepth 100000
def nwP (x y : En) : Prop := y.s.c < x.s.c ∨ (x.s.c = y.s.c ∧ y.s.s < x.s.s) ∨ (x.s.c = y.s.c ∧ x.s.s = y.s.s ∧ (y.a.c < x.a.c ∨ (x.a.c = y.a.c ∧ y.a.s < x.a.s)))
theorem newer_def (x y : En) : enNewer x y = true ↔ nwP x y := by
  unfold enNewer nwP
  by_cases h : stEq x.s y.s = true
  · rw [if_pos h, later_def]
    rw [stEq_iff] at h
    rw [h]
    omega
  · rw [if_neg h, later_def]
    have h1 : ¬ (x.s.c = y.s.c ∧ x.s.s = y.s.s) := fun e => h ((stEq_iff _ _).2 (St.eq e.1 e.2))
    omega
theorem newer_no (x y : En) : enNewer x y = false ↔ ¬ nwP x y := by
  rw [← newer_def]
  cases enNewer x y <;> simp
end Go.Proofs.YtoohpcomnhfgpaaGreat
end
section
namespace Go.Proofs.YtoohpcomnhfgpaaGreat
open Go.RowKit
set_option maxRecDepth 100000
set_option linter.all false
theorem alike_age (y : En) (g : Int) : enAlike y { y with g := g } = true := by
  unfold enAlike enEq
  simp [stEq_refl]
structure Nw (seen : List En) (s : Rs) : Prop where
  t1 : s.o.t1 = 0
  t2 : s.o.t2 = 0
  gr : s.gr = []
  g : ∀ e ∈ s.tab, e.g = 0
  no : ∀ k, lookE s.tab k = none → ∀ x ∈ seen, enCheck x = 0 → x.k ≠ k
  ex : ∀ k e, lookE s.tab k = some e → e.k = k ∧ (∃ y ∈ seen, enCheck y = 0 ∧ e = { y with g := 0 }) ∧ ∀ x ∈ seen, enCheck x = 0 → x.k = k → enNewer x e = false
theorem Nw.start {s : Rs} (h1 : s.o.t1 = 0) (h2 : s.o.t2 = 0) (hg : s.gr = []) (ht : s.tab = []) : Nw [] s :=
  ⟨h1, h2, hg, by rw [ht]; simp, by simp, by rw [ht]; intro k e h; cases h⟩
theorem age_zero {o : Ro} {l : List En} {x : En} (h : o.t1 = 0) : ageM o l x = 0 := by
  unfold ageM; rw [if_pos (.inr h)]
theorem mem_snoc {α : Type} {l : List α} {x y : α} : y ∈ l ++ [x] ↔ y ∈ l ∨ y = x := by simp
theorem Nw.step {seen log : List En} {s : Rs} (h : Nw seen s) (wf : Wf log s) (hl : log.length ≤ 60) (hr : 60 < roRoom s.o) (x : En) :
    (mgR s x).2.2.2 = enCheck x ∧ Nw (seen ++ [x]) (mgR s x).1 ∧ (mgR s x).1.o = s.o ∧ (mgR s x).1.site = s.site := by
  unfold mgR
  by_cases hc : enCheck x = 0
  · have n1 : ¬ enCheck x ≠ 0 := fun e => e hc
    rw [if_neg n1]
    have hag : ageM s.o s.tab x = 0 := age_zero h.t1
    cases hn : newsM s.tab x with
    | false =>
      rw [if_pos rfl]
      have hy : youngM s.o s.tab x = s.tab := by
        unfold youngM
        cases hw : lookE s.tab x.k with
        | none => rfl
        | some was =>
          have hm := (look_some hw).1
          have : ({ was with g := ageM s.o s.tab x } : En) = was := by
            rw [hag, ← h.g was hm]
          simp only
          rw [this, set_same wf.ris hm]
          split <;> rfl
      rw [hy]
      refine ⟨hc.symm, ⟨h.t1, h.t2, h.gr, h.g, ?_, ?_⟩, rfl, rfl⟩
      · intro k hk y hy hyc
        rcases mem_snoc.1 hy with hy | rfl
        · exact h.no k hk y hy hyc
        · intro e
          unfold newsM at hn
          rw [e, show lookE s.tab k = none from hk] at hn
          cases hn
      · intro k e he
        have he' : lookE s.tab k = some e := he
        obtain ⟨a1, ⟨y, a2, a3, a4⟩, a5⟩ := h.ex k e he
        refine ⟨a1, ⟨y, mem_snoc.2 (.inl a2), a3, a4⟩, fun z hz hzc hzk => ?_⟩
        rcases mem_snoc.1 hz with hz | rfl
        · exact a5 z hz hzc hzk
        · unfold newsM at hn
          rw [hzk, he'] at hn
          exact hn
    | true =>
      have n2 : ¬ true = false := by decide
      have n3 : ¬ false = true := by decide
      have ht : lateM s.o x = false := by unfold lateM; rw [decide_eq_true h.t1]; simp
      have hf : fullM s.o s.tab x.k = false := by
        have := wf.tl
        unfold fullM
        rw [decide_eq_false (by omega), Bool.and_false]
      have hov : overE (seeS s x).gr x = false := by show overE s.gr x = false; rw [h.gr]; rfl
      rw [if_neg n2, ht, if_neg n3, hf, if_neg n3]
      unfold tqR
      rw [hov, if_neg n3]
      have hag2 : ageM (seeS s x).o (seeS s x).tab x = 0 := age_zero h.t1
      rw [hag2]
      obtain ⟨w1, hx⟩ := wf.see hc
      have hck : enCheck { x with g := 0 } = 0 := by
        have := age_check (ro_ok wf.o).2.2.2.1 hc ht wf.tabok
        rwa [hag] at this
      obtain ⟨y, hy⟩ : ∃ y, ({ x with g := 0 } : En) = y := ⟨_, rfl⟩
      have hyk : y.k = x.k := by rw [← hy]
      have hya : y.a = x.a := by rw [← hy]
      have hys : y.s = x.s := by rw [← hy]
      have hyg : y.g = 0 := by rw [← hy]
      rw [hy] at hck ⊢
      obtain ⟨s1, hs1⟩ : ∃ s1, seeS s x = s1 := ⟨_, rfl⟩
      have f1 : s1.o = s.o := by rw [← hs1]; rfl
      have f2 : s1.tab = s.tab := by rw [← hs1]; rfl
      have f3 : s1.site = s.site := by rw [← hs1]; rfl
      have f4 : s1.gr = [] := by rw [← hs1]; exact h.gr
      rw [hs1] at w1 hx ⊢
      obtain ⟨d1, d2, d3⟩ := w1.dn (x := y) hl hck (by rw [hya]; exact hx) (by rw [f1, f2, hyk]; exact hf)
      have e1 : (downS s1 y).tab = setE y s.tab := by rw [downS_is, f2]
      have e2 : (downS s1 y).o = s.o := by rw [downS_is, f1]
      have e3 : (downS s1 y).site = s.site := by rw [downS_is, f3]
      have e4 : (downS s1 y).gr = [] := by
        rw [downS_is]
        show (buryE (enDuty y s1.site) s1.o.t2 s1.gr y).1 = []
        rw [f4, f1, h.t2, bury_off (takes_none (fun hd => by simp only [enDuty, Bool.and_eq_true] at hd; exact hd.1.1))]
      rw [d1, tk_yes]
      generalize downS s1 y = q at *
      refine ⟨hc.symm, ⟨by rw [e2]; exact h.t1, by rw [e2]; exact h.t2, e4, ?_, ?_, ?_⟩, e2, e3⟩
      · rw [e1]
        intro e he
        rcases mem_set he with rfl | ⟨h1, _⟩
        · exact hyg
        · exact h.g e h1
      · intro k hk z hz hzc hzk
        rw [e1, look_set wf.ris y k] at hk
        split at hk
        · cases hk
        · next hyk' =>
          rcases mem_snoc.1 hz with hz | rfl
          · exact h.no k hk z hz hzc hzk
          · exact hyk' (hyk.trans hzk)
      · intro k e he
        rw [e1, look_set wf.ris y k] at he
        split at he
        · next hyk' =>
          injection he with he
          subst he
          refine ⟨hyk', ⟨x, mem_snoc.2 (.inr rfl), hc, hy.symm⟩, fun z hz hzc hzk => ?_⟩
          rw [newer_no]
          rcases mem_snoc.1 hz with hz | rfl
          · unfold newsM at hn
            have hxk : x.k = k := hyk.symm.trans hyk'
            rw [hxk] at hn
            cases hw : lookE s.tab k with
            | none => exact absurd hzk (h.no k hw z hz hzc)
            | some was =>
              rw [hw] at hn
              have h1 := (newer_def x was).1 hn
              have h2 := (newer_no z was).1 ((h.ex k was hw).2.2 z hz hzc hzk)
              unfold nwP at *
              rw [hys, hya]
              omega
          · unfold nwP
            rw [hys, hya]
            omega
        · obtain ⟨a1, ⟨y', a2, a3, a4⟩, a5⟩ := h.ex k e he
          next hyk' =>
          refine ⟨a1, ⟨y', mem_snoc.2 (.inl a2), a3, a4⟩, fun z hz hzc hzk => ?_⟩
          rcases mem_snoc.1 hz with hz | rfl
          · exact a5 z hz hzc hzk
          · exact absurd (hyk.trans hzk) hyk'
  · rw [if_pos hc]
    refine ⟨rfl, ⟨h.t1, h.t2, h.gr, h.g, ?_, ?_⟩, rfl, rfl⟩
    · intro k hk z hz hzc
      rcases mem_snoc.1 hz with hz | rfl
      · exact h.no k hk z hz hzc
      · exact absurd hzc hc
    · intro k e he
      obtain ⟨a1, ⟨y', a2, a3, a4⟩, a5⟩ := h.ex k e he
      refine ⟨a1, ⟨y', mem_snoc.2 (.inl a2), a3, a4⟩, fun z hz hzc hzk => ?_⟩
      rcases mem_snoc.1 hz with hz | rfl
      · exact a5 z hz hzc hzk
      · exact absurd hzc hc
theorem Nw.both {l m : List En} {s t : Rs} (h1 : Nw l s) (h2 : Nw m t) (hm : ∀ x, x ∈ l ↔ x ∈ m) {x : En} (hx : x ∈ l) (hc : enCheck x = 0) :
    ∃ e f, lookE s.tab x.k = some e ∧ lookE t.tab x.k = some f ∧ e.s = f.s ∧ e.a = f.a ∧ e.g = 0 ∧ f.g = 0 ∧ enNewer x e = false ∧ ∃ y ∈ l, enCheck y = 0 ∧ enAlike y e = true := by
  cases he : lookE s.tab x.k with
  | none => exact absurd rfl (h1.no x.k he x hx hc)
  | some e =>
    cases hf : lookE t.tab x.k with
    | none => exact absurd rfl (h2.no x.k hf x ((hm x).1 hx) hc)
    | some f =>
      obtain ⟨a1, ⟨y, a2, a3, a4⟩, a5⟩ := h1.ex _ _ he
      obtain ⟨b1, ⟨z, b2, b3, b4⟩, b5⟩ := h2.ex _ _ hf
      have hyk : y.k = x.k := by rw [a4] at a1; exact a1
      have hzk : z.k = x.k := by rw [b4] at b1; exact b1
      have c1 := (newer_no _ _).1 (a5 z ((hm z).2 b2) b3 hzk)
      have c2 := (newer_no _ _).1 (b5 y ((hm y).1 a2) a3 hyk)
      have es : e.s = y.s := by rw [a4]
      have ea : e.a = y.a := by rw [a4]
      have fs : f.s = z.s := by rw [b4]
      have fa : f.a = z.a := by rw [b4]
      unfold nwP at c1 c2
      rw [← fs, ← fa] at c1
      rw [← es, ← ea] at c2
      refine ⟨e, f, rfl, rfl, St.eq (by omega) (by omega), St.eq (by omega) (by omega), by rw [a4], by rw [b4], a5 x hx hc rfl, y, a2, a3, ?_⟩
      rw [a4]; exact alike_age y 0
theorem Nw.len {l m : List En} {s t : Rs} (h1 : Nw l s) (h2 : Nw m t) (hm : ∀ x, x ∈ l ↔ x ∈ m) (r1 : RisE s.tab) (r2 : RisE t.tab) : s.tab.length = t.tab.length := by
  have key : ∀ k, (lookE s.tab k).map triE = (lookE t.tab k).map triE := by
    intro k
    cases he : lookE s.tab k with
    | none =>
      cases hf : lookE t.tab k with
      | none => rfl
      | some f =>
        obtain ⟨b1, ⟨z, b2, b3, b4⟩, _⟩ := h2.ex _ _ hf
        exact absurd (by rw [b4] at b1; exact b1) (h1.no k he z ((hm z).2 b2) b3)
    | some e =>
      obtain ⟨a1, ⟨y, a2, a3, a4⟩, _⟩ := h1.ex _ _ he
      have hyk : y.k = k := by rw [a4] at a1; exact a1
      obtain ⟨e', f', q1, q2, q3, q4, q5, q6, _⟩ := h1.both h2 hm a2 a3
      rw [hyk, he] at q1
      injection q1 with q1
      subst q1
      rw [hyk] at q2
      rw [q2]
      simp only [Option.map_some, triE, q3, q4, q5, q6]
  have := congrArg List.length (ris_same r1 r2 key)
  simpa using this
end Go.Proofs.YtoohpcomnhfgpaaGreat
end
section
namespace Go.Proofs.YtoohpcomnhfgpaaGreat
open Go.RowKit
set_option maxRecDepth 100000
set_option linter.all false
structure N2 (B : World) (a1 : Ra) (s1 : Rs) (a2 : Ra) (s2 : Rs) (X : World) : Prop where
  x : Rp B a1 s1 X
  y : Rp B a2 s2 X
  ap : ∀ k, allF a1 k → ¬ allF a2 k
section
variable {B X X' : World} {a1 a2 : Ra} {s1 s2 s' : Rs}
theorem N2.keep (h : N2 B a1 s1 a2 s2 X) (o : Only none_ X X') : N2 B a1 s1 a2 s2 X' := ⟨h.x.keep o, h.y.keep o, h.ap⟩
theorem N2.swap (h : N2 B a1 s1 a2 s2 X) : N2 B a2 s2 a1 s1 X := ⟨h.y, h.x, fun k h2 h1 => h.ap k h1 h2⟩
theorem N2.left (h : N2 B a1 s1 a2 s2 X) (L : LeftP B a1 X s' X') : ∃ a', N2 B a' s' a2 s2 X' ∧ a'.r = a1.r := by
  obtain ⟨a', r, o, f, e, d⟩ := L
  refine ⟨a', ⟨r, h.y.apart o (fun k h2 h1 => h.ap k h1 h2) (fun k hk => (h.x.all_ge hk).1), fun k h1 h2 => ?_⟩, e⟩
  rcases f k h1 with h3 | h3
  · exact h.ap k h3 h2
  · have := (h.y.all_ge h2).2; omega
end
def ordI (L t i : Nat) : Nat := (L - 1 - i + t) % L
theorem ord_lt {L t i : Nat} (h : i < L) : ordI L t i < L := Nat.mod_lt _ (by omega)
theorem ord_all {L t p : Nat} (h : p < L) : ∃ i, i < L ∧ ordI L t i = p := by
  refine ⟨(L - 1 + t + L - p) % L, Nat.mod_lt _ (by omega), ?_⟩
  have h1 := Nat.div_add_mod (L - 1 + t + L - p) L
  have h2 : (L - 1 + t + L - p) % L < L := Nat.mod_lt _ (by omega)
  have h3 : 1 ≤ (L - 1 + t + L - p) / L := (Nat.one_le_div_iff (by omega)).2 (by omega)
  obtain ⟨q, hq⟩ : ∃ q, (L - 1 + t + L - p) / L = q + 1 := ⟨_, (Nat.sub_add_cancel h3).symm⟩
  obtain ⟨i, hi⟩ : ∃ i, (L - 1 + t + L - p) % L = i := ⟨_, rfl⟩
  rw [hq, hi, Nat.mul_add, Nat.mul_one] at h1
  rw [hi] at h2 ⊢
  unfold ordI
  have h4 : L - 1 - i + t = p + L * q := by omega
  rw [h4, Nat.add_mul_mod_self_left, Nat.mod_eq_of_lt h]
def ordL (l : List En) (t n : Nat) : List En := (List.range n).filterMap fun j => l[ordI l.length t j]?
theorem ordL_succ {l : List En} {t n : Nat} {x : En} (h : l[ordI l.length t n]? = some x) : ordL l t (n + 1) = ordL l t n ++ [x] := by
  unfold ordL
  rw [List.range_succ, List.filterMap_append, List.filterMap_cons, h, List.filterMap_nil]
theorem mem_ordL (l : List En) (t : Nat) (x : En) : x ∈ l ↔ x ∈ ordL l t l.length := by
  unfold ordL
  rw [List.mem_filterMap]
  constructor
  · intro hx
    obtain ⟨p, hp, he⟩ := List.getElem_of_mem hx
    obtain ⟨i, hi, hpi⟩ := ord_all (t := t) hp
    exact ⟨i, List.mem_range.2 hi, by rw [hpi, List.getElem?_eq_getElem hp, he]⟩
  · rintro ⟨i, _, h⟩
    exact List.mem_of_getElem? h
theorem ord_go {L t i : Nat} (h : i < L) : Int.tmod ((L : Int) - 1 - (i : Int) + (t : Int)) (L : Int) = (ordI L t i : Int) := by
  have : (L : Int) - 1 - (i : Int) + (t : Int) = ((L - 1 - i + t : Nat) : Int) := by omega
  rw [this]; rfl
end Go.Proofs.YtoohpcomnhfgpaaGreat
end
section
namespace Go.Proofs.YtoohpcomnhfgpaaGreat
open Go.RowKit
set_option maxRecDepth 100000
set_option linter.all false
def OpP (B w : World) (dg : Nat) (vd : Value) (D : Dv) (res : Option Rs) (E : Ending) (w' : World) : Prop := match res with
  | none => E = .returned (.tuple #[.pointer none, .int .i64 12]) ∧ ∃ v', Dsk B dg D v' w' ∧ Only (foot dg vd) w w' ∧ ∀ k, foot dg v' k → foot dg vd k ∨ w.heap.size ≤ k
  | some s => ∃ a, E = .returned (.tuple #[.pointer (some ⟨a.r, 0, none⟩), .int .i64 0]) ∧ Rp B a s w' ∧ a.dg = dg ∧ Only (foot dg vd) w w' ∧ ∀ k, allF a k → foot dg vd k ∨ w.heap.size ≤ k
structure Oz (B w : World) (dg : Nat) (vd : Value) (m r : Nat) (vl : Value) (l : List En) (k : Nat) (s0 : Rs) (X : World) : Prop where
  ex : ∃ a s, Rp B a s X ∧ a.r = r ∧ a.dg = dg ∧ opF (l.take k) s0 = some s ∧ ∀ b, allF a b → foot dg vd b ∨ m ≤ b
  l : Lst X w.heap.size (fun b => w.heap.size ≤ b ∧ b < m) vl (l.map encB)
  o : Only (foot dg vd) w X
  sz : m ≤ X.heap.size
theorem opF_at {l : List En} {k : Nat} {x : En} {s0 s : Rs} (hx : l[k]? = some x) (h : opF (l.take k) s0 = some s) : opF (l.take (k + 1)) s0 = (if fullM s.o s.tab x.k = true then none else some (rcS s x)) ∧ (fullM s.o s.tab x.k = true → opF l s0 = none) := by
  obtain ⟨hk, hb⟩ := List.getElem?_eq_some_iff.1 hx
  have h1 : opF (l.take (k + 1)) s0 = (if fullM s.o s.tab x.k = true then none else some (rcS s x)) := by
    rw [List.take_succ_eq_append_getElem hk, opF_app, h, hb]; rfl
  refine ⟨h1, fun hf => ?_⟩
  rw [if_pos hf] at h1
  have h2 : l = l.take (k + 1) ++ l.drop (k + 1) := (List.take_append_drop _ _).symm
  rw [h2, opF_app, h1]; rfl
theorem OpP.yes {B w w' : World} {dg : Nat} {vd : Value} {D : Dv} {s : Rs} {E : Ending} {a : Ra} (h1 : E = .returned (.tuple #[.pointer (some ⟨a.r, 0, none⟩), .int .i64 0])) (h2 : Rp B a s w') (h3 : a.dg = dg) (h4 : Only (foot dg vd) w w') (h5 : ∀ k, allF a k → foot dg vd k ∨ w.heap.size ≤ k) : OpP B w dg vd D (some s) E w' := ⟨a, h1, h2, h3, h4, h5⟩
theorem OpP.no {B w w' : World} {dg : Nat} {vd v' : Value} {D : Dv} {E : Ending} (h1 : E = .returned (.tuple #[.pointer none, .int .i64 12])) (h2 : Dsk B dg D v' w') (h4 : Only (foot dg vd) w w') (h5 : ∀ k, foot dg v' k → foot dg vd k ∨ w.heap.size ≤ k) : OpP B w dg vd D none E w' := ⟨h1, v', h2, h4, h5⟩
theorem opF_D {l : List En} {o : Ro} {site : Int} {D : Dv} {n : Int} {s : Rs} (h : opF l (blankS o site D n) = some s) : s.D = D := (opF_inv l _ _ h).2.2.2.1
set_option maxHeartbeats 51200000 in
theorem rp_open (B : World) (dg : Nat) (d : Dv) (vd : Value) (site : Int) (o : Ro) (l : List En) (w : World) (h : Dsk B dg d vd w) (hon : d.on = true) (hko : (jnRead d.bs).2.2 = 0) (hfo : d.fuse ≠ 0) (hrec : (jnRead d.bs).1 = l.map encB) (hl : ∀ e ∈ l, enCheck e = 0) (hlen : l.length ≤ 60)
    (ho : roBad o = false) (hs : 0 ≤ site ∧ site < o.n) (hd : (opD d).bs.length + 100 ≤ 1048576) :
    Calls Tryz.prog 15 #[.int .i64 site, .agg #[.int .i64 o.n, .int .i64 o.q, .int .i64 o.r, .int .i64 o.t1, .int .i64 o.t2], .pointer (some ⟨dg, 0, none⟩)] w fun E w' => OpP B w dg vd (opD d) (opF l (blankS o site (opD d) l.length)) E w' := by
  have hok := ro_ok ho
  have O0 := Lib.hid ((Only.refl none_ w).alloc (.cells #[.int .i64 o.n, .int .i64 o.q, .int .i64 o.r, .int .i64 o.t1, .int .i64 o.t2] 33))
  have B0 := Lib.hid (Blk.new w 33 #[.int .i64 o.n, .int .i64 o.q, .int .i64 o.r, .int .i64 o.t1, .int .i64 o.t2])
  have HCK := Lib.hid (fun X => rp_check o X)
  have hrc : roCheck o = 0 := by unfold roCheck; rw [ho]; rfl
  rw [hrc] at HCK
  have HWI := Lib.hid (fun X => rp_within site 0 (o.n - 1) X)
  have hwi : decide (0 ≤ site ∧ site ≤ o.n - 1) = true := by rw [decide_eq_true_eq]; omega
  rw [hwi] at HWI
  obtain ⟨n1, hn1⟩ : ∃ y, o.n - 1 = y := ⟨_, rfl⟩
  have hw1 : IntKind.i64.wrap (o.n - 1) = n1 := (IntWalk.i64_in _ (by omega)).trans hn1
  rw [hn1] at HWI
  have HOP := Lib.hid (fun (X : World) (hX : Only none_ w X) => open_far B dg d vd X (h.keep hX) hon hko hfo)
  rw [hrec] at HOP
  have HBL := Lib.hid (fun (X : World) (hX : Only none_ B X) => rp_blank B site o X hX ho (by simp only [stSite, decide_eq_true_eq]; omega))
  have HROK : Hid (∀ k s, k ≤ l.length → opF (l.take k) (blankS o site (opD d) l.length) = some s → Rky s) := fun k s hk hh => opF_rok hh (by simp; omega) hd ⟨by omega, by omega⟩
  have HL := Lib.hid hl
  have HLN : Hid (l.length ≤ 60) := hlen
  have HDK := Lib.hid h
  obtain ⟨L, hL⟩ : ∃ L, l.length = L := ⟨_, rfl⟩
  have HLL := Lib.hid hL
  obtain ⟨s0, hs0⟩ : ∃ s0, blankS o site (opD d) L = s0 := ⟨_, rfl⟩
  rw [hL] at HROK HLN ⊢
  have HS0 := Lib.hid hs0
  rw [hs0] at HROK ⊢
  obtain ⟨D, hD⟩ : ∃ D, opD d = D := ⟨_, rfl⟩
  rw [hD] at HOP HS0 ⊢
  clear h hon hko hfo hrec hl hlen ho hs hd hok hrc hwi hn1 hL hs0 hD
  obtain ⟨on, oq, or, ot1, ot2⟩ := o
  dsimp only at HCK HBL O0 B0 hw1 ⊢
  have p0 := five_of B0.out
  generalize hPost : OpP B w dg vd D (opF l s0) = QQ
  have HQ := Lib.hid hPost
  clear hPost
  go_enter Tryz.func15, Tryz.ntmps15
  go_upto_region 11 with (first
    | (go_at_call 18; refine (HCK.out _).mono ?_; rintro E w1 ⟨rfl, o1⟩
       have O1 := Lib.hid (O0.out.trans o1)
       have B1 := Lib.hid (B0.out.only o1 (fun h => h))
       have p1 := five_of B1.out
       clear o1)
    | (go_at_call 62; with_reducible refine (HWI.out _).mono ?_; rintro E w1' ⟨rfl, rfl⟩)
    | (go_at_call 63; refine (HOP.out _ O1.out).mono ?_; rintro E w2 ⟨j, m, vl, v', rfl, f2⟩
       obtain ⟨F1, F2, F3, F4, F5, F6, F7, F8, F9⟩ := f2
       rw [List.length_map, HLL.out] at F4
       obtain ⟨A, c, hv⟩ := F5.shape
       rw [List.length_map, HLL.out] at hv
       subst hv
       have J2 := Lib.hid F4
       have L2 : Hid (Lst w2 w.heap.size (fun b => w.heap.size ≤ b ∧ b < m) (.slice A L c) (l.map encB)) := (F5.based O1.out.size).mono (fun b _ hb => ⟨Nat.le_trans O1.out.size hb.1, hb.2⟩)
       have D2 := Lib.hid F7
       have NM : Hid (w.heap.size ≤ m ∧ m ≤ j ∧ j < w2.heap.size) := ⟨Nat.le_trans O1.out.size F1, F2, F3⟩
       have V2 := Lib.hid (And.intro F6 F9)
       have O2 : Hid (Only (foot dg vd) w w2) := O1.out.of_none.trans' F8 (fun _ _ h => h)
       have B2 := Lib.hid (B1.out.only F8 (fun e => by rcases e with e | e
                                                       · have h1 := HDK.out.bk.lt; have e' : w.heap.size = dg := e; omega
                                                       · have h1 := (HDK.out.ow.lt _ e).2; omega))
       have p2 := five_of B2.out
       clear F1 F2 F3 F4 F5 F6 F7 F8 F9)
    | (go_at_call 64; refine (HBL.out _ D2.out.ho).mono ?_; rintro E w3 ⟨a0, rfl, K3⟩
       have hr11 := K3.bk.cell_ (i := 11) rfl
       have hf11 := K3.bk.frozen 11
       have hr12 := (K3.bk.set_ 11 (.pointer (some ⟨dg, 0, none⟩))).cell_ (i := 12) rfl
       have hf12 := (K3.bk.set_ 11 (.pointer (some ⟨dg, 0, none⟩))).frozen 12
       have R4 := Lib.hid (Rp.of_blank K3 D2.out J2.out (by have h1 := NM.out; have h2 := HDK.out.ho.size; omega))
       have K4 := Lib.hid K3
       clear K3))
  have R5 := R4.out
  rw [HS0.out] at R5
  have HD0 : Hid (∀ k s, opF (l.take k) s0 = some s → s.D = D) := fun k s hh => by rw [← HS0.out] at hh; exact opF_D hh
  have Z0 : Hid (Oz B w dg vd m a0.r (.slice A L c) l 0 s0 ((w3.setCell ⟨a0.r, 11, none⟩ (.pointer (some ⟨dg, 0, none⟩))).setCell ⟨a0.r, 12, none⟩ (.pointer (some ⟨j, 0, none⟩)))) := by
    have hge := K4.out.ge 0 a0.r (by decide) rfl
    have oS : Only (one a0.r) w3 ((w3.setCell ⟨a0.r, 11, none⟩ (.pointer (some ⟨dg, 0, none⟩))).setCell ⟨a0.r, 12, none⟩ (.pointer (some ⟨j, 0, none⟩))) := ((Only.refl (one a0.r) w3).setCell (.inl (show one a0.r a0.r from rfl)) _).setCell (.inl (show one a0.r a0.r from rfl)) _
    have o24 : Only none_ w2 _ := K4.out.o.trans' oS (fun k hk e => by have e' : k = a0.r := e; omega)
    refine ⟨⟨_, s0, R5, rfl, rfl, rfl, ?_⟩, L2.out.keep o24, O2.out.trans' o24 (fun _ _ h => h.elim), by have h1 := NM.out; have h2 := o24.size; omega⟩
    rintro b ⟨i, hi⟩
    have hn := NM.out
    match i, hi with
    | 0, hi => exact .inr (by have := (K4.out.ge 0 b (by decide) hi).1; omega)
    | 1, hi => exact .inr (by have := (K4.out.ge 1 b (by decide) hi).1; omega)
    | 2, hi => exact .inr (by have := (K4.out.ge 2 b (by decide) hi).1; omega)
    | 3, hi => exact .inr (by have := (K4.out.ge 3 b (by decide) hi).1; omega)
    | 4, hi => exact .inr (by have := (K4.out.ge 4 b (by decide) hi).1; omega)
    | 5, hi => exact .inr (by have := (K4.out.ge 5 b (by decide) hi).1; omega)
    | 6, hi =>
      rcases hi with e | e
      · exact .inl (.inl e)
      · exact (V2.out.2 b e).imp (fun e => .inr e) id
    | 7, hi => exact .inr (by have e' : b = j := hi; omega)
    | _ + 8, hi => exact hi.elim
  generalize (w3.setCell ⟨a0.r, 11, none⟩ (.pointer (some ⟨dg, 0, none⟩))).setCell ⟨a0.r, 12, none⟩ (.pointer (some ⟨j, 0, none⟩)) = w4 at Z0 R4 R5 ⊢
  have HFT : Hid (∀ b, foot dg vd b → b < w.heap.size) := fun b hb => (HDK.out.foot_ge hb).2
  have HVB : Hid (∀ b, (Value.slice A L c).ownBlock = some b → w.heap.size ≤ b ∧ b < m) := fun b hb => ⟨(L2.out.own_lt b hb).1, V2.out.1 b hb⟩
  generalize a0.r = r at Z0 ⊢
  clear R4 R5 K4 hr11 hf11 hr12 hf12 p0 p1 p2 B0 B1 B2 O0 O1 J2 D2 L2 V2 O2 HOP HBL HCK HWI hw1 HS0
  go_wp2_with fail
  go_loopw [49] (fun i X => ∃ k : Nat, k ≤ L ∧ i = .int .i64 (k : Int) ∧ Oz B w dg vd m r (.slice A L c) l k s0 X) (fun i _ => L - (intOf i).toNat)
  case atStart => exact ⟨0, Nat.zero_le _, rfl, Z0.out⟩
  case round =>
    obtain ⟨k, hk, rfl, hz⟩ := hrel
    have HZ := Lib.hid hz
    obtain ⟨a, s, hR, har, hdg, hop, hfar⟩ := hz.ex
    have HRR := Lib.hid hR
    have HAR := Lib.hid har
    have HDG := Lib.hid hdg
    have HFA := Lib.hid hfar
    have ok := HROK.out k s hk hop
    have hL60 : L ≤ 60 := HLN.out
    by_cases hlt : k < L
    · obtain ⟨x, hx⟩ : ∃ x, l[k]? = some x := ⟨l[k]'(by have := HLL.out; omega), List.getElem?_eq_getElem _⟩
      have hxc := HL.out x (List.mem_of_getElem? hx)
      obtain ⟨hkl, hxl⟩ := List.getElem?_eq_some_iff.1 hx
      obtain ⟨b, A1, L1, c1, rfl, hcell, hp, hL1, hbyt⟩ := hz.l.cell k hlt
      have hpx : (l.map encB)[k]'hp = encB x := by rw [List.getElem_map, hxl]
      rw [hpx] at hbyt
      have hat := opF_at hx hop
      have HRC := Lib.hid (by
        have := rp_recall B a s x A1 L1 c1 _ wr hR hbyt hxc ok
        rw [har] at this
        exact this)
      cases hf : fullM s.o s.tab x.k with
      | true =>
        rw [hf, if_pos rfl, if_pos rfl] at HRC
        have HFN := Lib.hid (hat.2 hf)
        have HDD := Lib.hid (HD0.out k s hop)
        clear hz hR har hdg hop hfar ok hx hxc hkl hxl hp hL1 hpx hat hbyt hf
        go_wp2_with (first
          | (go_at_call 65; refine HRC.out.mono ?_; rintro E w5 ⟨rfl, L5⟩
             have K5 := Lib.hid L5
             clear L5))
        obtain ⟨a5, r5, o5, f5, e5, d5⟩ := K5.out
        rw [← HQ.out, HFN.out]
        have hD5 := r5.dk
        rw [HDD.out, d5, HDG.out] at hD5
        refine OpP.no rfl hD5 (HZ.out.o.trans' o5 (fun b hb hb2 => ?_)) (fun b hb => ?_)
        · rcases HFA.out b hb2 with h1 | h1
          · exact h1
          · have := NM.out; omega
        · have h6 : ft a5 6 b := by show foot a5.dg a5.vd b; rw [d5, HDG.out]; exact hb
          rcases f5 b ⟨6, h6⟩ with h1 | h1
          · exact (HFA.out b h1).imp id (fun h => by have := NM.out; omega)
          · have := HZ.out.o.size; exact .inr (by omega)
      | false =>
        rw [hf, if_neg (by simp), if_neg (by simp)] at HRC
        have hat1 := hat.1
        rw [hf, if_neg (by simp)] at hat1
        have HAT := Lib.hid hat1
        clear hz hR har hdg hop hfar ok hx hxc hkl hxl hp hL1 hpx hat hbyt hf hat1
        go_wp2_with (first
          | (go_at_call 65; refine HRC.out.mono ?_; rintro E w5 ⟨rfl, L5⟩
             have K5 := Lib.hid L5
             clear L5))
        go_roundw
        case rel =>
          obtain ⟨a5, r5, o5, f5, e5, d5⟩ := K5.out
          refine ⟨k + 1, by omega, by go_num, ⟨a5, _, r5, e5.trans HAR.out, d5.trans HDG.out, HAT.out, fun b hb => ?_⟩, HZ.out.l.only o5 (fun b hb hf => ?_) (fun b hb hf => ?_), HZ.out.o.trans' o5 (fun b hb hb2 => ?_), ?_⟩
          · rcases f5 b hb with h1 | h1
            · exact HFA.out b h1
            · exact .inr (Nat.le_trans HZ.out.sz h1)
          · rcases HFA.out b hf with h1 | h1
            · have := HFT.out b h1; have := (HVB.out b hb).1; omega
            · have := (HVB.out b hb).2; omega
          · rcases HFA.out b hf with h1 | h1
            · have := HFT.out b h1; have := hb.1; omega
            · have := hb.2; omega
          · rcases HFA.out b hb2 with h1 | h1
            · exact h1
            · have := NM.out; omega
          · exact Nat.le_trans HZ.out.sz o5.size
        case measure => simp [intOf]; omega
    · obtain rfl : k = L := by omega
      have hfin : opF l s0 = some s := by rw [← hop, ← HLL.out, List.take_length]
      have HFN := Lib.hid hfin
      clear hz hR har hdg hop hfar ok hfin
      go_wp2_with fail
      rw [← HQ.out, HFN.out]
      exact OpP.yes (a := a) (by rw [HAR.out]; rfl) HRR.out HDG.out HZ.out.o (fun b hb => (HFA.out b hb).imp id (fun h => by have := NM.out; omega))
end Go.Proofs.YtoohpcomnhfgpaaGreat
end
section
namespace Go.Proofs.YtoohpcomnhfgpaaGreat
open Go.RowKit
set_option maxRecDepth 100000
set_option linter.all false
section
variable {s : Rs} {x : En}
theorem dn_o : (dnR s x).1.o = s.o ∧ (dnR s x).1.site = s.site := by
  unfold dnR
  split
  · rw [downS_is]; exact ⟨rfl, rfl⟩
  · exact ⟨rfl, rfl⟩
theorem nx_o : (nxR s x).1.o = s.o ∧ (nxR s x).1.site = s.site := by
  unfold nxR
  split
  · exact ⟨rfl, rfl⟩
  · exact dn_o (s := { s with c := s.c + 1 })
theorem wr_o {k : ByteArray} : (wrR s k x).1.o = s.o ∧ (wrR s k x).1.site = s.site := by
  unfold wrR
  split
  · exact ⟨rfl, rfl⟩
  · exact nx_o
theorem put_o {k v : ByteArray} : (putRs s k v).1.o = s.o ∧ (putRs s k v).1.site = s.site := by
  unfold putRs
  split
  · exact ⟨rfl, rfl⟩
  · exact wr_o
theorem tk_o {kind : Int} {q : Rs × En × Int} : (tkR kind q).1 = q.1 := by unfold tkR; split <;> rfl
theorem tq_o : (tqR s x).1.o = s.o ∧ (tqR s x).1.site = s.site := by
  unfold tqR
  split
  · rw [tk_o]; exact nx_o
  · rw [tk_o]; exact dn_o
theorem mg_o : (mgR s x).1.o = s.o ∧ (mgR s x).1.site = s.site := by
  unfold mgR
  split
  · exact ⟨rfl, rfl⟩
  · split
    · exact ⟨rfl, rfl⟩
    · split
      · exact ⟨rfl, rfl⟩
      · split
        · exact ⟨rfl, rfl⟩
        · exact tq_o (s := seeS s x)
end
theorem wf_blank {o : Ro} {site : Int} (ho : roBad o = false) (hs : 0 ≤ site ∧ site < o.n) : Wf [] (blankS o site (dvOf []) 0) :=
  ⟨ho, hs, (List.Pairwise.nil : RisE []), (fun e (h : e ∈ ([] : List En)) => by cases h), ⟨Int.le_refl 0, (by decide : (0 : Int) ≤ 4294967295)⟩, (by have := ro_room ho; show ((0 : Nat) : Int) ≤ roRoom o; omega), rfl, List.Perm.refl [], (List.Pairwise.nil : RisE []), (fun e (h : e ∈ ([] : List En)) => by cases h), (List.Pairwise.nil : RisK []), rfl, rfl, (fun e (h : e ∈ ([] : List En)) => by cases h), Nat.le_refl _, Nat.le_refl _, (fun e (h : e ∈ ([] : List En)) => by cases h)⟩
def oEx : Ro := ⟨2, 4, 1, 0, 0⟩
def xEx : En := ⟨⟨#[97]⟩, ⟨#[]⟩, true, ⟨9, 1⟩, ⟨9, 1⟩, 1, 0⟩
def mEx1 : Rr := putR 0 oEx rmZero ⟨#[97]⟩ ⟨#[49]⟩ 0
def mEx2 : Mr := mergeR 0 oEx mEx1.m xEx 0
def mEx3 : Rr := putR 0 oEx mEx2.m ⟨#[97]⟩ ⟨#[50]⟩ 0
theorem ex1 : mEx1.z = 0 := by kernel_rfl
theorem ex2 : mEx2.kind = 1 ∧ mEx2.z = 0 := ⟨by kernel_rfl, by kernel_rfl⟩
theorem ex3 : mEx3.z = 0 ∧ mEx3.e.s.c = 10 ∧ mEx3.e.s.s = 0 := ⟨by kernel_rfl, by kernel_rfl, by kernel_rfl⟩
theorem ex_all : ∃ s1 s2 s3 e1 e2 l1 l2, let s0 := blankS oEx 0 (dvOf []) 0
    putRs s0 ⟨#[97]⟩ ⟨#[49]⟩ = (s1, e1, 0) ∧ Wf l1 s1 ∧ l1.length ≤ 1 ∧ mgR s1 xEx = (s2, 1, e2, 0) ∧ Wf l2 s2 ∧ l2.length ≤ 2 ∧ putRs s2 ⟨#[97]⟩ ⟨#[50]⟩ = (s3, mEx3.e, 0) := by
  obtain ⟨s0, hs0⟩ : ∃ s0, blankS oEx 0 (dvOf []) 0 = s0 := ⟨_, rfl⟩
  have w0 : Wf [] s0 := by rw [← hs0]; exact wf_blank (by decide) (by decide)
  have o0 : s0.o = oEx := by rw [← hs0]; rfl
  have i0 : s0.site = 0 := by rw [← hs0]; rfl
  have m0 : toM s0 [] = rmZero := by rw [← hs0]; rfl
  have f1 := w0.pt (Nat.zero_le _) ⟨#[97]⟩ ⟨#[49]⟩
  rw [o0, i0, m0] at f1
  have f1' : Fitw [] mEx1 (putRs s0 ⟨#[97]⟩ ⟨#[49]⟩) := f1
  have p1 := put_o (s := s0) (k := ⟨#[97]⟩) (v := ⟨#[49]⟩)
  obtain ⟨⟨s1, e1, z1⟩, hq1⟩ : ∃ q, putRs s0 ⟨#[97]⟩ ⟨#[49]⟩ = q := ⟨_, rfl⟩
  rw [hq1] at f1' p1
  obtain ⟨⟨l1, w1, g1, m1⟩, _, z1'⟩ := f1'
  have z1'' : z1 = 0 := by rw [ex1] at z1'; exact z1'.symm
  have g1' : l1.length ≤ 1 := g1
  have m1' : mEx1.m = toM s1 l1 := m1
  have o1 : s1.o = oEx := p1.1.trans o0
  have i1 : s1.site = 0 := p1.2.trans i0
  have w1' : Wf l1 s1 := w1
  have f2 := w1'.mg (by omega) xEx
  rw [o1, i1, ← m1'] at f2
  have f2' : Fit l1 mEx2 (mgR s1 xEx) := f2
  have p2 := mg_o (s := s1) (x := xEx)
  obtain ⟨⟨s2, k2, e2, z2⟩, hq2⟩ : ∃ q, mgR s1 xEx = q := ⟨_, rfl⟩
  rw [hq2] at f2' p2
  obtain ⟨⟨l2, w2, g2, m2⟩, k2', _, z2'⟩ := f2'
  have k2'' : k2 = 1 := by rw [ex2.1] at k2'; exact k2'.symm
  have z2'' : z2 = 0 := by rw [ex2.2] at z2'; exact z2'.symm
  have g2' : l2.length ≤ l1.length + 1 := g2
  have m2' : mEx2.m = toM s2 l2 := m2
  have o2 : s2.o = oEx := p2.1.trans o1
  have i2 : s2.site = 0 := p2.2.trans i1
  have w2' : Wf l2 s2 := w2
  have f3 := w2'.pt (by omega) ⟨#[97]⟩ ⟨#[50]⟩
  rw [o2, i2, ← m2'] at f3
  have f3' : Fitw l2 mEx3 (putRs s2 ⟨#[97]⟩ ⟨#[50]⟩) := f3
  obtain ⟨⟨s3, e3, z3⟩, hq3⟩ : ∃ q, putRs s2 ⟨#[97]⟩ ⟨#[50]⟩ = q := ⟨_, rfl⟩
  rw [hq3] at f3'
  obtain ⟨_, e3', z3'⟩ := f3'
  have e3'' : e3 = mEx3.e := e3'.symm
  have z3'' : z3 = 0 := by rw [ex3.1] at z3'; exact z3'.symm
  subst z1'' k2'' z2'' e3'' z3''
  rw [hs0]
  exact ⟨s1, s2, s3, e1, e2, l1, l2, hq1, w1', g1', hq2, w2', by omega, hq3⟩
def Pu (B w0 : World) (a0 : Ra) (s : Rs) (e : En) (z : Int) (u v : Value) (X : World) : Prop := ∃ a n, u = .pointer (some ⟨n, 0, none⟩) ∧ v = .int .i64 z ∧ w0.heap.size ≤ n ∧ Cy B a0 w0 a s X ∧ Bn a n 82 #[.string e.k, .string e.v, .bool e.d, .int .i64 e.s.c, .int .i64 e.s.s, .int .i64 e.a.c, .int .i64 e.a.s, .int .i64 e.p, .int .i64 e.g] X
theorem Pu.ahead {B w0 X : World} {a0 a : Ra} {s : Rs} {e x : En} {z : Int} {n : Nat} (c : Cy B a0 w0 a s X) (b : Bn a n 82 #[.string x.k, .string x.v, .bool x.d, .int .i64 x.s.c, .int .i64 x.s.s, .int .i64 x.a.c, .int .i64 x.a.s, .int .i64 x.p, .int .i64 x.g] X) (hn : w0.heap.size ≤ n) : Pu B w0 a0 s e z (.pointer (some ⟨n, 0, none⟩)) (.int .i64 z) (fill9 X n (.string e.k) (.string e.v) (.bool e.d) (.int .i64 e.s.c) (.int .i64 e.s.s) (.int .i64 e.a.c) (.int .i64 e.a.s) (.int .i64 e.p) (.int .i64 e.g)) :=
  ⟨a, n, rfl, rfl, hn, c.box b hn (fill9_only (S := one n) (Only.refl _ X) (.inl (show one n n from rfl)) _ _ _ _ _ _ _ _ _), ⟨fill9_blk b.b _ _ _ _ _ _ _ _ _, b.n⟩⟩
theorem Pu.behind {B w0 X : World} {a0 a : Ra} {s : Rs} {e : En} {z : Int} (c : Cy B a0 w0 a s X) : Pu B w0 a0 s e z (.pointer (some ⟨X.heap.size, 0, none⟩)) (.int .i64 z) (X.alloc (.cells #[.string e.k, .string e.v, .bool e.d, .int .i64 e.s.c, .int .i64 e.s.s, .int .i64 e.a.c, .int .i64 e.a.s, .int .i64 e.p, .int .i64 e.g] 82)) :=
  ⟨a, _, rfl, rfl, c.o.size, c.keep ((Only.refl none_ X).alloc _), Bn.new c.r⟩
set_option maxHeartbeats 12800000 in
theorem rp_speaks (w : World) :
    Calls Tryz.prog 12 #[] w fun E w' => E = .returned (.bool true) ∧ Only none_ w w' := by
  obtain ⟨s1, s2, s3, e1, e2, l1, l2, hq1, w1, g1, hq2, w2, g2, hq3⟩ := ex_all
  obtain ⟨s0, hs0⟩ : ∃ s0, blankS oEx 0 (dvOf []) 0 = s0 := ⟨_, rfl⟩
  rw [hs0] at hq1
  have w0 : Wf [] s0 := by rw [← hs0]; exact wf_blank (by decide) (by decide)
  have HDN := Lib.hid (disk_new w w (Only.refl _ _))
  have HOP := Lib.hid (fun (g : Nat) (v : Value) (X : World) (hX : Dsk w g (dvOf []) v X) => rp_open w g (dvOf []) v 0 oEx [] X hX rfl rfl (by decide) rfl (by intro e h; cases h) (by decide) (by decide) (by decide) (by decide))
  have hop : ∀ n : Int, opF [] (blankS oEx 0 (opD (dvOf [])) n) = some (blankS oEx 0 (dvOf []) n) := fun n => by rw [(open_all [] (by intro r h; cases h)).2.1]; rfl
  rw [hop] at HOP
  have HOP2 : Hid (∀ (g : Nat) (v : Value) (X : World), Dsk w g (dvOf []) v X → Calls Tryz.prog 15 #[.int .i64 0, .agg #[.int .i64 2, .int .i64 4, .int .i64 1, .int .i64 0, .int .i64 0], .pointer (some ⟨g, 0, none⟩)] X fun E w' => ∃ a r, a.r = r ∧ E = .returned (.tuple #[.pointer (some ⟨r, 0, none⟩), .int .i64 0]) ∧ Rp w a s0 w') := by
    intro g v X hX
    refine (HOP.out g v X hX).mono ?_
    rintro E w' ⟨a, h1, h2, _⟩
    exact ⟨a, _, rfl, h1, by rw [← hs0]; exact h2⟩
  have HP1 := Lib.hid (fun (a : Ra) (X : World) (hX : Rp w a s0 X) => rp_put w a s0 ⟨#[97]⟩ ⟨#[49]⟩ X hX w0.c w0.site (w0.rky (Nat.zero_le _)))
  rw [hq1] at HP1
  have HMG := Lib.hid (fun (a : Ra) (X : World) (hX : Rp w a s1 X) => rp_merge w a s1 xEx X hX (w1.rky (by omega)) w1.gok w1.tabok)
  rw [hq2] at HMG
  have HP2 := Lib.hid (fun (a : Ra) (X : World) (hX : Rp w a s2 X) => rp_put w a s2 ⟨#[97]⟩ ⟨#[50]⟩ X hX w2.c w2.site (w2.rky (by omega)))
  rw [hq3] at HP2
  have q3 := ex3.2
  obtain ⟨e3, he3⟩ : ∃ e, mEx3.e = e := ⟨_, rfl⟩
  rw [he3] at HP2 q3
  obtain ⟨k3, v3, d3, ⟨c3, i3⟩, ⟨ac3, as3⟩, p3, g3⟩ := e3
  dsimp only at q3
  obtain ⟨rfl, rfl⟩ := q3
  obtain ⟨k1, v1, d1, ⟨c1, i1⟩, ⟨ac1, as1⟩, p1, gg1⟩ := e1
  obtain ⟨k2, v2, d2, ⟨c2, i2⟩, ⟨ac2, as2⟩, p2, gg2⟩ := e2
  clear HOP hop hq1 hq2 hq3 w0 w1 w2 g1 g2 hs0 he3
  have tok1 : True := trivial
  go_enter Tryz.func12, Tryz.ntmps12
  go_wp2_with (first
    | (go_at_call 14; refine HDN.out.mono ?_; rintro E w1 ⟨dg, rfl, _, hd, o1⟩
       have D1 := Lib.hid hd
       clear hd o1)
    | (go_at_call 15; refine (HOP2.out dg _ _ D1.out).mono ?_; rintro E w2 ⟨a, r, hr, rfl, hR⟩
       have R2 := Lib.hid hR
       clear hR)
    | (go_at_call 44; have _t := tok1; have hcall := HP1.out a _ R2.out; rw [hr] at hcall; refine hcall.mono ?_; clear hcall tok1; rintro E w3 ⟨rfl, a3, hR, o3, f3, e3, g3⟩
       have hr3 : a3.r = r := e3.trans hr
       have R3 := Lib.hid ((hR.keep ((Only.refl none_ w3).alloc (.cells #[.string (⟨k1, v1, d1, ⟨c1, i1⟩, ⟨ac1, as1⟩, p1, gg1⟩ : En).k, .string (⟨k1, v1, d1, ⟨c1, i1⟩, ⟨ac1, as1⟩, p1, gg1⟩ : En).v, .bool (⟨k1, v1, d1, ⟨c1, i1⟩, ⟨ac1, as1⟩, p1, gg1⟩ : En).d, .int .i64 (⟨k1, v1, d1, ⟨c1, i1⟩, ⟨ac1, as1⟩, p1, gg1⟩ : En).s.c, .int .i64 (⟨k1, v1, d1, ⟨c1, i1⟩, ⟨ac1, as1⟩, p1, gg1⟩ : En).s.s, .int .i64 (⟨k1, v1, d1, ⟨c1, i1⟩, ⟨ac1, as1⟩, p1, gg1⟩ : En).a.c, .int .i64 (⟨k1, v1, d1, ⟨c1, i1⟩, ⟨ac1, as1⟩, p1, gg1⟩ : En).a.s, .int .i64 (⟨k1, v1, d1, ⟨c1, i1⟩, ⟨ac1, as1⟩, p1, gg1⟩ : En).p, .int .i64 (⟨k1, v1, d1, ⟨c1, i1⟩, ⟨ac1, as1⟩, p1, gg1⟩ : En).g] 82))).keep ((Only.refl none_ _).alloc (.cells #[.int .i64 9, .int .i64 1] 80)))
       clear hR o3 f3 e3 g3)
    | (go_at_call 35; have hcall := HMG.out a3 _ R3.out; rw [hr3] at hcall; refine hcall.mono ?_; clear hcall; rintro E w5 ⟨rfl, a5, hR, o5, f5, e5, g5⟩
       have hr5 : a5.r = r := e5.trans hr3
       have R5 := Lib.hid (hR.keep ((Only.refl none_ w5).alloc (.cells #[.string (⟨k2, v2, d2, ⟨c2, i2⟩, ⟨ac2, as2⟩, p2, gg2⟩ : En).k, .string (⟨k2, v2, d2, ⟨c2, i2⟩, ⟨ac2, as2⟩, p2, gg2⟩ : En).v, .bool (⟨k2, v2, d2, ⟨c2, i2⟩, ⟨ac2, as2⟩, p2, gg2⟩ : En).d, .int .i64 (⟨k2, v2, d2, ⟨c2, i2⟩, ⟨ac2, as2⟩, p2, gg2⟩ : En).s.c, .int .i64 (⟨k2, v2, d2, ⟨c2, i2⟩, ⟨ac2, as2⟩, p2, gg2⟩ : En).s.s, .int .i64 (⟨k2, v2, d2, ⟨c2, i2⟩, ⟨ac2, as2⟩, p2, gg2⟩ : En).a.c, .int .i64 (⟨k2, v2, d2, ⟨c2, i2⟩, ⟨ac2, as2⟩, p2, gg2⟩ : En).a.s, .int .i64 (⟨k2, v2, d2, ⟨c2, i2⟩, ⟨ac2, as2⟩, p2, gg2⟩ : En).p, .int .i64 (⟨k2, v2, d2, ⟨c2, i2⟩, ⟨ac2, as2⟩, p2, gg2⟩ : En).g] 82)))
       clear hR o5 f5 e5 g5)
    | (go_at_call 44; have hcall := HP2.out a5 _ R5.out; rw [hr5] at hcall; refine hcall.mono ?_; clear hcall; rintro E w7 ⟨rfl, a7, hR, o7, f7, e7, g7⟩
       have R7 := Lib.hid (hR.keep ((Only.refl none_ w7).alloc (.cells #[.string (⟨k3, v3, d3, ⟨10, 0⟩, ⟨ac3, as3⟩, p3, g3⟩ : En).k, .string (⟨k3, v3, d3, ⟨10, 0⟩, ⟨ac3, as3⟩, p3, g3⟩ : En).v, .bool (⟨k3, v3, d3, ⟨10, 0⟩, ⟨ac3, as3⟩, p3, g3⟩ : En).d, .int .i64 (⟨k3, v3, d3, ⟨10, 0⟩, ⟨ac3, as3⟩, p3, g3⟩ : En).s.c, .int .i64 (⟨k3, v3, d3, ⟨10, 0⟩, ⟨ac3, as3⟩, p3, g3⟩ : En).s.s, .int .i64 (⟨k3, v3, d3, ⟨10, 0⟩, ⟨ac3, as3⟩, p3, g3⟩ : En).a.c, .int .i64 (⟨k3, v3, d3, ⟨10, 0⟩, ⟨ac3, as3⟩, p3, g3⟩ : En).a.s, .int .i64 (⟨k3, v3, d3, ⟨10, 0⟩, ⟨ac3, as3⟩, p3, g3⟩ : En).p, .int .i64 (⟨k3, v3, d3, ⟨10, 0⟩, ⟨ac3, as3⟩, p3, g3⟩ : En).g] 82)))
       clear hR o7 f7 e7 g7))
  go_ret
  exact ⟨rfl, R7.out.ho⟩
end Go.Proofs.YtoohpcomnhfgpaaGreat
end
section
namespace Go.Proofs.YtoohpcomnhfgpaaGreat
open Go.RowKit
set_option maxRecDepth 100000
theorem st_of (c s : Int) (w : World) :
    Calls Tryz.prog 80 #[.agg #[.int .i64 c, .int .i64 s]] w fun e w' => e = .returned (.agg #[.int .i64 c, .int .i64 s]) ∧ Only none_ w w' := by
  have O := Lib.hid (((Only.refl none_ w).alloc (.cells #[.int .i64 c, .int .i64 s] 48)).alloc (.cells #[.int .i64 c, .int .i64 s] 80))
  go_enter Tryz.func80, Tryz.ntmps80
  go_wp2_with fail
  exact bodyPost_ret (v := .agg #[.int .i64 c, .int .i64 s]) (by simp [results, Tryz.results80, go_sem]) rfl ⟨rfl, O.out⟩
end Go.Proofs.YtoohpcomnhfgpaaGreat
end
section
namespace Go.Proofs.YtoohpcomnhfgpaaGreat
open Go.RowKit
set_option linter.all false
set_option maxRecDepth 100000
set_option maxHeartbeats 1600000 in
theorem en_of (e : En) (w : World) :
    Calls Tryz.prog 36 #[.agg #[.string e.k, .string e.v, .bool e.d, .int .i64 e.s.c, .int .i64 e.s.s, .int .i64 e.a.c, .int .i64 e.a.s, .int .i64 e.p, .int .i64 e.g]] w fun E w' => E = .returned (.agg #[.string e.k, .string e.v, .bool e.d, .int .i64 e.s.c, .int .i64 e.s.s, .int .i64 e.a.c, .int .i64 e.a.s, .int .i64 e.p, .int .i64 e.g]) ∧ Only none_ w w' := by
  have O := Lib.hid (((Only.refl none_ w).alloc (.cells #[.string e.k, .string e.v, .bool e.d, .int .i64 e.s.c, .int .i64 e.s.s, .int .i64 e.a.c, .int .i64 e.a.s, .int .i64 e.p, .int .i64 e.g] 50)).alloc (.cells #[.string enZero.k, .string enZero.v, .bool enZero.d, .int .i64 enZero.s.c, .int .i64 enZero.s.s, .int .i64 enZero.a.c, .int .i64 enZero.a.s, .int .i64 enZero.p, .int .i64 enZero.g] 82))
  have B := Blk.new (w.alloc (.cells #[.string e.k, .string e.v, .bool e.d, .int .i64 e.s.c, .int .i64 e.s.s, .int .i64 e.a.c, .int .i64 e.a.s, .int .i64 e.p, .int .i64 e.g] 50)) 82 #[.string enZero.k, .string enZero.v, .bool enZero.d, .int .i64 enZero.s.c, .int .i64 enZero.s.s, .int .i64 enZero.a.c, .int .i64 enZero.a.s, .int .i64 enZero.p, .int .i64 enZero.g]
  rw [World.size_alloc] at B
  have T : Hid (Bo ((w.alloc (.cells #[.string e.k, .string e.v, .bool e.d, .int .i64 e.s.c, .int .i64 e.s.s, .int .i64 e.a.c, .int .i64 e.a.s, .int .i64 e.p, .int .i64 e.g] 50)).alloc (.cells #[.string enZero.k, .string enZero.v, .bool enZero.d, .int .i64 enZero.s.c, .int .i64 enZero.s.s, .int .i64 enZero.a.c, .int .i64 enZero.a.s, .int .i64 enZero.p, .int .i64 enZero.g] 82)) w.heap.size (w.heap.size + 1) 50 82 e enZero ((w.alloc (.cells #[.string e.k, .string e.v, .bool e.d, .int .i64 e.s.c, .int .i64 e.s.s, .int .i64 e.a.c, .int .i64 e.a.s, .int .i64 e.p, .int .i64 e.g] 50)).alloc (.cells #[.string enZero.k, .string enZero.v, .bool enZero.d, .int .i64 enZero.s.c, .int .i64 enZero.s.s, .int .i64 enZero.a.c, .int .i64 enZero.a.s, .int .i64 enZero.p, .int .i64 enZero.g] 82))) :=
    ⟨(Blk.new w _ _).alloc _, B, Only.refl _ _⟩
  clear B
  simp only [enZero, stZero] at O T
  go_enter Tryz.func36, Tryz.ntmps36
  go_wp2_with fail
  have hne : w.heap.size ≠ w.heap.size + 1 := by omega
  have hge : w.heap.size ≤ w.heap.size + 1 := by omega
  have HN := Lib.hid hne
  have HGE := Lib.hid hge
  clear hne hge
  generalize (w.alloc _).alloc _ = W2 at *
  have t2 := T.out.keep (Only.refl none_ W2).drew
  (refine wp_region_steady (fun w' => Bo W2 w.heap.size (w.heap.size + 1) 50 82 e enZero w') 16 (by kernel_rfl) (by kernel_rfl) (t2) ?_; simp only [List.take_succ_cons, List.take_zero, List.drop_succ_cons, List.drop_zero])
  repeat (first
    | (refine sd_value (v := ?_) (by rfl) (fun w0 hS => ?_) ?_; rotate_left; (· (have hc := hS.cells; go_simp; try (with_reducible rfl))); try simp only [Act.put, List.setIfInBounds_toArray, List.set_cons_zero, List.set_cons_succ])
    | (refine sd_call (v := ?_) (f := 80) (args := ?_) (by rfl) (fun w0 hS => ?_) (fun w0 hS => ?_) ?_; rotate_left 2; (· (have hc := hS.cells; go_simp; try (with_reducible rfl))); (· (refine (st_of _ _ _).mono ?_; rintro E w2 ⟨rfl, o2⟩; refine ⟨?_, hS.keep o2⟩; rfl)); try simp only [Act.put, List.setIfInBounds_toArray, List.set_cons_zero, List.set_cons_succ]))
  refine sd_nil ?_
  intro w5 t5
  have q5 := nine_of t5.y
  have z5 := frozen9 t5.y
  simp only [enZero, stZero] at q5
  go_wp2_with fail
  exact bodyPost_ret (results_cell_row rfl _ _ (w.heap.size + 1) 82 _ (0, 0) _ rfl (fill9_blk t5.y _ _ _ _ _ _ _ _ _) Tryz.underlying82 rfl (by kernel_rfl)) rfl ⟨rfl, fill9_only (O.out.trans t5.ho) (.inr HGE.out) _ _ _ _ _ _ _ _ _⟩
end Go.Proofs.YtoohpcomnhfgpaaGreat
end
