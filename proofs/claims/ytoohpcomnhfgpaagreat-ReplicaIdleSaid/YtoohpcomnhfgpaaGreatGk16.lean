/- Texts of mine, one behind the other: RpT, RpU, RpV, EnV. No statement of the seat is proved here. -/
import Derived.Test.YtoohpcomnhfgpaaGreatGk15
import Derived.Test.YtoohpcomnhfgpaaGreatGk3
import Derived.Test.YtoohpcomnhfgpaaGreatChecked
import Derived.Test.YtoohpcomnhfgpaaGreatGk7
import Derived.Test.YtoohpcomnhfgpaaGreatGk9
import Derived.Test.YtoohpcomnhfgpaaGreatGk1
section
namespace Go.Proofs.YtoohpcomnhfgpaaGreat
open Go.RowKit
set_option maxRecDepth 100000
set_option linter.all false
def seeS (s : Rs) (x : En) : Rs := { s with c := seeC s.c x.a }
def wkE (s : Rs) (k : ByteArray) : En := (enWake ((lookE s.gr k).getD enZero) ⟨s.c + 1, s.site⟩).1
def tqR (s : Rs) (x : En) : Rs × Int × En × Int := if overE s.gr x = true then tkR 2 (nxR s (wkE s x.k)) else tkR 1 (dnR s { x with g := ageM s.o s.tab x })
def mgR (s : Rs) (x : En) : Rs × Int × En × Int :=
  if enCheck x ≠ 0 then (s, 0, enZero, enCheck x)
  else if newsM s.tab x = false then ({ seeS s x with tab := youngM s.o s.tab x }, 0, enZero, 0)
  else if lateM s.o x = true then (seeS s x, 0, enZero, 0)
  else if fullM s.o s.tab x.k = true then (seeS s x, 0, enZero, 7)
  else tqR (seeS s x) x
structure Gok (s : Rs) : Prop where
  c : 0 ≤ s.c ∧ s.c ≤ 4294967295
  si : stSite s.site = true
  t : 0 ≤ s.o.t1 ∧ s.o.t1 ≤ 2147483647
  g : ∀ y ∈ s.gr, enCheck y = 0 ∧ y.d = true ∧ y.a.c ≤ s.c
theorem see_ge (c : Int) (a : St) (h : 0 ≤ c ∧ c ≤ 4294967295) : c ≤ seeC c a ∧ 0 ≤ seeC c a ∧ seeC c a ≤ 4294967295 := by
  unfold seeC
  split
  · next h1 => have := good_of h1.1; omega
  · omega
theorem wake_ok {e : En} {st : St} (hc : enCheck e = 0) (hd : e.d = true) (hg : stGood st = true) (hl : e.a.c < st.c) : enWake e st = ((enWake e st).1, 0) ∧ enCheck (enWake e st).1 = 0 ∧ (enWake e st).1.k = e.k := by
  have hlt : stLater st e.a = true := (later_def _ _).2 (.inl hl)
  have hw : enWake e st = (⟨e.k, e.v, e.d, e.s, st, e.p, 0⟩, 0) := by
    unfold enWake
    rw [if_pos hc, if_pos (by rw [hd, hg, hlt]; rfl)]
  rw [hw]
  refine ⟨rfl, ?_, rfl⟩
  obtain ⟨c1, c2, c3, c4, c5, c6, c7, c8⟩ := check_of hc
  have h8 := c8 hd
  have hv : (e.d && decide (0 < e.v.size)) = false := by
    cases h : (e.d && decide (0 < e.v.size)) with
    | false => rfl
    | true =>
      have : enValBad e = true := by unfold enValBad; rw [h]; simp
      unfold enCheck at hc
      rw [this] at hc
      split at hc
      · cases hc
      · cases hc
  have k1 : ¬ (e.k.size < 1 ∨ 16 < e.k.size) := by omega
  have k2 : ¬ 32 < e.v.size := by omega
  have hs : stLater e.s st = false := by
    rw [later_false] at c6 ⊢
    omega
  unfold enCheck
  have b1 : enKeyBad ⟨e.k, e.v, e.d, e.s, st, e.p, 0⟩ = false := by simp only [enKeyBad, Bool.or_eq_false_iff, decide_eq_false_iff_not]; omega
  have b2 : enValBad ⟨e.k, e.v, e.d, e.s, st, e.p, 0⟩ = false := by simp only [enValBad]; rw [hv]; simp; omega
  have b3 : enStBad ⟨e.k, e.v, e.d, e.s, st, e.p, 0⟩ = false := by simp only [enStBad, c4, hg, hs]; rfl
  have b4 : enRestBad ⟨e.k, e.v, e.d, e.s, st, e.p, 0⟩ = false := by
    simp only [enRestBad, hd, if_true, enCert, Bool.not_eq_false', Bool.and_eq_true, decide_eq_true_eq]
    omega
  rw [b1, b2, b3, b4]; simp
theorem age_check {o : Ro} {l : List En} {x : En} (ht : 0 ≤ o.t1 ∧ o.t1 ≤ 2147483647) (hc : enCheck x = 0) (hl : lateM o x = false) (hT : ∀ e ∈ l, enCheck e = 0) : enCheck { x with g := ageM o l x } = 0 := by
  by_cases hd : x.d = true
  · have h8 := (check_of hc).2.2.2.2.2.2.2 hd
    refine check_age hc hd ?_ ?_
    · unfold ageM
      split
      · omega
      · cases h : lookE l x.k with
        | none => simp only; omega
        | some was =>
          simp only
          split
          · next h2 =>
            have := (check_of (hT was (look_some h).1)).2.2.2.2.2.2.2 h2.1
            omega
          · omega
    · by_cases ht0 : o.t1 = 0
      · unfold ageM; rw [if_pos (.inr ht0)]; omega
      · have hg : x.g + 1 < o.t1 ∨ x.g + 1 ≤ 2147483647 := by
          unfold lateM at hl
          rw [hd, decide_eq_false ht0] at hl
          simp only [Bool.true_and, Bool.not_false, decide_eq_false_iff_not] at hl
          exact .inl (by omega)
        unfold ageM
        rw [if_neg (by rw [hd]; simp [ht0])]
        cases h : lookE l x.k with
        | none => simp only; omega
        | some was =>
          simp only
          split
          · next h2 =>
            have := (check_of (hT was (look_some h).1)).2.2.2.2.2.2.2 h2.1
            omega
          · omega
  · have hd' : x.d = false := by simpa using hd
    have : ageM o l x = x.g := by
      unfold ageM
      rw [if_pos (.inl hd')]
      exact (((check_of hc).2.2.2.2.2.2.1 hd').2.2).symm
    rw [this]; exact hc
set_option maxHeartbeats 3200000 in
theorem rp_take (B : World) (a : Ra) (s : Rs) (x : En) (w : World) (h : Rp B a s w) (ok : Rky s) (go : Gok s) (hc : enCheck x = 0) (hl : lateM s.o x = false) (hn : newsM s.tab x = true) (hT : ∀ e ∈ s.tab, enCheck e = 0) (hf : fullM s.o s.tab x.k = false) :
    Calls Tryz.prog 89 #[.pointer (some ⟨a.r, 0, none⟩), .agg #[.string x.k, .string x.v, .bool x.d, .int .i64 x.s.c, .int .i64 x.s.s, .int .i64 x.a.c, .int .i64 x.a.s, .int .i64 x.p, .int .i64 x.g]] w fun E w' => E = .returned (.tuple #[.int .i64 (tqR s x).2.1, .agg #[.string (tqR s x).2.2.1.k, .string (tqR s x).2.2.1.v, .bool (tqR s x).2.2.1.d, .int .i64 (tqR s x).2.2.1.s.c, .int .i64 (tqR s x).2.2.1.s.s, .int .i64 (tqR s x).2.2.1.a.c, .int .i64 (tqR s x).2.2.1.a.s, .int .i64 (tqR s x).2.2.1.p, .int .i64 (tqR s x).2.2.1.g], .int .i64 (tqR s x).2.2.2]) ∧ LeftP B a w (tqR s x).1 w' := by
  have hx : x.d = true → 0 ≤ x.g ∧ x.g ≤ 2147483647 := fun hd => ⟨((check_of hc).2.2.2.2.2.2.2 hd).2.2.1, ((check_of hc).2.2.2.2.2.2.2 hd).2.2.2⟩
  cases ov : overE s.gr x with
  | false =>
    rw [tqR, if_neg (by rw [ov]; simp)]
    refine rp_take_new B a s x w h ov hx ok ?_ hf
    exact age_check go.t hc hl hT
  | true =>
    rw [tqR, if_pos ov]
    refine rp_take_woke B a s x (wkE s x.k) w h ov ok go.c fun hlt => ?_
    rw [overE_look] at ov
    cases hg : lookE s.gr x.k with
    | none => rw [hg] at ov; cases ov
    | some y =>
      obtain ⟨hy, hk⟩ := look_some hg
      obtain ⟨g1, g2, g3⟩ := go.g y hy
      have hw := wake_ok g1 g2 (good_next go.si go.c.1 hlt) (show y.a.c < s.c + 1 by omega)
      have hwk : wkE s x.k = (enWake y ⟨s.c + 1, s.site⟩).1 := by unfold wkE; rw [hg]; rfl
      rw [hwk, Option.getD_some]
      exact ⟨hw.1, hw.2.1, by rw [hw.2.2, hk]; exact hf⟩
set_option maxHeartbeats 12800000 in
theorem rp_merge_bad (B : World) (a : Ra) (s : Rs) (x : En) (w : World) (h : Rp B a s w) (hc : enCheck x ≠ 0) :
    Calls Tryz.prog 35 #[.pointer (some ⟨a.r, 0, none⟩), .agg #[.string x.k, .string x.v, .bool x.d, .int .i64 x.s.c, .int .i64 x.s.s, .int .i64 x.a.c, .int .i64 x.a.s, .int .i64 x.p, .int .i64 x.g]] w fun E w' => E = .returned (.tuple #[.int .i64 0, .agg #[.string ⟨#[]⟩, .string ⟨#[]⟩, .bool false, .int .i64 0, .int .i64 0, .int .i64 0, .int .i64 0, .int .i64 0, .int .i64 0], .int .i64 (enCheck x)]) ∧ LeftP B a w (s) w' := by
  obtain ⟨r, hr⟩ : ∃ r, a.r = r := ⟨_, rfl⟩
  have C2 := Lib.hid (((Cy.begin h).keep ((Only.refl none_ w).alloc (.cells #[.string x.k, .string x.v, .bool x.d, .int .i64 x.s.c, .int .i64 x.s.s, .int .i64 x.a.c, .int .i64 x.a.s, .int .i64 x.p, .int .i64 x.g] 82))).keep ((Only.refl none_ _).alloc (.cells #[.string ⟨#[]⟩, .string ⟨#[]⟩, .bool false, .int .i64 0, .int .i64 0, .int .i64 0, .int .i64 0, .int .i64 0, .int .i64 0] 82)))
  have N2 : Hid (Bn a w.heap.size 82 #[.string x.k, .string x.v, .bool x.d, .int .i64 x.s.c, .int .i64 x.s.s, .int .i64 x.a.c, .int .i64 x.a.s, .int .i64 x.p, .int .i64 x.g] ((w.alloc (.cells #[.string x.k, .string x.v, .bool x.d, .int .i64 x.s.c, .int .i64 x.s.s, .int .i64 x.a.c, .int .i64 x.a.s, .int .i64 x.p, .int .i64 x.g] 82)).alloc (.cells #[.string ⟨#[]⟩, .string ⟨#[]⟩, .bool false, .int .i64 0, .int .i64 0, .int .i64 0, .int .i64 0, .int .i64 0, .int .i64 0] 82))) := (Bn.new h).keep ((Only.refl none_ _).alloc _)
  have M2 : Hid (Bn a (w.heap.size + 1) 82 #[.string ⟨#[]⟩, .string ⟨#[]⟩, .bool false, .int .i64 0, .int .i64 0, .int .i64 0, .int .i64 0, .int .i64 0, .int .i64 0] ((w.alloc (.cells #[.string x.k, .string x.v, .bool x.d, .int .i64 x.s.c, .int .i64 x.s.s, .int .i64 x.a.c, .int .i64 x.a.s, .int .i64 x.p, .int .i64 x.g] 82)).alloc (.cells #[.string ⟨#[]⟩, .string ⟨#[]⟩, .bool false, .int .i64 0, .int .i64 0, .int .i64 0, .int .i64 0, .int .i64 0, .int .i64 0] 82))) := by
    have := Bn.new (t := 82) (cs := #[.string ⟨#[]⟩, .string ⟨#[]⟩, .bool false, .int .i64 0, .int .i64 0, .int .i64 0, .int .i64 0, .int .i64 0, .int .i64 0]) (h.keep ((Only.refl none_ w).alloc (.cells #[.string x.k, .string x.v, .bool x.d, .int .i64 x.s.c, .int .i64 x.s.s, .int .i64 x.a.c, .int .i64 x.a.s, .int .i64 x.p, .int .i64 x.g] 82)))
    rwa [World.size_alloc] at this
  have HCK := Lib.hid (fun (X : World) => en_check x X)
  have q2 := nine_of N2.out.b
  obtain ⟨z, hz⟩ : ∃ z, enCheck x = z := ⟨_, rfl⟩
  rw [hz] at hc HCK ⊢
  have hzb : (z != 0) = true := by simpa using hc
  clear h hc hz hr
  go_enter Tryz.func35, Tryz.ntmps35
  go_wp2_with (first
    | (go_at_call 83; refine (HCK.out _).mono ?_; rintro E w3 ⟨rfl, o3⟩
       have C3 := Lib.hid (C2.out.keep o3)
       have M3 := Lib.hid (M2.out.keep o3)
       clear o3)
    | (refine wpList_store_row rfl 82 _ _ rfl (w.heap.size + 1) #[.string ⟨#[]⟩, .string ⟨#[]⟩, .bool false, .int .i64 0, .int .i64 0, .int .i64 0, .int .i64 0, .int .i64 0, .int .i64 0] rfl rfl _ _ M3.out.b (by kernel_rfl) (by kernel_rfl) (by kernel_rfl) ?_))
  refine bodyPost_ret (results_tct rfl _ _ (w.heap.size + 1) 82 #[.string ⟨#[]⟩, .string ⟨#[]⟩, .bool false, .int .i64 0, .int .i64 0, .int .i64 0, .int .i64 0, .int .i64 0, .int .i64 0] _ rfl (M3.out.b.setRow _) Tryz.underlying82 rfl (by kernel_rfl) (.int .i64 0) (.int .i64 z) rfl rfl) rfl ?_
  exact ⟨rfl, (C3.out.box M3.out (by omega) (only_row _ _)).left⟩
set_option maxHeartbeats 25600000 in
theorem rp_merge_old (B : World) (a : Ra) (s : Rs) (x : En) (w : World) (h : Rp B a s w) (hc : enCheck x = 0) (hn : newsM s.tab x = false) :
    Calls Tryz.prog 35 #[.pointer (some ⟨a.r, 0, none⟩), .agg #[.string x.k, .string x.v, .bool x.d, .int .i64 x.s.c, .int .i64 x.s.s, .int .i64 x.a.c, .int .i64 x.a.s, .int .i64 x.p, .int .i64 x.g]] w fun E w' => E = .returned (.tuple #[.int .i64 0, .agg #[.string ⟨#[]⟩, .string ⟨#[]⟩, .bool false, .int .i64 0, .int .i64 0, .int .i64 0, .int .i64 0, .int .i64 0, .int .i64 0], .int .i64 0]) ∧ LeftP B a w ({ seeS s x with tab := youngM s.o s.tab x }) w' := by
  obtain ⟨r, hr⟩ : ∃ r, a.r = r := ⟨_, rfl⟩
  have C2 := Lib.hid (((Cy.begin h).keep ((Only.refl none_ w).alloc (.cells #[.string x.k, .string x.v, .bool x.d, .int .i64 x.s.c, .int .i64 x.s.s, .int .i64 x.a.c, .int .i64 x.a.s, .int .i64 x.p, .int .i64 x.g] 82))).keep ((Only.refl none_ _).alloc (.cells #[.string ⟨#[]⟩, .string ⟨#[]⟩, .bool false, .int .i64 0, .int .i64 0, .int .i64 0, .int .i64 0, .int .i64 0, .int .i64 0] 82)))
  have N2 : Hid (Bn a w.heap.size 82 #[.string x.k, .string x.v, .bool x.d, .int .i64 x.s.c, .int .i64 x.s.s, .int .i64 x.a.c, .int .i64 x.a.s, .int .i64 x.p, .int .i64 x.g] ((w.alloc (.cells #[.string x.k, .string x.v, .bool x.d, .int .i64 x.s.c, .int .i64 x.s.s, .int .i64 x.a.c, .int .i64 x.a.s, .int .i64 x.p, .int .i64 x.g] 82)).alloc (.cells #[.string ⟨#[]⟩, .string ⟨#[]⟩, .bool false, .int .i64 0, .int .i64 0, .int .i64 0, .int .i64 0, .int .i64 0, .int .i64 0] 82))) := (Bn.new h).keep ((Only.refl none_ _).alloc _)
  have M2 : Hid (Bn a (w.heap.size + 1) 82 #[.string ⟨#[]⟩, .string ⟨#[]⟩, .bool false, .int .i64 0, .int .i64 0, .int .i64 0, .int .i64 0, .int .i64 0, .int .i64 0] ((w.alloc (.cells #[.string x.k, .string x.v, .bool x.d, .int .i64 x.s.c, .int .i64 x.s.s, .int .i64 x.a.c, .int .i64 x.a.s, .int .i64 x.p, .int .i64 x.g] 82)).alloc (.cells #[.string ⟨#[]⟩, .string ⟨#[]⟩, .bool false, .int .i64 0, .int .i64 0, .int .i64 0, .int .i64 0, .int .i64 0, .int .i64 0] 82))) := by
    have := Bn.new (t := 82) (cs := #[.string ⟨#[]⟩, .string ⟨#[]⟩, .bool false, .int .i64 0, .int .i64 0, .int .i64 0, .int .i64 0, .int .i64 0, .int .i64 0]) (h.keep ((Only.refl none_ w).alloc (.cells #[.string x.k, .string x.v, .bool x.d, .int .i64 x.s.c, .int .i64 x.s.s, .int .i64 x.a.c, .int .i64 x.a.s, .int .i64 x.p, .int .i64 x.g] 82)))
    rwa [World.size_alloc] at this
  have HCK := Lib.hid (fun (X : World) => en_check x X)
  have q2 := nine_of N2.out.b
  rw [hc] at HCK
  have hx : x.d = true → 0 ≤ x.g ∧ x.g ≤ 2147483647 := fun hd => ⟨((check_of hc).2.2.2.2.2.2.2 hd).2.2.1, ((check_of hc).2.2.2.2.2.2.2 hd).2.2.2⟩
  have HSE := Lib.hid (fun (X : World) (hX : Rp B a s X) => rp_see B a s x.a X hX)
  obtain ⟨s1, hs1⟩ : ∃ s1, seeS s x = s1 := ⟨_, rfl⟩
  have hs1' : ({ s with c := seeC s.c x.a } : Rs) = s1 := hs1
  rw [hs1'] at HSE
  have ho : s1.o = s.o := by rw [← hs1]; rfl
  have ht : s1.tab = s.tab := by rw [← hs1]; rfl
  have HNE := Lib.hid (fun (a1 : Ra) (X : World) (hX : Rp B a1 s1 X) (e1 : a1.r = r) => by
    have := ct_news B a1 s1 x X hX
    rw [e1, ht, hn] at this
    exact this)
  have HC5 : Hid (∀ X, Rp B a s X → X.cell? ⟨r, 5, none⟩ = some (.pointer (some ⟨a.ck, 0, none⟩))) := fun X hX => hX.at_ hr rfl
  have HYO := Lib.hid (fun (a1 : Ra) (X : World) (hX : Rp B a1 s1 X) (e1 : a1.r = r) => by
    have := rp_younger B a1 s1 x X hX hx
    rw [e1, ho, ht, ← hs1] at this
    exact this)
  rw [hr]
  have HR := Lib.hid hr
  clear h hc hr hx hs1 hs1' ho ht hn
  go_enter Tryz.func35, Tryz.ntmps35
  go_wp2_with (first
    | (go_at_call 83; refine (HCK.out _).mono ?_; rintro E w3 ⟨rfl, o3⟩
       have C3 := Lib.hid (C2.out.keep o3)
       have N3 := Lib.hid (N2.out.keep o3)
       have M3 := Lib.hid (M2.out.keep o3)
       clear o3))
  clear q2 C2 N2 M2 HCK
  (refine wp_region_steady (fun X => Only none_ w3 X) 6 (by kernel_rfl) (by kernel_rfl) ((Only.refl none_ w3).drew) ?_; simp only [List.take_succ_cons, List.take_zero, List.drop_succ_cons, List.drop_zero])
  repeat (first
    | (refine sd_value (v := ?_) (by rfl) (fun w0 hS => ?_) ?_; rotate_left; (· (have c5 := HC5.out _ (C3.out.keep hS).r; have qq := nine_of (N3.out.keep hS).b; go_simp; try (with_reducible rfl))); try simp only [Act.put, List.setIfInBounds_toArray, List.set_cons_zero, List.set_cons_succ]))
  refine sd_nil ?_
  intro w4 t4
  have C4 := Lib.hid (C3.out.keep t4)
  have N4 := Lib.hid (N3.out.keep t4)
  have M4 := Lib.hid (M3.out.keep t4)
  clear t4
  go_wp2_with (first
    | (go_at_call 84; refine (HSE.out _ C4.out.r).mono ?_; rintro E w5 ⟨⟨bs, rfl⟩, L5⟩
       obtain ⟨a5, c5, e5, b5⟩ := C4.out.step L5
       have C5 := Lib.hid c5
       have N5 := Lib.hid (b5 _ _ _ N4.out)
       have M5 := Lib.hid (b5 _ _ _ M4.out)
       have E5 : Hid (a5.r = r) := e5.trans HR.out
       clear c5 b5 e5 L5))
  (refine wp_region_steady (fun X => Only none_ w5 X) 7 (by kernel_rfl) (by kernel_rfl) ((Only.refl none_ w5).drew) ?_; simp only [List.take_succ_cons, List.take_zero, List.drop_succ_cons, List.drop_zero])
  repeat (first
    | (refine sd_value (v := ?_) (by rfl) (fun w0 hS => ?_) ?_; rotate_left; (· (have qq := nine_of (N5.out.keep hS).b; go_simp; try (with_reducible rfl))); try simp only [Act.put, List.setIfInBounds_toArray, List.set_cons_zero, List.set_cons_succ])
    | (refine sd_call (v := ?_) (f := 85) (args := ?_) (by rfl) (fun w0 hS => ?_) (fun w0 hS => ?_) ?_; rotate_left 2; (· (skip; go_simp; try (with_reducible rfl))); (· (refine (HNE.out a5 _ (C5.out.keep hS).r E5.out).mono ?_; rintro E w8 ⟨rfl, o8⟩; refine ⟨?_, hS.trans o8⟩; rfl)); try simp only [Act.put, List.setIfInBounds_toArray, List.set_cons_zero, List.set_cons_succ]))
  refine sd_nil ?_
  intro w6 t6
  have C6 := Lib.hid (C5.out.keep t6)
  have N6 := Lib.hid (N5.out.keep t6)
  have M6 := Lib.hid (M5.out.keep t6)
  have q6 := nine_of N6.out.b
  clear t6 C5 N5 M5 C4 N4 M4 C3 N3 M3
  go_wp2_with (first
    | (go_at_call 86; refine (HYO.out a5 _ C6.out.r E5.out).mono ?_; rintro E w7 ⟨rfl, L7⟩
       obtain ⟨a7, c7, e7, b7⟩ := C6.out.step L7
       have C7 := Lib.hid c7
       have M7 := Lib.hid (b7 _ _ _ M6.out)
       clear c7 b7 e7 L7)
    | (refine wpList_store_row rfl 82 _ _ rfl (w.heap.size + 1) #[.string ⟨#[]⟩, .string ⟨#[]⟩, .bool false, .int .i64 0, .int .i64 0, .int .i64 0, .int .i64 0, .int .i64 0, .int .i64 0] rfl rfl _ _ M7.out.b (by kernel_rfl) (by kernel_rfl) (by kernel_rfl) ?_))
  refine bodyPost_ret (results_tct rfl _ _ (w.heap.size + 1) 82 #[.string ⟨#[]⟩, .string ⟨#[]⟩, .bool false, .int .i64 0, .int .i64 0, .int .i64 0, .int .i64 0, .int .i64 0, .int .i64 0] _ rfl (M7.out.b.setRow _) Tryz.underlying82 rfl (by kernel_rfl) (.int .i64 0) (.int .i64 0) rfl rfl) rfl ?_
  exact ⟨rfl, (C7.out.box M7.out (by omega) (only_row _ _)).left⟩
set_option maxHeartbeats 25600000 in
theorem rp_merge_late (B : World) (a : Ra) (s : Rs) (x : En) (w : World) (h : Rp B a s w) (hc : enCheck x = 0) (hn : newsM s.tab x = true) (hl : lateM s.o x = true) :
    Calls Tryz.prog 35 #[.pointer (some ⟨a.r, 0, none⟩), .agg #[.string x.k, .string x.v, .bool x.d, .int .i64 x.s.c, .int .i64 x.s.s, .int .i64 x.a.c, .int .i64 x.a.s, .int .i64 x.p, .int .i64 x.g]] w fun E w' => E = .returned (.tuple #[.int .i64 0, .agg #[.string ⟨#[]⟩, .string ⟨#[]⟩, .bool false, .int .i64 0, .int .i64 0, .int .i64 0, .int .i64 0, .int .i64 0, .int .i64 0], .int .i64 0]) ∧ LeftP B a w (seeS s x) w' := by
  obtain ⟨r, hr⟩ : ∃ r, a.r = r := ⟨_, rfl⟩
  have C2 := Lib.hid (((Cy.begin h).keep ((Only.refl none_ w).alloc (.cells #[.string x.k, .string x.v, .bool x.d, .int .i64 x.s.c, .int .i64 x.s.s, .int .i64 x.a.c, .int .i64 x.a.s, .int .i64 x.p, .int .i64 x.g] 82))).keep ((Only.refl none_ _).alloc (.cells #[.string ⟨#[]⟩, .string ⟨#[]⟩, .bool false, .int .i64 0, .int .i64 0, .int .i64 0, .int .i64 0, .int .i64 0, .int .i64 0] 82)))
  have N2 : Hid (Bn a w.heap.size 82 #[.string x.k, .string x.v, .bool x.d, .int .i64 x.s.c, .int .i64 x.s.s, .int .i64 x.a.c, .int .i64 x.a.s, .int .i64 x.p, .int .i64 x.g] ((w.alloc (.cells #[.string x.k, .string x.v, .bool x.d, .int .i64 x.s.c, .int .i64 x.s.s, .int .i64 x.a.c, .int .i64 x.a.s, .int .i64 x.p, .int .i64 x.g] 82)).alloc (.cells #[.string ⟨#[]⟩, .string ⟨#[]⟩, .bool false, .int .i64 0, .int .i64 0, .int .i64 0, .int .i64 0, .int .i64 0, .int .i64 0] 82))) := (Bn.new h).keep ((Only.refl none_ _).alloc _)
  have M2 : Hid (Bn a (w.heap.size + 1) 82 #[.string ⟨#[]⟩, .string ⟨#[]⟩, .bool false, .int .i64 0, .int .i64 0, .int .i64 0, .int .i64 0, .int .i64 0, .int .i64 0] ((w.alloc (.cells #[.string x.k, .string x.v, .bool x.d, .int .i64 x.s.c, .int .i64 x.s.s, .int .i64 x.a.c, .int .i64 x.a.s, .int .i64 x.p, .int .i64 x.g] 82)).alloc (.cells #[.string ⟨#[]⟩, .string ⟨#[]⟩, .bool false, .int .i64 0, .int .i64 0, .int .i64 0, .int .i64 0, .int .i64 0, .int .i64 0] 82))) := by
    have := Bn.new (t := 82) (cs := #[.string ⟨#[]⟩, .string ⟨#[]⟩, .bool false, .int .i64 0, .int .i64 0, .int .i64 0, .int .i64 0, .int .i64 0, .int .i64 0]) (h.keep ((Only.refl none_ w).alloc (.cells #[.string x.k, .string x.v, .bool x.d, .int .i64 x.s.c, .int .i64 x.s.s, .int .i64 x.a.c, .int .i64 x.a.s, .int .i64 x.p, .int .i64 x.g] 82)))
    rwa [World.size_alloc] at this
  have HCK := Lib.hid (fun (X : World) => en_check x X)
  have q2 := nine_of N2.out.b
  rw [hc] at HCK
  have hx : x.d = true → 0 ≤ x.g ∧ x.g ≤ 2147483647 := fun hd => ⟨((check_of hc).2.2.2.2.2.2.2 hd).2.2.1, ((check_of hc).2.2.2.2.2.2.2 hd).2.2.2⟩
  have HSE := Lib.hid (fun (X : World) (hX : Rp B a s X) => rp_see B a s x.a X hX)
  obtain ⟨s1, hs1⟩ : ∃ s1, seeS s x = s1 := ⟨_, rfl⟩
  have hs1' : ({ s with c := seeC s.c x.a } : Rs) = s1 := hs1
  rw [hs1'] at HSE
  have ho : s1.o = s.o := by rw [← hs1]; rfl
  have ht : s1.tab = s.tab := by rw [← hs1]; rfl
  have HNE := Lib.hid (fun (a1 : Ra) (X : World) (hX : Rp B a1 s1 X) (e1 : a1.r = r) => by
    have := ct_news B a1 s1 x X hX
    rw [e1, ht, hn] at this
    exact this)
  have HC5 : Hid (∀ X, Rp B a s X → X.cell? ⟨r, 5, none⟩ = some (.pointer (some ⟨a.ck, 0, none⟩))) := fun X hX => hX.at_ hr rfl
  have HEX := Lib.hid (fun (a1 : Ra) (X : World) (hX : Rp B a1 s1 X) (e1 : a1.r = r) => by
    have := rp_expired B a1 s1 x X hX hx
    rw [e1, ho, hl] at this
    exact this)
  rw [hs1]
  rw [hr]
  have HR := Lib.hid hr
  clear h hc hr hx hs1 hs1' ho ht hn hl
  go_enter Tryz.func35, Tryz.ntmps35
  go_wp2_with (first
    | (go_at_call 83; refine (HCK.out _).mono ?_; rintro E w3 ⟨rfl, o3⟩
       have C3 := Lib.hid (C2.out.keep o3)
       have N3 := Lib.hid (N2.out.keep o3)
       have M3 := Lib.hid (M2.out.keep o3)
       clear o3))
  clear q2 C2 N2 M2 HCK
  (refine wp_region_steady (fun X => Only none_ w3 X) 6 (by kernel_rfl) (by kernel_rfl) ((Only.refl none_ w3).drew) ?_; simp only [List.take_succ_cons, List.take_zero, List.drop_succ_cons, List.drop_zero])
  repeat (first
    | (refine sd_value (v := ?_) (by rfl) (fun w0 hS => ?_) ?_; rotate_left; (· (have c5 := HC5.out _ (C3.out.keep hS).r; have qq := nine_of (N3.out.keep hS).b; go_simp; try (with_reducible rfl))); try simp only [Act.put, List.setIfInBounds_toArray, List.set_cons_zero, List.set_cons_succ]))
  refine sd_nil ?_
  intro w4 t4
  have C4 := Lib.hid (C3.out.keep t4)
  have N4 := Lib.hid (N3.out.keep t4)
  have M4 := Lib.hid (M3.out.keep t4)
  clear t4
  go_wp2_with (first
    | (go_at_call 84; refine (HSE.out _ C4.out.r).mono ?_; rintro E w5 ⟨⟨bs, rfl⟩, L5⟩
       obtain ⟨a5, c5, e5, b5⟩ := C4.out.step L5
       have C5 := Lib.hid c5
       have N5 := Lib.hid (b5 _ _ _ N4.out)
       have M5 := Lib.hid (b5 _ _ _ M4.out)
       have E5 : Hid (a5.r = r) := e5.trans HR.out
       clear c5 b5 e5 L5))
  (refine wp_region_steady (fun X => Only none_ w5 X) 7 (by kernel_rfl) (by kernel_rfl) ((Only.refl none_ w5).drew) ?_; simp only [List.take_succ_cons, List.take_zero, List.drop_succ_cons, List.drop_zero])
  repeat (first
    | (refine sd_value (v := ?_) (by rfl) (fun w0 hS => ?_) ?_; rotate_left; (· (have qq := nine_of (N5.out.keep hS).b; go_simp; try (with_reducible rfl))); try simp only [Act.put, List.setIfInBounds_toArray, List.set_cons_zero, List.set_cons_succ])
    | (refine sd_call (v := ?_) (f := 85) (args := ?_) (by rfl) (fun w0 hS => ?_) (fun w0 hS => ?_) ?_; rotate_left 2; (· (skip; go_simp; try (with_reducible rfl))); (· (refine (HNE.out a5 _ (C5.out.keep hS).r E5.out).mono ?_; rintro E w8 ⟨rfl, o8⟩; refine ⟨?_, hS.trans o8⟩; rfl)); try simp only [Act.put, List.setIfInBounds_toArray, List.set_cons_zero, List.set_cons_succ]))
  refine sd_nil ?_
  intro w6 t6
  have C6 := Lib.hid (C5.out.keep t6)
  have N6 := Lib.hid (N5.out.keep t6)
  have M6 := Lib.hid (M5.out.keep t6)
  have q6 := nine_of N6.out.b
  clear t6 C5 N5 M5 C4 N4 M4 C3 N3 M3
  go_wp2_with (first
    | (go_at_call 87; refine (HEX.out a5 _ C6.out.r E5.out).mono ?_; rintro E w7 ⟨rfl, o7⟩
       have C7 := Lib.hid (C6.out.keep o7)
       have N7 := Lib.hid (N6.out.keep o7)
       have M7 := Lib.hid (M6.out.keep o7)
       clear o7)
    | (refine wpList_store_row rfl 82 _ _ rfl (w.heap.size + 1) #[.string ⟨#[]⟩, .string ⟨#[]⟩, .bool false, .int .i64 0, .int .i64 0, .int .i64 0, .int .i64 0, .int .i64 0, .int .i64 0] rfl rfl _ _ M7.out.b (by kernel_rfl) (by kernel_rfl) (by kernel_rfl) ?_))
  refine bodyPost_ret (results_tct rfl _ _ (w.heap.size + 1) 82 #[.string ⟨#[]⟩, .string ⟨#[]⟩, .bool false, .int .i64 0, .int .i64 0, .int .i64 0, .int .i64 0, .int .i64 0, .int .i64 0] _ rfl (M7.out.b.setRow _) Tryz.underlying82 rfl (by kernel_rfl) (.int .i64 0) (.int .i64 0) rfl rfl) rfl ?_
  exact ⟨rfl, (C7.out.box M7.out (by omega) (only_row _ _)).left⟩
set_option maxHeartbeats 25600000 in
theorem rp_merge_full (B : World) (a : Ra) (s : Rs) (x : En) (w : World) (h : Rp B a s w) (hc : enCheck x = 0) (hn : newsM s.tab x = true) (hl : lateM s.o x = false) (hf : fullM s.o s.tab x.k = true) :
    Calls Tryz.prog 35 #[.pointer (some ⟨a.r, 0, none⟩), .agg #[.string x.k, .string x.v, .bool x.d, .int .i64 x.s.c, .int .i64 x.s.s, .int .i64 x.a.c, .int .i64 x.a.s, .int .i64 x.p, .int .i64 x.g]] w fun E w' => E = .returned (.tuple #[.int .i64 0, .agg #[.string ⟨#[]⟩, .string ⟨#[]⟩, .bool false, .int .i64 0, .int .i64 0, .int .i64 0, .int .i64 0, .int .i64 0, .int .i64 0], .int .i64 7]) ∧ LeftP B a w (seeS s x) w' := by
  obtain ⟨r, hr⟩ : ∃ r, a.r = r := ⟨_, rfl⟩
  have C2 := Lib.hid (((Cy.begin h).keep ((Only.refl none_ w).alloc (.cells #[.string x.k, .string x.v, .bool x.d, .int .i64 x.s.c, .int .i64 x.s.s, .int .i64 x.a.c, .int .i64 x.a.s, .int .i64 x.p, .int .i64 x.g] 82))).keep ((Only.refl none_ _).alloc (.cells #[.string ⟨#[]⟩, .string ⟨#[]⟩, .bool false, .int .i64 0, .int .i64 0, .int .i64 0, .int .i64 0, .int .i64 0, .int .i64 0] 82)))
  have N2 : Hid (Bn a w.heap.size 82 #[.string x.k, .string x.v, .bool x.d, .int .i64 x.s.c, .int .i64 x.s.s, .int .i64 x.a.c, .int .i64 x.a.s, .int .i64 x.p, .int .i64 x.g] ((w.alloc (.cells #[.string x.k, .string x.v, .bool x.d, .int .i64 x.s.c, .int .i64 x.s.s, .int .i64 x.a.c, .int .i64 x.a.s, .int .i64 x.p, .int .i64 x.g] 82)).alloc (.cells #[.string ⟨#[]⟩, .string ⟨#[]⟩, .bool false, .int .i64 0, .int .i64 0, .int .i64 0, .int .i64 0, .int .i64 0, .int .i64 0] 82))) := (Bn.new h).keep ((Only.refl none_ _).alloc _)
  have M2 : Hid (Bn a (w.heap.size + 1) 82 #[.string ⟨#[]⟩, .string ⟨#[]⟩, .bool false, .int .i64 0, .int .i64 0, .int .i64 0, .int .i64 0, .int .i64 0, .int .i64 0] ((w.alloc (.cells #[.string x.k, .string x.v, .bool x.d, .int .i64 x.s.c, .int .i64 x.s.s, .int .i64 x.a.c, .int .i64 x.a.s, .int .i64 x.p, .int .i64 x.g] 82)).alloc (.cells #[.string ⟨#[]⟩, .string ⟨#[]⟩, .bool false, .int .i64 0, .int .i64 0, .int .i64 0, .int .i64 0, .int .i64 0, .int .i64 0] 82))) := by
    have := Bn.new (t := 82) (cs := #[.string ⟨#[]⟩, .string ⟨#[]⟩, .bool false, .int .i64 0, .int .i64 0, .int .i64 0, .int .i64 0, .int .i64 0, .int .i64 0]) (h.keep ((Only.refl none_ w).alloc (.cells #[.string x.k, .string x.v, .bool x.d, .int .i64 x.s.c, .int .i64 x.s.s, .int .i64 x.a.c, .int .i64 x.a.s, .int .i64 x.p, .int .i64 x.g] 82)))
    rwa [World.size_alloc] at this
  have HCK := Lib.hid (fun (X : World) => en_check x X)
  have q2 := nine_of N2.out.b
  rw [hc] at HCK
  have hx : x.d = true → 0 ≤ x.g ∧ x.g ≤ 2147483647 := fun hd => ⟨((check_of hc).2.2.2.2.2.2.2 hd).2.2.1, ((check_of hc).2.2.2.2.2.2.2 hd).2.2.2⟩
  have HSE := Lib.hid (fun (X : World) (hX : Rp B a s X) => rp_see B a s x.a X hX)
  obtain ⟨s1, hs1⟩ : ∃ s1, seeS s x = s1 := ⟨_, rfl⟩
  have hs1' : ({ s with c := seeC s.c x.a } : Rs) = s1 := hs1
  rw [hs1'] at HSE
  have ho : s1.o = s.o := by rw [← hs1]; rfl
  have ht : s1.tab = s.tab := by rw [← hs1]; rfl
  have HNE := Lib.hid (fun (a1 : Ra) (X : World) (hX : Rp B a1 s1 X) (e1 : a1.r = r) => by
    have := ct_news B a1 s1 x X hX
    rw [e1, ht, hn] at this
    exact this)
  have HC5 : Hid (∀ X, Rp B a s X → X.cell? ⟨r, 5, none⟩ = some (.pointer (some ⟨a.ck, 0, none⟩))) := fun X hX => hX.at_ hr rfl
  have HEX := Lib.hid (fun (a1 : Ra) (X : World) (hX : Rp B a1 s1 X) (e1 : a1.r = r) => by
    have := rp_expired B a1 s1 x X hX hx
    rw [e1, ho, hl] at this
    exact this)
  have HRM := Lib.hid (fun (a1 : Ra) (X : World) (hX : Rp B a1 s1 X) (e1 : a1.r = r) => by
    have := ct_room B a1 s1 x.k X hX
    rw [e1, ho, ht, hf] at this
    exact this)
  rw [hs1]
  rw [hr]
  have HR := Lib.hid hr
  clear h hc hr hx hs1 hs1' ho ht hn hl hf
  go_enter Tryz.func35, Tryz.ntmps35
  go_wp2_with (first
    | (go_at_call 83; refine (HCK.out _).mono ?_; rintro E w3 ⟨rfl, o3⟩
       have C3 := Lib.hid (C2.out.keep o3)
       have N3 := Lib.hid (N2.out.keep o3)
       have M3 := Lib.hid (M2.out.keep o3)
       clear o3))
  clear q2 C2 N2 M2 HCK
  (refine wp_region_steady (fun X => Only none_ w3 X) 6 (by kernel_rfl) (by kernel_rfl) ((Only.refl none_ w3).drew) ?_; simp only [List.take_succ_cons, List.take_zero, List.drop_succ_cons, List.drop_zero])
  repeat (first
    | (refine sd_value (v := ?_) (by rfl) (fun w0 hS => ?_) ?_; rotate_left; (· (have c5 := HC5.out _ (C3.out.keep hS).r; have qq := nine_of (N3.out.keep hS).b; go_simp; try (with_reducible rfl))); try simp only [Act.put, List.setIfInBounds_toArray, List.set_cons_zero, List.set_cons_succ]))
  refine sd_nil ?_
  intro w4 t4
  have C4 := Lib.hid (C3.out.keep t4)
  have N4 := Lib.hid (N3.out.keep t4)
  have M4 := Lib.hid (M3.out.keep t4)
  clear t4
  go_wp2_with (first
    | (go_at_call 84; refine (HSE.out _ C4.out.r).mono ?_; rintro E w5 ⟨⟨bs, rfl⟩, L5⟩
       obtain ⟨a5, c5, e5, b5⟩ := C4.out.step L5
       have C5 := Lib.hid c5
       have N5 := Lib.hid (b5 _ _ _ N4.out)
       have M5 := Lib.hid (b5 _ _ _ M4.out)
       have E5 : Hid (a5.r = r) := e5.trans HR.out
       clear c5 b5 e5 L5))
  (refine wp_region_steady (fun X => Only none_ w5 X) 7 (by kernel_rfl) (by kernel_rfl) ((Only.refl none_ w5).drew) ?_; simp only [List.take_succ_cons, List.take_zero, List.drop_succ_cons, List.drop_zero])
  repeat (first
    | (refine sd_value (v := ?_) (by rfl) (fun w0 hS => ?_) ?_; rotate_left; (· (have qq := nine_of (N5.out.keep hS).b; go_simp; try (with_reducible rfl))); try simp only [Act.put, List.setIfInBounds_toArray, List.set_cons_zero, List.set_cons_succ])
    | (refine sd_call (v := ?_) (f := 85) (args := ?_) (by rfl) (fun w0 hS => ?_) (fun w0 hS => ?_) ?_; rotate_left 2; (· (skip; go_simp; try (with_reducible rfl))); (· (refine (HNE.out a5 _ (C5.out.keep hS).r E5.out).mono ?_; rintro E w8 ⟨rfl, o8⟩; refine ⟨?_, hS.trans o8⟩; rfl)); try simp only [Act.put, List.setIfInBounds_toArray, List.set_cons_zero, List.set_cons_succ]))
  refine sd_nil ?_
  intro w6 t6
  have C6 := Lib.hid (C5.out.keep t6)
  have N6 := Lib.hid (N5.out.keep t6)
  have M6 := Lib.hid (M5.out.keep t6)
  have q6 := nine_of N6.out.b
  clear t6 C5 N5 M5 C4 N4 M4 C3 N3 M3
  go_wp2_with (first
    | (go_at_call 87; refine (HEX.out a5 _ C6.out.r E5.out).mono ?_; rintro E w7 ⟨rfl, o7⟩
       have C7 := Lib.hid (C6.out.keep o7)
       have N7 := Lib.hid (N6.out.keep o7)
       have M7 := Lib.hid (M6.out.keep o7)
       clear o7))
  (refine wp_region_steady (fun X => Only none_ w7 X) 8 (by kernel_rfl) (by kernel_rfl) ((Only.refl none_ w7).drew) ?_; simp only [List.take_succ_cons, List.take_zero, List.drop_succ_cons, List.drop_zero])
  repeat (first
    | (refine sd_value (v := ?_) (by rfl) (fun w0 hS => ?_) ?_; rotate_left; (· (have qq := nine_of (N7.out.keep hS).b; go_simp; try (with_reducible rfl))); try simp only [Act.put, List.setIfInBounds_toArray, List.set_cons_zero, List.set_cons_succ])
    | (refine sd_call (v := ?_) (f := 88) (args := ?_) (by rfl) (fun w0 hS => ?_) (fun w0 hS => ?_) ?_; rotate_left 2; (· (have qq := nine_of (N7.out.keep hS).b; go_simp; try (with_reducible rfl))); (· (refine (HRM.out a5 _ (C7.out.keep hS).r E5.out).mono ?_; rintro E w9 ⟨rfl, o9⟩; refine ⟨?_, hS.trans o9⟩; rfl)); try simp only [Act.put, List.setIfInBounds_toArray, List.set_cons_zero, List.set_cons_succ]))
  refine sd_nil ?_
  intro w8 t8
  have C8 := Lib.hid (C7.out.keep t8)
  have N8 := Lib.hid (N7.out.keep t8)
  have M8 := Lib.hid (M7.out.keep t8)
  have q8 := nine_of N8.out.b
  clear t8 q6
  go_wp2_with (first
    | (refine wpList_store_row rfl 82 _ _ rfl (w.heap.size + 1) #[.string ⟨#[]⟩, .string ⟨#[]⟩, .bool false, .int .i64 0, .int .i64 0, .int .i64 0, .int .i64 0, .int .i64 0, .int .i64 0] rfl rfl _ _ M8.out.b (by kernel_rfl) (by kernel_rfl) (by kernel_rfl) ?_))
  refine bodyPost_ret (results_tct rfl _ _ (w.heap.size + 1) 82 #[.string ⟨#[]⟩, .string ⟨#[]⟩, .bool false, .int .i64 0, .int .i64 0, .int .i64 0, .int .i64 0, .int .i64 0, .int .i64 0] _ rfl (M8.out.b.setRow _) Tryz.underlying82 rfl (by kernel_rfl) (.int .i64 0) (.int .i64 7) rfl rfl) rfl ?_
  exact ⟨rfl, (C8.out.box M8.out (by omega) (only_row _ _)).left⟩
set_option maxHeartbeats 25600000 in
theorem rp_merge_take (B : World) (a : Ra) (s : Rs) (x : En) (w : World) (h : Rp B a s w) (hc : enCheck x = 0) (hn : newsM s.tab x = true) (hl : lateM s.o x = false) (hf : fullM s.o s.tab x.k = false) (ok : Rky s) (go : Gok s) (hT : ∀ e ∈ s.tab, enCheck e = 0) :
    Calls Tryz.prog 35 #[.pointer (some ⟨a.r, 0, none⟩), .agg #[.string x.k, .string x.v, .bool x.d, .int .i64 x.s.c, .int .i64 x.s.s, .int .i64 x.a.c, .int .i64 x.a.s, .int .i64 x.p, .int .i64 x.g]] w fun E w' => E = .returned (.tuple #[.int .i64 (tqR (seeS s x) x).2.1, .agg #[.string (tqR (seeS s x) x).2.2.1.k, .string (tqR (seeS s x) x).2.2.1.v, .bool (tqR (seeS s x) x).2.2.1.d, .int .i64 (tqR (seeS s x) x).2.2.1.s.c, .int .i64 (tqR (seeS s x) x).2.2.1.s.s, .int .i64 (tqR (seeS s x) x).2.2.1.a.c, .int .i64 (tqR (seeS s x) x).2.2.1.a.s, .int .i64 (tqR (seeS s x) x).2.2.1.p, .int .i64 (tqR (seeS s x) x).2.2.1.g], .int .i64 (tqR (seeS s x) x).2.2.2]) ∧ LeftP B a w ((tqR (seeS s x) x).1) w' := by
  obtain ⟨r, hr⟩ : ∃ r, a.r = r := ⟨_, rfl⟩
  have C2 := Lib.hid (((Cy.begin h).keep ((Only.refl none_ w).alloc (.cells #[.string x.k, .string x.v, .bool x.d, .int .i64 x.s.c, .int .i64 x.s.s, .int .i64 x.a.c, .int .i64 x.a.s, .int .i64 x.p, .int .i64 x.g] 82))).keep ((Only.refl none_ _).alloc (.cells #[.string ⟨#[]⟩, .string ⟨#[]⟩, .bool false, .int .i64 0, .int .i64 0, .int .i64 0, .int .i64 0, .int .i64 0, .int .i64 0] 82)))
  have N2 : Hid (Bn a w.heap.size 82 #[.string x.k, .string x.v, .bool x.d, .int .i64 x.s.c, .int .i64 x.s.s, .int .i64 x.a.c, .int .i64 x.a.s, .int .i64 x.p, .int .i64 x.g] ((w.alloc (.cells #[.string x.k, .string x.v, .bool x.d, .int .i64 x.s.c, .int .i64 x.s.s, .int .i64 x.a.c, .int .i64 x.a.s, .int .i64 x.p, .int .i64 x.g] 82)).alloc (.cells #[.string ⟨#[]⟩, .string ⟨#[]⟩, .bool false, .int .i64 0, .int .i64 0, .int .i64 0, .int .i64 0, .int .i64 0, .int .i64 0] 82))) := (Bn.new h).keep ((Only.refl none_ _).alloc _)
  have M2 : Hid (Bn a (w.heap.size + 1) 82 #[.string ⟨#[]⟩, .string ⟨#[]⟩, .bool false, .int .i64 0, .int .i64 0, .int .i64 0, .int .i64 0, .int .i64 0, .int .i64 0] ((w.alloc (.cells #[.string x.k, .string x.v, .bool x.d, .int .i64 x.s.c, .int .i64 x.s.s, .int .i64 x.a.c, .int .i64 x.a.s, .int .i64 x.p, .int .i64 x.g] 82)).alloc (.cells #[.string ⟨#[]⟩, .string ⟨#[]⟩, .bool false, .int .i64 0, .int .i64 0, .int .i64 0, .int .i64 0, .int .i64 0, .int .i64 0] 82))) := by
    have := Bn.new (t := 82) (cs := #[.string ⟨#[]⟩, .string ⟨#[]⟩, .bool false, .int .i64 0, .int .i64 0, .int .i64 0, .int .i64 0, .int .i64 0, .int .i64 0]) (h.keep ((Only.refl none_ w).alloc (.cells #[.string x.k, .string x.v, .bool x.d, .int .i64 x.s.c, .int .i64 x.s.s, .int .i64 x.a.c, .int .i64 x.a.s, .int .i64 x.p, .int .i64 x.g] 82)))
    rwa [World.size_alloc] at this
  have HCK := Lib.hid (fun (X : World) => en_check x X)
  have q2 := nine_of N2.out.b
  rw [hc] at HCK
  have hx : x.d = true → 0 ≤ x.g ∧ x.g ≤ 2147483647 := fun hd => ⟨((check_of hc).2.2.2.2.2.2.2 hd).2.2.1, ((check_of hc).2.2.2.2.2.2.2 hd).2.2.2⟩
  have HSE := Lib.hid (fun (X : World) (hX : Rp B a s X) => rp_see B a s x.a X hX)
  obtain ⟨s1, hs1⟩ : ∃ s1, seeS s x = s1 := ⟨_, rfl⟩
  have hs1' : ({ s with c := seeC s.c x.a } : Rs) = s1 := hs1
  rw [hs1'] at HSE
  have ho : s1.o = s.o := by rw [← hs1]; rfl
  have ht : s1.tab = s.tab := by rw [← hs1]; rfl
  have HNE := Lib.hid (fun (a1 : Ra) (X : World) (hX : Rp B a1 s1 X) (e1 : a1.r = r) => by
    have := ct_news B a1 s1 x X hX
    rw [e1, ht, hn] at this
    exact this)
  have HC5 : Hid (∀ X, Rp B a s X → X.cell? ⟨r, 5, none⟩ = some (.pointer (some ⟨a.ck, 0, none⟩))) := fun X hX => hX.at_ hr rfl
  have HEX := Lib.hid (fun (a1 : Ra) (X : World) (hX : Rp B a1 s1 X) (e1 : a1.r = r) => by
    have := rp_expired B a1 s1 x X hX hx
    rw [e1, ho, hl] at this
    exact this)
  have HRM := Lib.hid (fun (a1 : Ra) (X : World) (hX : Rp B a1 s1 X) (e1 : a1.r = r) => by
    have := ct_room B a1 s1 x.k X hX
    rw [e1, ho, ht, hf] at this
    exact this)
  have ok1 : Rky s1 := by rw [← hs1]; exact ⟨ok.m, ok.g, ok.w, ok.d, ok.n⟩
  have go1 : Gok s1 := by
    have h2 := see_ge s.c x.a go.c
    rw [← hs1]
    exact ⟨h2.2, go.si, go.t, fun y hy => ⟨(go.g y hy).1, (go.g y hy).2.1, Int.le_trans (go.g y hy).2.2 h2.1⟩⟩
  have HTK := Lib.hid (fun (a1 : Ra) (X : World) (hX : Rp B a1 s1 X) (e1 : a1.r = r) => by
    have := rp_take B a1 s1 x X hX ok1 go1 hc (by rw [ho]; exact hl) (by rw [ht]; exact hn) (by rw [ht]; exact hT) (by rw [ho, ht]; exact hf)
    rw [e1] at this
    exact this)
  rw [hs1]
  obtain ⟨⟨s2, k2, e2, z2⟩, hq⟩ : ∃ q, tqR s1 x = q := ⟨_, rfl⟩
  rw [hq] at HTK ⊢
  dsimp only at HTK ⊢
  clear ok1 go1
  rw [hr]
  have HR := Lib.hid hr
  clear h hc hr hx hs1 hs1' ho ht hn hl hf ok go hT hq
  go_enter Tryz.func35, Tryz.ntmps35
  go_wp2_with (first
    | (go_at_call 83; refine (HCK.out _).mono ?_; rintro E w3 ⟨rfl, o3⟩
       have C3 := Lib.hid (C2.out.keep o3)
       have N3 := Lib.hid (N2.out.keep o3)
       have M3 := Lib.hid (M2.out.keep o3)
       clear o3))
  clear q2 C2 N2 M2 HCK
  (refine wp_region_steady (fun X => Only none_ w3 X) 6 (by kernel_rfl) (by kernel_rfl) ((Only.refl none_ w3).drew) ?_; simp only [List.take_succ_cons, List.take_zero, List.drop_succ_cons, List.drop_zero])
  repeat (first
    | (refine sd_value (v := ?_) (by rfl) (fun w0 hS => ?_) ?_; rotate_left; (· (have c5 := HC5.out _ (C3.out.keep hS).r; have qq := nine_of (N3.out.keep hS).b; go_simp; try (with_reducible rfl))); try simp only [Act.put, List.setIfInBounds_toArray, List.set_cons_zero, List.set_cons_succ]))
  refine sd_nil ?_
  intro w4 t4
  have C4 := Lib.hid (C3.out.keep t4)
  have N4 := Lib.hid (N3.out.keep t4)
  have M4 := Lib.hid (M3.out.keep t4)
  clear t4
  go_wp2_with (first
    | (go_at_call 84; refine (HSE.out _ C4.out.r).mono ?_; rintro E w5 ⟨⟨bs, rfl⟩, L5⟩
       obtain ⟨a5, c5, e5, b5⟩ := C4.out.step L5
       have C5 := Lib.hid c5
       have N5 := Lib.hid (b5 _ _ _ N4.out)
       have M5 := Lib.hid (b5 _ _ _ M4.out)
       have E5 : Hid (a5.r = r) := e5.trans HR.out
       clear c5 b5 e5 L5))
  (refine wp_region_steady (fun X => Only none_ w5 X) 7 (by kernel_rfl) (by kernel_rfl) ((Only.refl none_ w5).drew) ?_; simp only [List.take_succ_cons, List.take_zero, List.drop_succ_cons, List.drop_zero])
  repeat (first
    | (refine sd_value (v := ?_) (by rfl) (fun w0 hS => ?_) ?_; rotate_left; (· (have qq := nine_of (N5.out.keep hS).b; go_simp; try (with_reducible rfl))); try simp only [Act.put, List.setIfInBounds_toArray, List.set_cons_zero, List.set_cons_succ])
    | (refine sd_call (v := ?_) (f := 85) (args := ?_) (by rfl) (fun w0 hS => ?_) (fun w0 hS => ?_) ?_; rotate_left 2; (· (skip; go_simp; try (with_reducible rfl))); (· (refine (HNE.out a5 _ (C5.out.keep hS).r E5.out).mono ?_; rintro E w8 ⟨rfl, o8⟩; refine ⟨?_, hS.trans o8⟩; rfl)); try simp only [Act.put, List.setIfInBounds_toArray, List.set_cons_zero, List.set_cons_succ]))
  refine sd_nil ?_
  intro w6 t6
  have C6 := Lib.hid (C5.out.keep t6)
  have N6 := Lib.hid (N5.out.keep t6)
  have M6 := Lib.hid (M5.out.keep t6)
  have q6 := nine_of N6.out.b
  clear t6 C5 N5 M5 C4 N4 M4 C3 N3 M3
  go_wp2_with (first
    | (go_at_call 87; refine (HEX.out a5 _ C6.out.r E5.out).mono ?_; rintro E w7 ⟨rfl, o7⟩
       have C7 := Lib.hid (C6.out.keep o7)
       have N7 := Lib.hid (N6.out.keep o7)
       have M7 := Lib.hid (M6.out.keep o7)
       clear o7))
  (refine wp_region_steady (fun X => Only none_ w7 X) 8 (by kernel_rfl) (by kernel_rfl) ((Only.refl none_ w7).drew) ?_; simp only [List.take_succ_cons, List.take_zero, List.drop_succ_cons, List.drop_zero])
  repeat (first
    | (refine sd_value (v := ?_) (by rfl) (fun w0 hS => ?_) ?_; rotate_left; (· (have qq := nine_of (N7.out.keep hS).b; go_simp; try (with_reducible rfl))); try simp only [Act.put, List.setIfInBounds_toArray, List.set_cons_zero, List.set_cons_succ])
    | (refine sd_call (v := ?_) (f := 88) (args := ?_) (by rfl) (fun w0 hS => ?_) (fun w0 hS => ?_) ?_; rotate_left 2; (· (have qq := nine_of (N7.out.keep hS).b; go_simp; try (with_reducible rfl))); (· (refine (HRM.out a5 _ (C7.out.keep hS).r E5.out).mono ?_; rintro E w9 ⟨rfl, o9⟩; refine ⟨?_, hS.trans o9⟩; rfl)); try simp only [Act.put, List.setIfInBounds_toArray, List.set_cons_zero, List.set_cons_succ]))
  refine sd_nil ?_
  intro w8 t8
  have C8 := Lib.hid (C7.out.keep t8)
  have N8 := Lib.hid (N7.out.keep t8)
  have M8 := Lib.hid (M7.out.keep t8)
  have q8 := nine_of N8.out.b
  clear t8 q6
  go_wp2_with (first
    | (go_at_call 89; refine (HTK.out a5 _ C8.out.r E5.out).mono ?_; rintro E w9 ⟨rfl, L9⟩
       obtain ⟨a9, c9, e9, b9⟩ := C8.out.step L9
       have C9 := Lib.hid c9
       have M9 := Lib.hid (b9 _ _ _ M8.out)
       clear c9 b9 e9 L9)
    | (refine wpList_store_row rfl 82 _ _ rfl (w.heap.size + 1) #[.string e2.k, .string e2.v, .bool e2.d, .int .i64 e2.s.c, .int .i64 e2.s.s, .int .i64 e2.a.c, .int .i64 e2.a.s, .int .i64 e2.p, .int .i64 e2.g] rfl rfl _ _ M9.out.b (by kernel_rfl) (by kernel_rfl) (en_cells_one _) ?_))
  refine bodyPost_ret (results_tct rfl _ _ (w.heap.size + 1) 82 #[.string e2.k, .string e2.v, .bool e2.d, .int .i64 e2.s.c, .int .i64 e2.s.s, .int .i64 e2.a.c, .int .i64 e2.a.s, .int .i64 e2.p, .int .i64 e2.g] _ rfl (M9.out.b.setRow _) Tryz.underlying82 rfl (by kernel_rfl) (.int .i64 k2) (.int .i64 z2) rfl rfl) rfl ?_
  exact ⟨rfl, (C9.out.box M9.out (by omega) (only_row _ _)).left⟩
theorem rp_merge (B : World) (a : Ra) (s : Rs) (x : En) (w : World) (h : Rp B a s w) (ok : Rky s) (go : Gok s) (hT : ∀ e ∈ s.tab, enCheck e = 0) :
    Calls Tryz.prog 35 #[.pointer (some ⟨a.r, 0, none⟩), .agg #[.string x.k, .string x.v, .bool x.d, .int .i64 x.s.c, .int .i64 x.s.s, .int .i64 x.a.c, .int .i64 x.a.s, .int .i64 x.p, .int .i64 x.g]] w fun E w' => E = .returned (.tuple #[.int .i64 (mgR s x).2.1, .agg #[.string (mgR s x).2.2.1.k, .string (mgR s x).2.2.1.v, .bool (mgR s x).2.2.1.d, .int .i64 (mgR s x).2.2.1.s.c, .int .i64 (mgR s x).2.2.1.s.s, .int .i64 (mgR s x).2.2.1.a.c, .int .i64 (mgR s x).2.2.1.a.s, .int .i64 (mgR s x).2.2.1.p, .int .i64 (mgR s x).2.2.1.g], .int .i64 (mgR s x).2.2.2]) ∧ LeftP B a w ((mgR s x).1) w' := by
  by_cases hc : enCheck x = 0
  · cases hn : newsM s.tab x with
    | false =>
      rw [mgR, if_neg (by simp [hc]), if_pos hn]
      exact rp_merge_old B a s x w h hc hn
    | true =>
      cases hl : lateM s.o x with
      | true =>
        rw [mgR, if_neg (by simp [hc]), if_neg (by simp [hn]), if_pos hl]
        exact rp_merge_late B a s x w h hc hn hl
      | false =>
        cases hf : fullM s.o s.tab x.k with
        | true =>
          rw [mgR, if_neg (by simp [hc]), if_neg (by simp [hn]), if_neg (by simp [hl]), if_pos hf]
          exact rp_merge_full B a s x w h hc hn hl hf
        | false =>
          rw [mgR, if_neg (by simp [hc]), if_neg (by simp [hn]), if_neg (by simp [hl]), if_neg (by simp [hf])]
          exact rp_merge_take B a s x w h hc hn hl hf ok go hT
  · rw [mgR, if_pos hc]
    exact rp_merge_bad B a s x w h hc
end Go.Proofs.YtoohpcomnhfgpaaGreat
end
section
namespace Go.Proofs.YtoohpcomnhfgpaaGreat
open Go.RowKit
set_option maxRecDepth 100000
set_option linter.all false
theorem rp_within (n a b : Int) (w : World) :
    Calls Tryz.prog 62 #[.int .i64 n, .int .i64 a, .int .i64 b] w fun E w' => E = .returned (.bool (decide (a ≤ n ∧ n ≤ b))) ∧ w = w' := by
  by_cases h1 : a ≤ n
  · have d1 : decide (a ≤ n) = true := decide_eq_true h1
    have e : decide (a ≤ n ∧ n ≤ b) = decide (n ≤ b) := by simp [h1]
    rw [e]
    clear h1 e
    go_enter Tryz.func62, Tryz.ntmps62
    go_wp2_with fail
    go_ret
    exact ⟨by simp, rfl⟩
  · have d1 : decide (a ≤ n) = false := decide_eq_false h1
    have e : decide (a ≤ n ∧ n ≤ b) = false := by simp [h1]
    rw [e]
    clear h1 e
    go_enter Tryz.func62, Tryz.ntmps62
    go_wp2_with fail
    go_ret
    exact ⟨rfl, rfl⟩
set_option maxHeartbeats 25600000 in
theorem rp_check (o : Ro) (w : World) :
    Calls Tryz.prog 18 #[.agg #[.int .i64 o.n, .int .i64 o.q, .int .i64 o.r, .int .i64 o.t1, .int .i64 o.t2]] w fun E w' => E = .returned (.int .i64 (roCheck o)) ∧ Only none_ w w' := by
  obtain ⟨n, q, r, t1, t2⟩ := o
  have O0 := Lib.hid ((Only.refl none_ w).alloc (.cells #[.int .i64 n, .int .i64 q, .int .i64 r, .int .i64 t1, .int .i64 t2] 33))
  have hr : roCheck ⟨n, q, r, t1, t2⟩ = if (!(decide (1 ≤ n ∧ n ≤ 12) && decide (1 ≤ q ∧ q ≤ 64) && decide (1 ≤ r ∧ r ≤ n) && decide (0 ≤ t1 ∧ t1 ≤ 2147483647) && decide (t1 ≤ t2 ∧ t2 ≤ (if t1 = 0 then 0 else 2147483647)))) = true then 14 else 0 := rfl
  rw [hr]
  clear hr
  have H1 := Lib.hid (fun X => rp_within n 1 12 X)
  have H2 := Lib.hid (fun X => rp_within q 1 64 X)
  have H3 := Lib.hid (fun X => rp_within r 1 n X)
  have H4 := Lib.hid (fun X => rp_within t1 0 2147483647 X)
  have H5 := Lib.hid (fun X => rp_within t2 t1 (if t1 = 0 then 0 else 2147483647) X)
  obtain ⟨b1, h1⟩ : ∃ b, decide (1 ≤ n ∧ n ≤ 12) = b := ⟨_, rfl⟩
  obtain ⟨b2, h2⟩ : ∃ b, decide (1 ≤ q ∧ q ≤ 64) = b := ⟨_, rfl⟩
  obtain ⟨b3, h3⟩ : ∃ b, decide (1 ≤ r ∧ r ≤ n) = b := ⟨_, rfl⟩
  obtain ⟨b4, h4⟩ : ∃ b, decide (0 ≤ t1 ∧ t1 ≤ 2147483647) = b := ⟨_, rfl⟩
  obtain ⟨b5, h5⟩ : ∃ b, decide (t1 ≤ t2 ∧ t2 ≤ (if t1 = 0 then 0 else 2147483647)) = b := ⟨_, rfl⟩
  rw [h1] at H1 ⊢
  rw [h2] at H2 ⊢
  rw [h3] at H3 ⊢
  rw [h4] at H4 ⊢
  rw [h5] at H5 ⊢
  clear h1 h2 h3 h4 h5
  by_cases ht : t1 = 0
  · have hz : (t1 == 0) = true := by simp [ht]
    rw [if_pos ht] at H5
    clear ht
    cases b1 with
    | false =>
      go_enter Tryz.func18, Tryz.ntmps18
      go_wp2_with (first
        | (go_at_call 62; with_reducible refine (H1.out _).mono ?_; rintro E w1 ⟨rfl, rfl⟩)
        | (go_at_call 62; with_reducible refine (H2.out _).mono ?_; rintro E w2 ⟨rfl, rfl⟩)
        | (go_at_call 62; with_reducible refine (H3.out _).mono ?_; rintro E w3 ⟨rfl, rfl⟩)
        | (go_at_call 62; with_reducible refine (H4.out _).mono ?_; rintro E w4 ⟨rfl, rfl⟩)
        | (go_at_call 62; with_reducible refine (H5.out _).mono ?_; rintro E w5 ⟨rfl, rfl⟩))
      go_ret
      exact ⟨rfl, O0.out⟩
    | true =>
      cases b2 with
      | false =>
        go_enter Tryz.func18, Tryz.ntmps18
        go_wp2_with (first
          | (go_at_call 62; with_reducible refine (H1.out _).mono ?_; rintro E w1 ⟨rfl, rfl⟩)
          | (go_at_call 62; with_reducible refine (H2.out _).mono ?_; rintro E w2 ⟨rfl, rfl⟩)
          | (go_at_call 62; with_reducible refine (H3.out _).mono ?_; rintro E w3 ⟨rfl, rfl⟩)
          | (go_at_call 62; with_reducible refine (H4.out _).mono ?_; rintro E w4 ⟨rfl, rfl⟩)
          | (go_at_call 62; with_reducible refine (H5.out _).mono ?_; rintro E w5 ⟨rfl, rfl⟩))
        go_ret
        exact ⟨rfl, O0.out⟩
      | true =>
        cases b3 with
        | false =>
          go_enter Tryz.func18, Tryz.ntmps18
          go_wp2_with (first
            | (go_at_call 62; with_reducible refine (H1.out _).mono ?_; rintro E w1 ⟨rfl, rfl⟩)
            | (go_at_call 62; with_reducible refine (H2.out _).mono ?_; rintro E w2 ⟨rfl, rfl⟩)
            | (go_at_call 62; with_reducible refine (H3.out _).mono ?_; rintro E w3 ⟨rfl, rfl⟩)
            | (go_at_call 62; with_reducible refine (H4.out _).mono ?_; rintro E w4 ⟨rfl, rfl⟩)
            | (go_at_call 62; with_reducible refine (H5.out _).mono ?_; rintro E w5 ⟨rfl, rfl⟩))
          go_ret
          exact ⟨rfl, O0.out⟩
        | true =>
          cases b4 with
          | false =>
            go_enter Tryz.func18, Tryz.ntmps18
            go_wp2_with (first
              | (go_at_call 62; with_reducible refine (H1.out _).mono ?_; rintro E w1 ⟨rfl, rfl⟩)
              | (go_at_call 62; with_reducible refine (H2.out _).mono ?_; rintro E w2 ⟨rfl, rfl⟩)
              | (go_at_call 62; with_reducible refine (H3.out _).mono ?_; rintro E w3 ⟨rfl, rfl⟩)
              | (go_at_call 62; with_reducible refine (H4.out _).mono ?_; rintro E w4 ⟨rfl, rfl⟩)
              | (go_at_call 62; with_reducible refine (H5.out _).mono ?_; rintro E w5 ⟨rfl, rfl⟩))
            go_ret
            exact ⟨rfl, O0.out⟩
          | true =>
            cases b5 with
            | false =>
              go_enter Tryz.func18, Tryz.ntmps18
              go_wp2_with (first
                | (go_at_call 62; with_reducible refine (H1.out _).mono ?_; rintro E w1 ⟨rfl, rfl⟩)
                | (go_at_call 62; with_reducible refine (H2.out _).mono ?_; rintro E w2 ⟨rfl, rfl⟩)
                | (go_at_call 62; with_reducible refine (H3.out _).mono ?_; rintro E w3 ⟨rfl, rfl⟩)
                | (go_at_call 62; with_reducible refine (H4.out _).mono ?_; rintro E w4 ⟨rfl, rfl⟩)
                | (go_at_call 62; with_reducible refine (H5.out _).mono ?_; rintro E w5 ⟨rfl, rfl⟩))
              go_ret
              exact ⟨rfl, O0.out⟩
            | true =>
              go_enter Tryz.func18, Tryz.ntmps18
              go_wp2_with (first
                | (go_at_call 62; with_reducible refine (H1.out _).mono ?_; rintro E w1 ⟨rfl, rfl⟩)
                | (go_at_call 62; with_reducible refine (H2.out _).mono ?_; rintro E w2 ⟨rfl, rfl⟩)
                | (go_at_call 62; with_reducible refine (H3.out _).mono ?_; rintro E w3 ⟨rfl, rfl⟩)
                | (go_at_call 62; with_reducible refine (H4.out _).mono ?_; rintro E w4 ⟨rfl, rfl⟩)
                | (go_at_call 62; with_reducible refine (H5.out _).mono ?_; rintro E w5 ⟨rfl, rfl⟩))
              go_ret
              exact ⟨rfl, O0.out⟩
  · have hz : (t1 == 0) = false := by simpa using ht
    rw [if_neg ht] at H5
    clear ht
    cases b1 with
    | false =>
      go_enter Tryz.func18, Tryz.ntmps18
      go_wp2_with (first
        | (go_at_call 62; with_reducible refine (H1.out _).mono ?_; rintro E w1 ⟨rfl, rfl⟩)
        | (go_at_call 62; with_reducible refine (H2.out _).mono ?_; rintro E w2 ⟨rfl, rfl⟩)
        | (go_at_call 62; with_reducible refine (H3.out _).mono ?_; rintro E w3 ⟨rfl, rfl⟩)
        | (go_at_call 62; with_reducible refine (H4.out _).mono ?_; rintro E w4 ⟨rfl, rfl⟩)
        | (go_at_call 62; with_reducible refine (H5.out _).mono ?_; rintro E w5 ⟨rfl, rfl⟩))
      go_ret
      exact ⟨rfl, O0.out⟩
    | true =>
      cases b2 with
      | false =>
        go_enter Tryz.func18, Tryz.ntmps18
        go_wp2_with (first
          | (go_at_call 62; with_reducible refine (H1.out _).mono ?_; rintro E w1 ⟨rfl, rfl⟩)
          | (go_at_call 62; with_reducible refine (H2.out _).mono ?_; rintro E w2 ⟨rfl, rfl⟩)
          | (go_at_call 62; with_reducible refine (H3.out _).mono ?_; rintro E w3 ⟨rfl, rfl⟩)
          | (go_at_call 62; with_reducible refine (H4.out _).mono ?_; rintro E w4 ⟨rfl, rfl⟩)
          | (go_at_call 62; with_reducible refine (H5.out _).mono ?_; rintro E w5 ⟨rfl, rfl⟩))
        go_ret
        exact ⟨rfl, O0.out⟩
      | true =>
        cases b3 with
        | false =>
          go_enter Tryz.func18, Tryz.ntmps18
          go_wp2_with (first
            | (go_at_call 62; with_reducible refine (H1.out _).mono ?_; rintro E w1 ⟨rfl, rfl⟩)
            | (go_at_call 62; with_reducible refine (H2.out _).mono ?_; rintro E w2 ⟨rfl, rfl⟩)
            | (go_at_call 62; with_reducible refine (H3.out _).mono ?_; rintro E w3 ⟨rfl, rfl⟩)
            | (go_at_call 62; with_reducible refine (H4.out _).mono ?_; rintro E w4 ⟨rfl, rfl⟩)
            | (go_at_call 62; with_reducible refine (H5.out _).mono ?_; rintro E w5 ⟨rfl, rfl⟩))
          go_ret
          exact ⟨rfl, O0.out⟩
        | true =>
          cases b4 with
          | false =>
            go_enter Tryz.func18, Tryz.ntmps18
            go_wp2_with (first
              | (go_at_call 62; with_reducible refine (H1.out _).mono ?_; rintro E w1 ⟨rfl, rfl⟩)
              | (go_at_call 62; with_reducible refine (H2.out _).mono ?_; rintro E w2 ⟨rfl, rfl⟩)
              | (go_at_call 62; with_reducible refine (H3.out _).mono ?_; rintro E w3 ⟨rfl, rfl⟩)
              | (go_at_call 62; with_reducible refine (H4.out _).mono ?_; rintro E w4 ⟨rfl, rfl⟩)
              | (go_at_call 62; with_reducible refine (H5.out _).mono ?_; rintro E w5 ⟨rfl, rfl⟩))
            go_ret
            exact ⟨rfl, O0.out⟩
          | true =>
            cases b5 with
            | false =>
              go_enter Tryz.func18, Tryz.ntmps18
              go_wp2_with (first
                | (go_at_call 62; with_reducible refine (H1.out _).mono ?_; rintro E w1 ⟨rfl, rfl⟩)
                | (go_at_call 62; with_reducible refine (H2.out _).mono ?_; rintro E w2 ⟨rfl, rfl⟩)
                | (go_at_call 62; with_reducible refine (H3.out _).mono ?_; rintro E w3 ⟨rfl, rfl⟩)
                | (go_at_call 62; with_reducible refine (H4.out _).mono ?_; rintro E w4 ⟨rfl, rfl⟩)
                | (go_at_call 62; with_reducible refine (H5.out _).mono ?_; rintro E w5 ⟨rfl, rfl⟩))
              go_ret
              exact ⟨rfl, O0.out⟩
            | true =>
              go_enter Tryz.func18, Tryz.ntmps18
              go_wp2_with (first
                | (go_at_call 62; with_reducible refine (H1.out _).mono ?_; rintro E w1 ⟨rfl, rfl⟩)
                | (go_at_call 62; with_reducible refine (H2.out _).mono ?_; rintro E w2 ⟨rfl, rfl⟩)
                | (go_at_call 62; with_reducible refine (H3.out _).mono ?_; rintro E w3 ⟨rfl, rfl⟩)
                | (go_at_call 62; with_reducible refine (H4.out _).mono ?_; rintro E w4 ⟨rfl, rfl⟩)
                | (go_at_call 62; with_reducible refine (H5.out _).mono ?_; rintro E w5 ⟨rfl, rfl⟩))
              go_ret
              exact ⟨rfl, O0.out⟩
end Go.Proofs.YtoohpcomnhfgpaaGreat
end
section
namespace Go.Proofs.YtoohpcomnhfgpaaGreat
open Go.RowKit
set_option maxRecDepth 100000
set_option linter.all false
abbrev nilV : Value := .slice none 0 0
structure Bk (B : World) (a : Ra) (o : Ro) (site : Int) (w0 w : World) : Prop where
  bk : Blk w a.r 78 #[.int .i64 o.n, .int .i64 o.q, .int .i64 o.r, .int .i64 o.t1, .int .i64 o.t2, .pointer (some ⟨a.ck, 0, none⟩), .pointer (some ⟨a.tb, 0, none⟩), .int .u64 0, .pointer (some ⟨a.mx, 0, none⟩), .pointer (some ⟨a.gv, 0, none⟩), .map (some a.ob), .pointer none, .pointer none]
  ck : Clk w a.ck site 0
  tb : Se.Tb B a.tb (roRoom o) (prs []) nilV w
  mx : Rc B.heap.size a.mx a.mb [] [] nilV w
  gv : Gv B a.gv a.gt site o.t2 [] nilV w
  ob : Mq w a.ob []
  o : Only none_ w0 w
  v : a.vt = nilV ∧ a.vm = nilV ∧ a.vg = nilV
  ge : ∀ i k, i < 6 → ft a i k → w0.heap.size ≤ k ∧ k < w.heap.size
  dj : ∀ i j k, i < 6 → j < 6 → i ≠ j → ft a i k → ¬ ft a j k
theorem foot_nil {g k : Nat} (h : foot g nilV k) : k = g := by
  rcases h with h | h
  · exact h
  · cases h
theorem Ft_nil {g mb k : Nat} (h : Ft g mb nilV k) : k = g ∨ k = mb := by
  rcases h with h | h | h
  · exact .inl h
  · exact .inr h
  · cases h
theorem gfoot_nil {g tb k : Nat} (h : gfoot g tb nilV k) : k = g ∨ k = tb := by
  rcases h with h | h
  · exact .inl h
  · exact .inr (foot_nil h)
theorem blank_ft {a : Ra} (hv : a.vt = nilV ∧ a.vm = nilV ∧ a.vg = nilV) : ∀ i k, i < 6 → ft a i k → (i = 0 ∧ k = a.r) ∨ (i = 1 ∧ k = a.ck) ∨ (i = 2 ∧ k = a.tb) ∨ (i = 3 ∧ (k = a.mx ∨ k = a.mb)) ∨ (i = 4 ∧ (k = a.gv ∨ k = a.gt)) ∨ (i = 5 ∧ k = a.ob)
  | 0, k, _, h => .inl ⟨rfl, h⟩
  | 1, k, _, h => .inr (.inl ⟨rfl, h⟩)
  | 2, k, _, h => .inr (.inr (.inl ⟨rfl, foot_nil (by have h' : foot a.tb a.vt k := h; rwa [hv.1] at h')⟩))
  | 3, k, _, h => .inr (.inr (.inr (.inl ⟨rfl, Ft_nil (by have h' : Ft a.mx a.mb a.vm k := h; rwa [hv.2.1] at h')⟩)))
  | 4, k, _, h => .inr (.inr (.inr (.inr (.inl ⟨rfl, gfoot_nil (by have h' : gfoot a.gv a.gt a.vg k := h; rwa [hv.2.2] at h')⟩))))
  | 5, k, _, h => .inr (.inr (.inr (.inr (.inr ⟨rfl, h⟩))))
  | _ + 6, _, h, _ => absurd h (by omega)
theorem blank_dj {a : Ra} {w0 w : World} (hv : a.vt = nilV ∧ a.vm = nilV ∧ a.vg = nilV) (n1 n2 n3 : Nat) (h1 : w0.heap.size ≤ a.ck ∧ a.ck < n1) (h2 : n1 ≤ a.tb ∧ a.tb < n2) (h3 : (n2 ≤ a.gv ∧ a.gv < n3) ∧ (n2 ≤ a.gt ∧ a.gt < n3)) (h4 : (n3 ≤ a.mx ∧ a.mx < a.r) ∧ (n3 ≤ a.mb ∧ a.mb < a.r) ∧ (n3 ≤ a.ob ∧ a.ob < a.r)) (h5 : a.ob ≠ a.mx ∧ a.ob ≠ a.mb) (h6 : a.r < w.heap.size) :
    (∀ i k, i < 6 → ft a i k → w0.heap.size ≤ k ∧ k < w.heap.size) ∧ ∀ i j k, i < 6 → j < 6 → i ≠ j → ft a i k → ¬ ft a j k := by
  refine ⟨fun i k hi h => ?_, fun i j k hi hj hij h h' => ?_⟩
  · have := blank_ft hv i k hi h
    omega
  · have e1 := blank_ft hv i k hi h
    have e2 := blank_ft hv j k hj h'
    omega
theorem Rc.low {N M g mb : Nat} {l q : List Mk} {v : Value} {w : World} (h : Rc N g mb l q v w) (hN : M ≤ N) : Rc M g mb l q v w :=
  ⟨h.bk, owns_base h.ow hN, h.mp, Nat.le_trans hN h.gn, Nat.le_trans hN h.mn, h.ix, h.ml⟩
theorem Bk.of {B w0 w1 w2 w3 W : World} {o : Ro} {site : Int} {ck tb gv gt mg mb ob r : Nat} (hr : W.heap.size = r) (hB : Only none_ B w0) (O1 : Only none_ w0 w1) (O2 : Only none_ w0 w2) (O3 : Only none_ w0 w3) (O5 : Only none_ w3 W)
    (k1 : w0.heap.size ≤ ck ∧ ck < w1.heap.size) (k3 : Clk w3 ck site 0) (t2 : w1.heap.size ≤ tb ∧ tb < w2.heap.size) (t3 : Se.Tb B tb (roRoom o) [] nilV w3) (g3 : w2.heap.size ≤ gv ∧ w2.heap.size ≤ gt ∧ Gv B gv gt site o.t2 [] nilV w3)
    (hR : Rc w3.heap.size mg mb [] [] nilV W) (hM : Mq W ob []) (h4 : w3.heap.size ≤ ob) (h5 : ob ≠ mg ∧ ob ≠ mb) :
    Bk B ⟨r, ck, tb, nilV, mg, mb, nilV, gv, gt, nilV, ob, 0, nilV, 0⟩ o site w0 (W.alloc (.cells #[.int .i64 o.n, .int .i64 o.q, .int .i64 o.r, .int .i64 o.t1, .int .i64 o.t2, .pointer (some ⟨ck, 0, none⟩), .pointer (some ⟨tb, 0, none⟩), .int .u64 0, .pointer (some ⟨mg, 0, none⟩), .pointer (some ⟨gv, 0, none⟩), .map (some ob), .pointer none, .pointer none] 78)) := by
  subst hr
  have oA : Only none_ W (W.alloc (.cells #[.int .i64 o.n, .int .i64 o.q, .int .i64 o.r, .int .i64 o.t1, .int .i64 o.t2, .pointer (some ⟨ck, 0, none⟩), .pointer (some ⟨tb, 0, none⟩), .int .u64 0, .pointer (some ⟨mg, 0, none⟩), .pointer (some ⟨gv, 0, none⟩), .map (some ob), .pointer none, .pointer none] 78)) := (Only.refl none_ W).alloc _
  have hg := (g3.2.2.foot_ge (k := gv) (.inl rfl)).2
  have hgt := (g3.2.2.foot_ge (k := gt) (.inr (.inl rfl))).2
  have hm := (hR.foot (k := mg) (.inl rfl))
  have hmb := (hR.foot (k := mb) (.inr (.inl rfl)))
  have hob := hM.lt
  have hd := blank_dj (a := ⟨W.heap.size, ck, tb, nilV, mg, mb, nilV, gv, gt, nilV, ob, 0, nilV, 0⟩) (w0 := w0) (w := W.alloc (.cells #[.int .i64 o.n, .int .i64 o.q, .int .i64 o.r, .int .i64 o.t1, .int .i64 o.t2, .pointer (some ⟨ck, 0, none⟩), .pointer (some ⟨tb, 0, none⟩), .int .u64 0, .pointer (some ⟨mg, 0, none⟩), .pointer (some ⟨gv, 0, none⟩), .map (some ob), .pointer none, .pointer none] 78))
    ⟨rfl, rfl, rfl⟩ w1.heap.size w2.heap.size w3.heap.size k1 t2 ⟨⟨g3.1, hg⟩, ⟨g3.2.1, hgt⟩⟩ ⟨hm, hmb, ⟨h4, hob⟩⟩ h5 (by show W.heap.size < _; rw [World.size_alloc]; omega)
  exact ⟨Blk.new _ _ _, Clk.only (Clk.only k3 O5 (fun h => h)) oA (fun h => h), (t3.keep O5).keep oA, (hR.low (Nat.le_trans hB.size O3.size)).keep oA, (g3.2.2.keep O5).keep oA, hM.only oA (fun h => h), (O3.trans O5).trans oA, ⟨rfl, rfl, rfl⟩, hd.1, hd.2⟩
theorem five_of {w : World} {g : Nat} {t : TypeId} {a0 a1 a2 a3 a4 : Value} (h : Blk w g t #[a0, a1, a2, a3, a4]) : w.cell? ⟨g, 0, none⟩ = some a0 ∧ w.cell? ⟨g, 1, none⟩ = some a1 ∧ w.cell? ⟨g, 2, none⟩ = some a2 ∧ w.cell? ⟨g, 3, none⟩ = some a3 ∧ w.cell? ⟨g, 4, none⟩ = some a4 :=
  ⟨h.cell_ rfl, h.cell_ rfl, h.cell_ rfl, h.cell_ rfl, h.cell_ rfl⟩
set_option maxHeartbeats 25600000 in
theorem rp_blank (B : World) (site : Int) (o : Ro) (w : World) (hB : Only none_ B w) (ho : roBad o = false) (hs : stSite site = true) :
    Calls Tryz.prog 64 #[.int .i64 site, .agg #[.int .i64 o.n, .int .i64 o.q, .int .i64 o.r, .int .i64 o.t1, .int .i64 o.t2]] w fun E w' => ∃ a, E = .returned (.pointer (some ⟨a.r, 0, none⟩)) ∧ Bk B a o site w w' := by
  have hok := ro_ok ho
  have hrm := ro_room ho
  have HNC := Lib.hid (fun (X : World) => clk_new site 0 X hs (by decide) (by decide))
  have HNT := Lib.hid (fun (X : World) (oX : Only none_ B X) => Se.tb_new_yes B (roRoom o) X oX (by omega) (by omega))
  have HNG := Lib.hid (fun (X : World) (oX : Only none_ B X) => gv_new B site o.t2 X oX hs (by omega))
  have hmk := fun (w : World) => run_makeMap (P := Tryz.prog) 75 w
  have hw : IntKind.i64.wrap (o.n * o.q) = roRoom o := IntWalk.i64_in _ (by unfold roRoom at hrm; omega)
  have O0 := Lib.hid ((Only.refl none_ w).alloc (.cells #[.int .i64 o.n, .int .i64 o.q, .int .i64 o.r, .int .i64 o.t1, .int .i64 o.t2] 33))
  have B0 := Lib.hid (Blk.new w 33 #[.int .i64 o.n, .int .i64 o.q, .int .i64 o.r, .int .i64 o.t1, .int .i64 o.t2])
  have HBW := Lib.hid hB
  obtain ⟨rm, hrr⟩ : ∃ rm, roRoom o = rm := ⟨_, rfl⟩
  rw [hrr] at HNT hw
  have HRR := Lib.hid hrr
  obtain ⟨on, oq, or, ot1, ot2⟩ := o
  dsimp only at HNT HNG hw O0 B0 ⊢
  have q0 := B0.out.cell_ (i := 0) rfl
  have q1 := B0.out.cell_ (i := 1) rfl
  clear hok hrm ho hs hB hrr
  go_enter Tryz.func64, Tryz.ntmps64
  go_wp2_with (first
    | (go_at_call 111; refine (HNC.out _).mono ?_; rintro E w1 ⟨rfl, k1, o1⟩
       have O1 := Lib.hid (O0.out.trans o1)
       have B1 := Lib.hid (B0.out.only o1 (fun h => h))
       rw [World.size_alloc] at k1
       have K1 := Lib.hid k1
       have KL : Hid (w.heap.size ≤ w.heap.size + 1 ∧ w.heap.size + 1 < w1.heap.size) := ⟨by omega, by have := Clk.lt k1; simpa using this⟩
       have q01 := B1.out.cell_ (i := 0) rfl
       have q11 := B1.out.cell_ (i := 1) rfl
       clear k1 o1)
    | (go_at_call 112; refine (HNT.out _ (HBW.out.trans O1.out)).mono ?_; rintro E w2 ⟨tb, rfl, g2, t2, o2⟩
       have O2 := Lib.hid (O1.out.trans o2)
       have B2 := Lib.hid (B1.out.only o2 (fun h => h))
       have K2 : Hid (Clk w2 _ _ _) := K1.out.only o2 (fun h => h)
       have T2 := Lib.hid (And.intro g2 t2)
       have q42 := B2.out.cell_ (i := 4) rfl
       clear g2 t2 o2)
    | (go_at_call 113; refine (HNG.out _ (HBW.out.trans O2.out)).mono ?_; rintro E w3 ⟨gv, gt, rfl, g3, gt3, t3, o3⟩
       have O3 := Lib.hid (O2.out.trans o3)
       have B3 := Lib.hid (B2.out.only o3 (fun h => h))
       have K3 : Hid (Clk w3 _ _ _) := K2.out.only o3 (fun h => h)
       have T3 := Lib.hid (And.intro T2.out.1 (T2.out.2.keep o3))
       have G3 := Lib.hid (And.intro g3 (And.intro gt3 t3))
       have SZ := Lib.hid (And.intro O1.out.size (And.intro O2.out.size O3.out.size))
       clear g3 gt3 t3 o3))
  clear q0 q1 q01 q11 q42
  have p := five_of (Blk.drew B3.out)
  have pm := five_of (Blk.drew (B3.out.alloc (.map #[] 0)))
  go_region_law (first
    | (refine Se.step_call (by simp [Region.wanted]) 114 #[] (by go_simp; try (with_reducible rfl)) ?_
       refine (rc_new _).mono ?_
       rintro E w5 ⟨mg, mb, rfl, r5, o5⟩
       refine ⟨_, rfl, ?_⟩
       have R5 := Lib.hid r5
       have O5 : Hid (Only none_ w3 w5) := by first | exact ((Only.refl none_ w3).drew).trans o5 | exact (((Only.refl none_ w3).alloc _).drew).trans o5
       try (have M5 : Hid (Mq w5 w3.heap.size []) := (((Mq.made w3).only (Only.refl none_ _).drew (fun h => h)).only o5 (fun h => h)))
       have B5 := Lib.hid (B3.out.only O5.out (fun h => h))
       have p5 := five_of B5.out
       have p5m := five_of (B5.out.alloc (.map #[] 0))
       clear o5))
  all_goals go_wp2_with fail
  all_goals try dsimp only [Act.put, List.getElem_toArray, List.getElem_cons_succ, List.getElem_cons_zero]
  all_goals try go_simp
  all_goals go_ret
  all_goals have rr := HRR.out
  all_goals subst rr
  all_goals first
    | (refine ⟨⟨w5.heap.size + 1, w.heap.size + 1, tb, nilV, mg, mb, nilV, gv, gt, nilV, w5.heap.size, 0, nilV, 0⟩, rfl, ?_⟩
       exact Bk.of (by simp) HBW.out O1.out O2.out O3.out (O5.out.alloc (.map #[] 0)) KL.out K3.out ⟨T2.out.1, T2.out.2.bk.lt⟩ T3.out.2 G3.out (R5.out.keep ((Only.refl none_ _).alloc _)) (Mq.made _) O5.out.size ⟨Nat.ne_of_gt (R5.out.foot (.inl rfl)).2, Nat.ne_of_gt (R5.out.foot (.inr (.inl rfl))).2⟩)
    | (refine ⟨⟨w5.heap.size, w.heap.size + 1, tb, nilV, mg, mb, nilV, gv, gt, nilV, w3.heap.size, 0, nilV, 0⟩, rfl, ?_⟩
       exact Bk.of rfl HBW.out O1.out O2.out O3.out O5.out KL.out K3.out ⟨T2.out.1, T2.out.2.bk.lt⟩ T3.out.2 G3.out (R5.out.low (by simp)) M5.out (Nat.le_refl _) (by
        have e1 := (R5.out.foot (.inl rfl)).1
        have e2 := (R5.out.foot (.inr (.inl rfl))).1
        simp at e1 e2
        omega))
end Go.Proofs.YtoohpcomnhfgpaaGreat
end
section
namespace Go.Proofs.YtoohpcomnhfgpaaGreat
open Go.RowKit
set_option maxRecDepth 100000
set_option linter.all false
theorem numR_lt (code : Int) (bs : List UInt8) (m : Nat) : (numR code bs (m : Int)).2.2 < 256 ^ m := by
  have h0 : 0 < 256 ^ m := Nat.pow_pos (by omega)
  unfold numR
  split
  · split
    · rename_i h
      rw [Int.toNat_natCast] at h ⊢
      exact le_take_lt bs m h.2
    · exact h0
  · exact h0
theorem numR_len (code : Int) (bs : List UInt8) (width : Int) : (numR code bs width).2.1.length ≤ bs.length := by
  unfold numR
  split
  · split
    · simp only [List.length_drop]; omega
    · exact Nat.le_refl _
  · exact Nat.le_refl _
structure Tk (B : World) (g : Nat) (S : Nat → Prop) (h : Nat) (t : TypeId) (cs : Array Value) (code : Int) (bs : List UInt8) (w : World) : Prop where
  rd : Rd w g S code bs
  bx : Blk w h t cs
  ho : Only (one g) B w
  gl : g < B.heap.size
  fr : ∀ b, S b → b < B.heap.size
  ge : B.heap.size ≤ h
section
variable {B w w' : World} {g h : Nat} {S : Nat → Prop} {t : TypeId} {cs : Array Value} {code code' : Int} {bs bs' : List UInt8}
theorem Tk.new (hr : Rd B g S code bs) (fr : ∀ b, S b → b < B.heap.size) : Tk B g S B.heap.size t cs code bs (B.alloc (.cells cs t)) :=
  ⟨hr.only ((Only.refl none_ _).alloc _) (fun h => h) (fun _ _ h => h), Blk.new _ _ _, (Only.refl _ _).alloc _, hr.lt, fr, Nat.le_refl _⟩
theorem Tk.step (s : Tk B g S h t cs code bs w) (hr : Rd w' g S code' bs') (o : Only (one g) w w') : Tk B g S h t cs code' bs' w' :=
  ⟨hr, s.bx.only o (fun e => by have e' : h = g := e; have := s.gl; have := s.ge; omega), s.ho.trans o, s.gl, s.fr, s.ge⟩
theorem Tk.keep (s : Tk B g S h t cs code bs w) (o : Only none_ w w') : Tk B g S h t cs code bs w' :=
  s.step (s.rd.only o (fun h => h) (fun _ _ h => h)) o.of_none
theorem Tk.set (s : Tk B g S h t cs code bs w) (i : Nat) (u : Value) : Tk B g S h t (cs.setIfInBounds i u) code bs (w.setCell ⟨h, i, none⟩ u) :=
  ⟨s.rd.only ((Only.refl (one h) w).setCell (p := ⟨h, i, none⟩) (.inl rfl) u) (fun e => by have e' : g = h := e; have := s.gl; have := s.ge; omega)
      (fun b hb e => by have e' : b = h := e; have := s.fr b hb; have := s.ge; omega),
    s.bx.set_ i u, s.ho.setCell (p := ⟨h, i, none⟩) (.inr s.ge) u, s.gl, s.fr, s.ge⟩
end
def stampR (code : Int) (bs : List UInt8) : Int × List UInt8 × St :=
  ((numR (numR code bs 4).1 (numR code bs 4).2.1 1).1, (numR (numR code bs 4).1 (numR code bs 4).2.1 1).2.1, ⟨(numR code bs 4).2.2, (numR (numR code bs 4).1 (numR code bs 4).2.1 1).2.2⟩)
set_option maxHeartbeats 800000 in
theorem take_stamp (g : Nat) (S : Nat → Prop) (code : Int) (bs : List UInt8) (w : World) (hr : Rd w g S code bs) (fr : ∀ b, S b → b < w.heap.size) (hm : bs.length ≤ 140737488355328) :
    Calls Tryz.prog 257 #[.pointer (some ⟨g, 0, none⟩)] w fun e w' =>
      e = .returned (.agg #[.int .i64 (stampR code bs).2.2.c, .int .i64 (stampR code bs).2.2.s]) ∧ Rd w' g S (stampR code bs).1 (stampR code bs).2.1 ∧ Only (one g) w w' := by
  have hg := hr.lt
  have HG := Lib.hid hg
  clear hg
  have R0 := Lib.hid (Blk.new w 80 #[.int .i64 0, .int .i64 0])
  have O0 := Lib.hid ((Only.refl (one g) w).alloc (.cells #[.int .i64 0, .int .i64 0] 80))
  have T0 := Tk.new (t := 80) (cs := #[.int .i64 0, .int .i64 0]) (hr.only ((Only.refl none_ _).alloc (.cells #[.int .i64 0, .int .i64 0] 80)) (fun h => h) (fun _ _ h => h)) (fun b hb => by rw [World.size_alloc]; have := fr b hb; omega)
  rw [World.size_alloc] at T0
  have T := Lib.hid T0
  clear T0
  obtain ⟨a, ha⟩ : ∃ a, numR code bs 4 = a := ⟨_, rfl⟩
  obtain ⟨b, hb⟩ : ∃ b, numR a.1 a.2.1 1 = b := ⟨_, rfl⟩
  have la : a.2.2 < 256 ^ 4 := ha ▸ numR_lt code bs 4
  have lb : b.2.2 < 256 ^ 1 := hb ▸ numR_lt a.1 a.2.1 1
  have l2 : a.2.1.length ≤ bs.length := ha ▸ numR_len code bs 4
  have HS : Hid (stampR code bs = (b.1, b.2.1, ⟨(a.2.2 : Nat), (b.2.2 : Nat)⟩)) := by rw [Hid, stampR, ha, hb]
  have A1 : IntKind.i64.wrap (a.2.2 : Int) = (a.2.2 : Int) := IntWalk.i64_in _ (by omega)
  have B1 : IntKind.i64.wrap (b.2.2 : Int) = (b.2.2 : Int) := IntWalk.i64_in _ (by omega)
  have HB := Lib.hid hb
  have HM : Hid (a.2.1.length ≤ 140737488355328) := Nat.le_trans l2 hm
  have C1 := reader_number g S code bs 4 _ T.out.rd hm
  rw [ha] at C1
  have FR := Lib.hid fr
  clear ha hb la lb l2 hr fr hm
  have tok1 : True := trivial
  go_enter Tryz.func257, Tryz.ntmps257
  go_wp2_with (first
    | (go_at_call 251; have _t := tok1; clear tok1; refine C1.mono ?_; clear C1; rintro e w1 ⟨rfl, h1, o1⟩
       have T1 := Lib.hid (T.out.step h1 o1)
       have z1 := T1.out.bx.frozen 0
       have v1 := T1.out.bx.cell_ (i := 0) rfl
       have T2 := Lib.hid (T1.out.set 0 (.int .i64 a.2.2))
       clear h1 o1
       have tok2 : True := trivial)
    | (go_at_call 251; have _t := tok2; clear tok2; refine (reader_number g S _ _ 1 _ T2.out.rd HM.out).mono ?_; rw [HB.out]; rintro e w2 ⟨rfl, h2, o2⟩
       have T3 := Lib.hid (T2.out.step h2 o2)
       have z2 := T3.out.bx.frozen 1
       have v2 := T3.out.bx.cell_ (i := 1) rfl
       have T4 := Lib.hid (T3.out.set 1 (.int .i64 b.2.2))
       have c0 := T4.out.bx.cell_ (i := 0) rfl
       have c1 := T4.out.bx.cell_ (i := 1) rfl
       have R4 := Lib.hid (R0.out.only T4.out.ho (fun e => by have e' : w.heap.size = g := e; have := HG.out; omega))
       have y0 := R4.out.frozen 0
       have y1 := (R4.out.set_ 0 (.int .i64 a.2.2)).frozen 1
       have x0 := R4.out.cell_ (i := 0) rfl
       have x1 := (R4.out.set_ 0 (.int .i64 a.2.2)).cell_ (i := 1) rfl
       clear h2 o2))
  have hF : Blk (((w2.setCell ⟨w.heap.size + 1, 1, none⟩ (.int .i64 b.2.2)).setCell ⟨w.heap.size, 0, none⟩ (.int .i64 a.2.2)).setCell ⟨w.heap.size, 1, none⟩ (.int .i64 b.2.2)) w.heap.size 80 #[.int .i64 a.2.2, .int .i64 b.2.2] := by
    have := (R4.out.set_ 0 (.int .i64 a.2.2)).set_ 1 (.int .i64 b.2.2)
    simpa using this
  have oF := ((Only.refl (one w.heap.size) (w2.setCell ⟨w.heap.size + 1, 1, none⟩ (.int .i64 b.2.2))).setCell (p := ⟨w.heap.size, 0, none⟩) (.inl rfl) (.int .i64 a.2.2)).setCell (p := ⟨w.heap.size, 1, none⟩) (.inl rfl) (.int .i64 b.2.2)
  exact bodyPost_ret (results_cell_row rfl _ _ w.heap.size 80 _ (0, 0) _ rfl hF Tryz.underlying80 rfl (by kernel_rfl)) rfl
    (by rw [HS.out]; exact ⟨rfl, T4.out.rd.only oF (fun e => by have e' : g = w.heap.size := e; have := HG.out; omega) (fun b hb e => by have e' : b = w.heap.size := e; have := FR.out b hb; omega),
      ((O0.out.trans T4.out.ho).setCell (p := ⟨w.heap.size, 0, none⟩) (.inr (Nat.le_refl _)) _).setCell (p := ⟨w.heap.size, 1, none⟩) (.inr (Nat.le_refl _)) _⟩)
end Go.Proofs.YtoohpcomnhfgpaaGreat
end
