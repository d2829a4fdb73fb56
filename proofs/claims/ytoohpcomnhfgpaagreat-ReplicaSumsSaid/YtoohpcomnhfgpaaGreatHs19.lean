/- Texts of mine, one behind the other: RpEn, RpTk, RpTp, RpSt, RpGr, RpTl, RpRo, RpFw, RpNo, RpGs. No statement of the seat is proved here. -/
import Derived.Test.YtoohpcomnhfgpaaGreatHs12
import Derived.Test.YtoohpcomnhfgpaaGreatHs8
import Derived.Test.YtoohpcomnhfgpaaGreatHs13
import Derived.Test.YtoohpcomnhfgpaaGreatHs5
import Derived.Test.YtoohpcomnhfgpaaGreatHs18
import Derived.Test.YtoohpcomnhfgpaaGreatHs2
import Derived.LoopTactic
import Derived.Test.YtoohpcomnhfgpaaGreatHs11
section
namespace Go.Proofs.YtoohpcomnhfgpaaGreat
open Go.RowKit Go.Shelf
set_option maxRecDepth 100000
set_option linter.all false
attribute [local go_sem] Oper.semAt_some
set_option maxHeartbeats 25600000 in
theorem ct_entries (B : World) (a : Ra) (s : Rs) (w : World) (h : Rp B a s w) :
    Calls Tryz.prog 40 #[.pointer (some ⟨a.r, 6, none⟩)] w fun E w' => ∃ v', E = .returned v' ∧ w'.ownsRow w.heap.size 82 9 v' s.tab.length (s.tab.flatMap enRow) ∧ Only none_ w w' := by
  obtain ⟨i0, hi0, hz0, hz1, hz2⟩ := info_parts api_info
  obtain ⟨wa, hwa⟩ : ∃ wa, w.alloc (.cells #[.slice none 0 0] 96) = wa := ⟨_, rfl⟩
  have oa : Only none_ w wa := by rw [← hwa]; exact (Only.refl none_ w).alloc _
  have hsa : wa.heap.size = w.heap.size + 1 := by rw [← hwa, World.size_alloc]
  have bB : Blk wa w.heap.size 96 #[.slice none 0 0] := by rw [← hwa]; exact Blk.new w _ _
  have hA := h.keep oa
  have HAL := Lib.hid (Se.tb_all B a.tb (roRoom s.o) (prs s.tab) a.vt wa hA.tb)
  have c6 : wa.cell? ⟨a.r, 6, none⟩ = some (.pointer (some ⟨a.tb, 0, none⟩)) := hA.bk.cell_ (i := 6) rfl
  have hml : s.tab.length ≤ 4096 := by have := h.tb.ml; rwa [prs_length] at this
  obtain ⟨l, hl⟩ : ∃ l, s.tab = l := ⟨_, rfl⟩
  rw [hl] at HAL hml ⊢
  have HPR := Lib.hid (prs_rows l)
  have HPL := Lib.hid (prs_length l)
  have HBB := Lib.hid bB
  have HOA := Lib.hid oa
  have HSA := Lib.hid hsa
  have HML : Hid (l.length ≤ 4096) := hml
  clear h hA bB oa hsa hl hml
  refine (callsIn_wide (n := 5)).1 ?_
  refine callsIn_of_wp_marks Tryz.func40 rfl trivial ?_ rfl
  simp only [Tryz.ntmps40, List.append_toArray, List.size_toArray, List.length_cons, List.length_nil, Nat.reduceAdd, Nat.reduceSub, Array.replicate_succ, Array.replicate_zero, List.push_toArray, List.append_toArray, List.nil_append, List.cons_append]
  gi_wp2_with (first
    | (refine ⟨trivial, ?_⟩; (try rw [hwa]); refine (callsIn_wide.2 HAL.out).mono ?_; rintro e w2 ⟨hP, A, n, c, rfl, hhP, hn, bP, cel, o2⟩
       have F2 := Lib.hid (And.intro hhP (And.intro hn (And.intro bP (And.intro cel o2))))
       clear hhP hn bP cel o2))
  have hP1 := F2.out.2.2.1.lt
  have NUM : Hid (w.heap.size + 2 ≤ w2.heap.size ∧ l.length ≤ 4096) := ⟨by have h1 := F2.out.1; have h2 := HSA.out; omega, HML.out⟩
  have o2 : Only none_ w w2 := HOA.out.trans F2.out.2.2.2.2
  have bB2 : Blk w2 w.heap.size 96 #[.slice none 0 0] := HBB.out.only F2.out.2.2.2.2 (fun h => h)
  have hT : Stab (Tv w.heap.size 0) (w.heap.size + 1) := tv_stab (by omega)
  have htv : ∀ b, Tv w.heap.size 0 w2 b → b = w.heap.size := fun b hb => by
    rcases (tv_at (bB2.cell_ (i := 0) rfl)).1 hb with h1 | h1
    · exact h1
    · cases h1
  have GO := Lib.hid (Se.all1_goes (Tv w.heap.size 0) (w.heap.size + 1) hT hP A c n (prs l) F2.out.2.1 (by have h1 := F2.out.2.1; have h2 := HPL.out; have h3 := HML.out; omega) w2 (by have := NUM.out; omega) F2.out.2.2.1 (F2.out.2.2.2.1.mono (fun b _ hb ht => by have h1 := htv b ht; have h2 := HSA.out; omega)))
  have HT := Lib.hid hT
  have I0 : Hid (Av w w2.heap.size w.heap.size [] w2) := ⟨⟨_, bB2, World.ownsRow_nil _ _ _ _⟩, o2, Nat.le_refl _⟩
  clear hP1 o2 bB2 hT htv F2 HBB HOA HAL c6
  refine range_goes (n := 4) (gf := 134) (lb := #[.pointer (some ⟨hP, 0, none⟩)]) rfl (enters_of Tryz.func134 (by kernel_rfl) rfl)
    GO.out (Below.refl _ _) (fun _ => rfl) (fun h k => h.trans k) (fun X r r' hr => Kc.putObj HT.out _ (by have := NUM.out; omega) hr rfl)
    (Av w w2.heap.size w.heap.size) (Av.own w w2.heap.size w.heap.size (by have := NUM.out; omega)) I0.out ?hround ?hdone
  case hround =>
    intro pre x X hlx hi hlen
    have HI := Lib.hid hi
    have HLN : Hid (pre.length + 1 ≤ 4096) := by have h1 := NUM.out; have h2 := HPL.out; have h3 := hlen.length_le; simp only [List.length_append, List.length_cons, List.length_nil] at h3; rw [Hid]; omega
    clear hi hlen
    obtain ⟨kk, vk, vv, vd, ⟨sc, ss⟩, ⟨ac, as_⟩, vp, vg⟩ := x
    gi_wp2
    have hwX : w.heap.size + 2 ≤ X.heap.size := by have := NUM.out; have := HI.out.sz; omega
    refine ⟨(KeepsOthers.alloc _ _).from _, own_new (Av.own w w2.heap.size w.heap.size (by have := NUM.out; omega)) ((Only.refl none_ X).alloc _) HI.out, fun r ⟨r0, hr0⟩ hi2 => ?_⟩
    have k1 : Kc (Tv w.heap.size 0) X ((X.alloc (.cells #[.string vk, .string vv, .bool vd, .int .i64 sc, .int .i64 ss, .int .i64 ac, .int .i64 as_, .int .i64 vp, .int .i64 vg] 82)).putObj (w2.heap.size + 1) (.loop r)) := (Kc.alloc HT.out (by omega) _).trans (Kc.putObj HT.out _ (by have := NUM.out; omega) hr0 rfl)
    have ko1 : Ko (w2.heap.size + 1) X ((X.alloc (.cells #[.string vk, .string vv, .bool vd, .int .i64 sc, .int .i64 ss, .int .i64 ac, .int .i64 as_, .int .i64 vp, .int .i64 vg] 82)).putObj (w2.heap.size + 1) (.loop r)) := fun k o hk ho _ => (World.putObj_heap_other hk).trans ((Below.heap_alloc X _ k (lt_of_obj ho)).trans ho)
    have BE : Hid (Blk ((X.alloc (.cells #[.string vk, .string vv, .bool vd, .int .i64 sc, .int .i64 ss, .int .i64 ac, .int .i64 as_, .int .i64 vp, .int .i64 vg] 82)).putObj (w2.heap.size + 1) (.loop r)) X.heap.size 82 #[.string vk, .string vv, .bool vd, .int .i64 sc, .int .i64 ss, .int .i64 ac, .int .i64 as_, .int .i64 vp, .int .i64 vg]) :=
      (Blk.new X _ _).grown' (grownBy_putObj' _ _ _) (fun e => by injection e with e; omega)
    generalize (X.alloc (.cells #[.string vk, .string vv, .bool vd, .int .i64 sc, .int .i64 ss, .int .i64 ac, .int .i64 as_, .int .i64 vp, .int .i64 vg] 82)).putObj (w2.heap.size + 1) (.loop r) = Y at hi2 BE k1 ko1
    have K1 := Lib.hid k1
    have KO1 := Lib.hid ko1
    clear k1 ko1 hr0
    obtain ⟨v2, b2, ow2⟩ := hi2.ex
    obtain ⟨A2, n2, c2, rfl⟩ := own_shape ow2
    obtain ⟨k, hk⟩ : ∃ k, pre.length = k := ⟨_, rfl⟩
    have HK := Lib.hid hk
    rw [hk] at ow2
    obtain rfl : n2 = k := own_count ow2
    clear hk
    have cB := b2.cell_ (i := 0) rfl
    have z0 := BE.out.cell_ (i := 0) rfl
    have z1 := BE.out.cell_ (i := 1) rfl
    have z2 := BE.out.cell_ (i := 2) rfl
    have z3 := BE.out.cell_ (i := 3) rfl
    have z4 := BE.out.cell_ (i := 4) rfl
    have z5 := BE.out.cell_ (i := 5) rfl
    have z6 := BE.out.cell_ (i := 6) rfl
    have z7 := BE.out.cell_ (i := 7) rfl
    have z8 := BE.out.cell_ (i := 8) rfl
    have O3 := Lib.hid ((Only.refl none_ Y).alloc (.cells #[.string vk, .string vv, .bool vd, .int .i64 sc, .int .i64 ss, .int .i64 ac, .int .i64 as_, .int .i64 vp, .int .i64 vg] 82))
    have OW3 := Lib.hid (owns_only ow2 O3.out (fun _ _ h => h))
    have B3 := Lib.hid (b2.only O3.out (fun h => h))
    have CM := Lib.hid (cel_made Y 82 9 1 #[.string vk, .string vv, .bool vd, .int .i64 sc, .int .i64 ss, .int .i64 ac, .int .i64 as_, .int .i64 vp, .int .i64 vg] rfl (by simp [maxLen]))
    have ONE : Hid (∀ u ∈ (#[.string vk, .string vv, .bool vd, .int .i64 sc, .int .i64 ss, .int .i64 ac, .int .i64 as_, .int .i64 vp, .int .i64 vg] : Array Value).toList, u.oneCell' = true) := row_one ⟨vk, vv, vd, ⟨sc, ss⟩, ⟨ac, as_⟩, vp, vg⟩
    have MX : Hid (n2 + 1 ≤ maxLen ∧ (n2 + 1) * 88 ≤ 140737488355328) := by have := HLN.out; have := HK.out; simp only [Hid, maxLen]; omega
    have SZ : Hid (w2.heap.size ≤ (Y.alloc (.cells #[.string vk, .string vv, .bool vd, .int .i64 sc, .int .i64 ss, .int .i64 ac, .int .i64 as_, .int .i64 vp, .int .i64 vg] 82)).heap.size) := by have := hi2.sz; rw [Hid, World.size_alloc]; omega
    have AV := Lib.hid hi2
    have B2 := Lib.hid b2
    have OW2 := Lib.hid ow2
    clear ow2 b2 hi2 HI hlx hwX
    gi_wp2_with (first
      | (gi_at_builtin; refine wplIn_append_cel rfl (.tmp 13) (.tmp 15) 96 rfl w2.heap.size 82 i0 _ 9 88 Tryz.underlying96 hi0 hz0 hz1 hz2 rfl (by omega) (.slice A2 n2 c2) n2 _ rfl OW3.out _ _ 1 _ rfl CM.out ONE.out MX.out.1 MX.out.2 SZ.out ?_
         intro A5 n5 c5 w5 hown5 hgrow5 hmv5
         have O5 : Hid (Only (fun k => (Value.slice A2 n2 c2).ownBlock = some k) Y w5) := (O3.out.of_none).trans' ((Only.refl (fun k => (Value.slice A2 n2 c2).ownBlock = some k) _).grown hgrow5 (fun k e => .inl e)) (fun k _ h => h)
         have B5 : Hid (Blk w5 w.heap.size 96 #[.slice A2 n2 c2]) := B3.out.grown' hgrow5 (own_blk_ne OW3.out B3.out (by decide))
         have q5 := B5.out.cell_ (i := 0) rfl
         have f5 := B5.out.frozen 0
         have H5 := Lib.hid (And.intro hown5 hmv5)
         clear hown5 hgrow5 hmv5))
    have o6 : Only (one w.heap.size) w5 (w5.setCell ⟨w.heap.size, 0, none⟩ (.slice A5 n5 c5)) := (Only.refl (one w.heap.size) w5).setCell (.inl (show one w.heap.size w.heap.size from rfl)) _
    have O6 : Only (fun k => k = w.heap.size ∨ (Value.slice A2 n2 c2).ownBlock = some k) Y (w5.setCell ⟨w.heap.size, 0, none⟩ (.slice A5 n5 c5)) :=
      (O5.out.mono (fun k _ h => .inr h)).trans' o6 (fun k _ e => .inl e)
    have B6 := B5.out.set_ 0 (.slice A5 n5 c5)
    have hne : (Value.slice A5 n5 c5).ownBlock ≠ some w.heap.size := own_blk_ne H5.out.1 B5.out (by decide)
    have KE := only_keeps O6 (fun k x hS hx => by
      rcases hS with rfl | hS
      · exact blk_is B2.out hx
      · exact own_is OW2.out hS hx)
    have hX : X.heap.size = X.heap.size := rfl
    refine ⟨KE.from _, K1.out.trans (Kc.of_only O6 (fun b _ hS => (tv_at (B2.out.cell_ (i := 0) rfl)).2 hS) (fun b hb => ?_)), ⟨⟨_, B6, ?_⟩, ?_, Nat.le_trans AV.out.sz O6.size⟩⟩
    · rcases (tv_at (B6.cell_ (i := 0) rfl)).1 hb with h1 | h1
      · exact .inl (.inl h1)
      · rcases H5.out.2 b h1 with h2 | h2
        · exact .inl ((tv_at (B2.out.cell_ (i := 0) rfl)).2 (.inr h2))
        · exact .inr (by rw [World.size_alloc] at h2; omega)
    · have hr := owns_only H5.out.1 o6 (fun b hb e => hne (by rw [hb, show b = w.heap.size from e]))
      rw [List.length_append, List.flatMap_append, HK.out]
      exact hr
    · exact AV.out.ho.trans' O6 (fun b hb hS => by
        rcases hS with rfl | hS
        · omega
        · have h1 := (OW2.out.lt b hS).1; have h2 := NUM.out; omega)
  case hdone =>
    intro D X hD hi hdef
    obtain ⟨v2, b2, ow2⟩ := hi.ex
    obtain ⟨A2, n2, c2, rfl⟩ := own_shape ow2
    have cB := b2.cell_ (i := 0) rfl
    have OW := Lib.hid ow2
    have HO := Lib.hid hi.ho
    have HDF := Lib.hid hdef
    clear ow2 hi b2 hdef
    gi_wp2
    refine ⟨by simp, .inl ⟨_, _, rfl, run_takeDeferred HDF.out, ?_⟩⟩
    have hDg := grownBy_putObj' X D (.deferred none)
    have hDr : ∀ r, some D = some r → ∃ o : Obj, X.heap[r]? = some o ∧ o.isCells = false := fun r e => by cases e; exact ⟨_, HDF.out, rfl⟩
    refine ⟨_, results_tmp rfl _ _ _, _, rfl, ?_, HO.out.grown hDg (fun k e => by cases e; exact .inr (by have := NUM.out; omega))⟩
    have := own_turn OW.out hDg hDr
    rw [HPR.out, HPL.out] at this
    exact owns_base this (by have := NUM.out; omega)
end Go.Proofs.YtoohpcomnhfgpaaGreat
end
section
namespace Go.Proofs.YtoohpcomnhfgpaaGreat
open Go.RowKit
set_option maxRecDepth 100000
set_option linter.all false
def tkS (s : Rs) (x : En) : Rs := if x.d = false then s else if x.g + 1 < s.o.t1 then { s with tab := setE { x with g := x.g + 1 } s.tab } else { s with tab := dropE s.tab x.k, z := s.z - hsh x, mks := dropM s.mks x.k }
def gnE (t1 : Int) (l : List En) : List ByteArray := (l.filter (goesM t1)).map (·.k)
theorem tkS_o (s : Rs) (x : En) : (tkS s x).o = s.o := by
  unfold tkS; split
  · rfl
  · split <;> rfl
theorem fold_o : ∀ (l : List En) (s : Rs), (l.foldl tkS s).o = s.o
  | [], _ => rfl
  | x :: l, s => by rw [List.foldl_cons, fold_o l, tkS_o]
theorem ris_dropE {l : List En} (h : RisE l) (k : ByteArray) : RisE (dropE l k) := h.sublist List.filter_sublist
theorem tkS_ris {s : Rs} (h : RisE s.tab) (x : En) : RisE (tkS s x).tab := by
  unfold tkS; split
  · exact h
  · split
    · exact risE_set h _
    · exact ris_dropE h _
theorem tkS_look {s : Rs} (h : RisE s.tab) {x : En} {k : ByteArray} (hk : x.k ≠ k) : lookE (tkS s x).tab k = lookE s.tab k := by
  unfold tkS; split
  · rfl
  · split
    · show lookE (setE { x with g := x.g + 1 } s.tab) k = _
      rw [look_set h, if_neg hk]
    · show lookE (dropE s.tab x.k) k = _
      unfold dropE
      rw [look_filter h]
      cases hl : lookE s.tab k with
      | none => rfl
      | some y =>
        have := (look_some hl).2
        rw [Option.filter_some, if_pos]
        simp only [Bool.not_eq_true', decide_eq_false_iff_not]
        intro e
        exact hk (e.symm.trans this)
theorem fold_look : ∀ (l : List En) (s : Rs) (k : ByteArray), RisE s.tab → (∀ x ∈ l, x.k ≠ k) → lookE (l.foldl tkS s).tab k = lookE s.tab k
  | [], _, _, _, _ => rfl
  | x :: l, s, k, h, hk => by
    rw [List.foldl_cons, fold_look l _ k (tkS_ris h x) (fun y hy => hk y (List.mem_cons_of_mem _ hy)), tkS_look h (hk x List.mem_cons_self)]
theorem fold_has {l : List En} {s : Rs} (h : RisE l) (ht : s.tab = l) {i : Nat} {x : En} (hx : l[i]? = some x) : hasE ((l.take i).foldl tkS s).tab x.k = true := by
  obtain ⟨hi, he⟩ := List.getElem?_eq_some_iff.1 hx
  have h1 : lookE ((l.take i).foldl tkS s).tab x.k = lookE l x.k := by
    rw [fold_look _ _ _ (by rw [ht]; exact h), ht]
    intro y hy e
    obtain ⟨j, hj, hyj⟩ := List.getElem_of_mem hy
    rw [List.length_take] at hj
    rw [List.getElem_take] at hyj
    have := (List.pairwise_iff_getElem.1 h) j i (by omega) hi (by omega)
    rw [hyj, he] at this
    exact lt_ne this e
  exact look_has (h1.trans (look_mem h (by rw [← he]; exact List.getElem_mem hi)))
theorem tks_snoc {l : List En} {s : Rs} {i : Nat} {x : En} (hx : l[i]? = some x) (t1 : Int) : (l.take (i + 1)).foldl tkS s = tkS ((l.take i).foldl tkS s) x ∧ gnE t1 (l.take (i + 1)) = if goesM t1 x = true then gnE t1 (l.take i) ++ [x.k] else gnE t1 (l.take i) := by
  obtain ⟨hi, he⟩ := List.getElem?_eq_some_iff.1 hx
  rw [List.take_succ_eq_append_getElem hi, he]
  refine ⟨by rw [List.foldl_append]; rfl, ?_⟩
  unfold gnE
  rw [List.filter_append, List.map_append]
  split
  · next h => rw [List.filter_cons_of_pos h]; rfl
  · next h => rw [List.filter_cons_of_neg h]; simp
theorem Cy.grow {B w0 w w' : World} {a0 a : Ra} {s : Rs} {S : Nat → Prop} (c : Cy B a0 w0 a s w) (o : Only S w w') (hn : ∀ k, allF a k → ¬ S k) (hS : ∀ k, S k → w0.heap.size ≤ k) : Cy B a0 w0 a s w' :=
  ⟨c.r.apart o hn (fun k hk => Nat.le_trans c.z (hS k hk)), c.o.trans' o (fun k hk e => by have := hS k e; omega), c.f, c.e, c.d, c.z⟩
structure Tik (B w0 : World) (a0 a : Ra) (s : Rs) (l : List En) (A : Option Addr) (n c : Nat) (gone : List ByteArray) (v : Value) (X : World) : Prop where
  cy : Cy B a0 w0 a s X
  e : X.ownsRow w0.heap.size 82 9 (.slice A n c) n (l.flatMap enRow)
  g : X.ownsRow w0.heap.size 9 1 v gone.length (gone.map .string)
  ne : ∀ k, (Value.slice A n c).ownBlock = some k → ¬ allF a k
  ng : ∀ k, v.ownBlock = some k → ¬ allF a k
section
variable {B w0 X X' : World} {a0 a : Ra} {s s' : Rs} {l : List En} {A : Option Addr} {n c : Nat} {gone : List ByteArray} {v : Value}
theorem Tik.keep (h : Tik B w0 a0 a s l A n c gone v X) (o : Only none_ X X') : Tik B w0 a0 a s l A n c gone v X' :=
  ⟨h.cy.keep o, owns_only h.e o (fun _ _ h => h), owns_only h.g o (fun _ _ h => h), h.ne, h.ng⟩
theorem Tik.step (h : Tik B w0 a0 a s l A n c gone v X) (L : LeftP B a X s' X') : ∃ a', Tik B w0 a0 a' s' l A n c gone v X' ∧ a'.r = a.r ∧ ∀ n t cs, Bn a n t cs X → Bn a' n t cs X' := by
  obtain ⟨a', r, o, f, e, d⟩ := L
  have nf : ∀ k, k < X.heap.size → ¬ allF a k → ¬ allF a' k := fun k hk hn hf => by
    rcases f k hf with h1 | h1
    · exact hn h1
    · omega
  refine ⟨a', ⟨⟨r, h.cy.o.trans' o (fun k hk hf => ?_), fun k hk => ?_, e.trans h.cy.e, d.trans h.cy.d, h.cy.z⟩, owns_only h.e o (fun k hk => h.ne k hk), owns_only h.g o (fun k hk => h.ng k hk), fun k hk => nf k (h.e.lt k hk).2 (h.ne k hk), fun k hk => nf k (h.g.lt k hk).2 (h.ng k hk)⟩, e, fun n t cs b => ⟨b.b.only o b.n, nf n b.b.lt b.n⟩⟩
  · rcases h.cy.f k hf with h1 | h1
    · exact h1
    · omega
  · rcases f k hk with h1 | h1
    · exact h.cy.f k h1
    · exact .inr (Nat.le_trans h.cy.o.size h1)
theorem Tik.app (h : Tik B w0 a0 a s l A n c gone v X) {A' : Option Addr} {n' c' : Nat} {k : ByteArray} (hown : X'.ownsRow w0.heap.size 9 1 (.slice A' n' c') (gone ++ [k]).length ((gone ++ [k]).map .string)) (hg : X.grownBy X' v.ownBlock) (hm : Moved X v (.slice A' n' c')) : Tik B w0 a0 a s l A n c (gone ++ [k]) (.slice A' n' c') X' := by
  have o : Only (ownb v) X X' := (Only.refl _ X).grown hg (fun k hk => .inl hk)
  refine ⟨h.cy.grow o (fun k hk hv => h.ng k hv hk) (fun k hk => (h.g.lt k hk).1), owns_only h.e o (fun k hk hv => own_apart h.e h.g (by decide) k hk hv), hown, h.ne, fun k hk hf => ?_⟩
  rcases hm k hk with h1 | h1
  · exact h.ng k h1 hf
  · have := (h.cy.r.all_ge hf).2; omega
end
end Go.Proofs.YtoohpcomnhfgpaaGreat
end
section
namespace Go.Proofs.YtoohpcomnhfgpaaGreat
open Go.RowKit
set_option maxRecDepth 100000
set_option linter.all false
section
variable {log : List En} {s : Rs} {x : En}
theorem Wf.gtick (h : Wf log s) : Wf log { s with gr := (tickE s.o.t2 s.gr).1 } := by
  have ho := ro_ok h.o
  refine ⟨h.o, h.si, h.ris, h.chk, h.c, h.len, h.z, h.mks, ris_tick h.gris _, ?_, h.own, h.D, h.n, h.lg, h.tl, Nat.le_trans (len_tick _ _) h.gl, ?_⟩
  · intro y hy
    obtain ⟨h1, h2⟩ := List.mem_filter.1 hy
    obtain ⟨z, hz, rfl⟩ := List.mem_map.1 h1
    have hw := h.g z hz
    have h3 : z.g + 1 < s.o.t2 := of_decide_eq_true h2
    have r1 := (check_of hw.1).2.2.2.2.2.2.2 hw.2.1
    refine ⟨check_age hw.1 hw.2.1 (by omega) (by omega), hw.2.1, hw.2.2⟩
  · intro y hy
    obtain ⟨_, h2⟩ := List.mem_filter.1 hy
    simpa using h2
theorem Wf.tk (h : Wf log s) (hx : lookE s.tab x.k = some x) : Wf log (tkS s x) := by
  have hm := (look_some hx).1
  have hcw := h.chk x hm
  have ho := ro_ok h.o
  unfold tkS
  split
  · exact h
  · next hd =>
    have hd : x.d = true := by simpa using hd
    have r1 := (check_of hcw.1).2.2.2.2.2.2.2 hd
    split
    · next hg =>
      obtain ⟨g, hg1⟩ : ∃ g, x.g + 1 = g := ⟨_, rfl⟩
      rw [hg1] at hg ⊢
      have hck := check_age hcw.1 hd (g := g) (by omega) (by omega)
      have hsl := set_len h.ris { x with g := g }
      rw [if_pos (hasE_mem hm)] at hsl
      refine ⟨h.o, h.si, risE_set h.ris _, ?_, h.c, by show ((setE { x with g := g } s.tab).length : Int) ≤ _; rw [hsl]; exact h.len, ?_, h.mks.trans (marks_age h.ris hm g).symm, h.gris, h.g, h.own, h.D, h.n, h.lg, by show (setE { x with g := g } s.tab).length ≤ _; rw [hsl]; exact h.tl, h.gl, h.gt⟩
      · intro e he
        rcases mem_set he with rfl | ⟨h1, _⟩
        · exact ⟨hck, hcw.2⟩
        · exact h.chk e h1
      · show s.z = sumH (setE { x with g := g } s.tab)
        rw [sum_set h.ris, hx, Option.getD_some, hsh_aged hcw.1 hd (by omega) (by omega), h.z]; omega
    · have hl : (dropE s.tab x.k).length ≤ s.tab.length := List.length_filter_le _ _
      have h1 := h.len
      have h2 := h.tl
      refine ⟨h.o, h.si, ris_dropE h.ris _, fun e he => h.chk e (List.mem_filter.1 he).1, h.c, ?_, ?_, marks_drop h.mks _, h.gris, h.g, h.own, h.D, h.n, h.lg, ?_, h.gl, h.gt⟩
      · show ((dropE s.tab x.k).length : Int) ≤ roRoom s.o
        omega
      · show s.z - hsh x = sumH (dropE s.tab x.k)
        rw [sum_drop h.ris hm, h.z]
      · show (dropE s.tab x.k).length ≤ _
        omega
theorem Wf.tks : ∀ (l : List En) {s : Rs}, Wf log s → RisE l → (∀ x ∈ l, lookE s.tab x.k = some x) → Wf log (l.foldl tkS s)
  | [], _, h, _, _ => h
  | x :: l, s, h, hr, hx => by
    have hr' := List.pairwise_cons.1 hr
    rw [List.foldl_cons]
    refine Wf.tks l (h.tk (hx x List.mem_cons_self)) hr'.2 fun y hy => ?_
    rw [tkS_look h.ris (lt_ne (hr'.1 y hy))]
    exact hx y (List.mem_cons_of_mem _ hy)
theorem set_mid {P : List En} {e x : En} {r : List En} (hk : e.k = x.k) (h : RisE (P ++ x :: r)) : setE e (P ++ x :: r) = P ++ e :: r := by
  induction P with
  | nil =>
    have h' := List.pairwise_cons.1 h
    show setE e (x :: r) = e :: r
    unfold setE
    rw [hk, if_neg (by rw [lt_irr]; simp), List.filter_cons_of_neg (by simp), List.filter_eq_self.2 fun y hy => by simpa using fun e' => lt_ne (h'.1 y hy) e'.symm]
  | cons p P ih =>
    have h' := List.pairwise_cons.1 h
    show setE e (p :: (P ++ x :: r)) = p :: (P ++ e :: r)
    unfold setE
    rw [hk, if_pos (h'.1 x (by simp)), ih h'.2]
theorem drop_mid {P : List En} {x : En} {r : List En} (h : RisE (P ++ x :: r)) : dropE (P ++ x :: r) x.k = P ++ r := by
  have h1 := List.pairwise_append.1 h
  have h2 := List.pairwise_cons.1 h1.2.1
  unfold dropE
  rw [List.filter_append, List.filter_cons_of_neg (by simp)]
  rw [List.filter_eq_self.2 fun y hy => by simpa using lt_ne (h1.2.2 y hy x List.mem_cons_self)]
  rw [List.filter_eq_self.2 fun y hy => by simpa using fun e' => lt_ne (h2.1 y hy) e'.symm]
theorem tab_cons (t1 : Int) (x : En) (l : List En) : tabTick t1 (x :: l) = if goesM t1 x = true then tabTick t1 l else oldM x :: tabTick t1 l := by
  unfold tabTick
  split
  · next h => rw [List.filter_cons_of_neg (by simp [h])]
  · next h => rw [List.filter_cons_of_pos (by simp [h]), List.map_cons]
theorem tks_tab : ∀ (l P : List En) (s : Rs), s.tab = P ++ l → RisE (P ++ l) → (l.foldl tkS s).tab = P ++ tabTick s.o.t1 l
  | [], P, s, h, _ => by rw [List.foldl_nil, h]; rfl
  | x :: l, P, s, h, hr => by
    rw [List.foldl_cons, tab_cons]
    by_cases hd : x.d = false
    · have h1 : tkS s x = s := if_pos hd
      have h2 : goesM s.o.t1 x = false := by simp [goesM, hd]
      have h3 : oldM x = x := if_neg (by simp [hd])
      rw [h1, h2, if_neg (by simp), h3, tks_tab l (P ++ [x]) s (by rw [h]; simp) (by simpa using hr)]
      simp
    · have hd' : x.d = true := by simpa using hd
      by_cases hg : x.g + 1 < s.o.t1
      · have h1 : tkS s x = { s with tab := P ++ { x with g := x.g + 1 } :: l } := by
          unfold tkS
          rw [if_neg hd, if_pos hg, h, set_mid (e := { x with g := x.g + 1 }) (x := x) rfl hr]
        have h2 : goesM s.o.t1 x = false := by simp [goesM, hd']; omega
        have h3 : oldM x = { x with g := x.g + 1 } := if_pos hd'
        have hr2 : RisE (P ++ { x with g := x.g + 1 } :: l) := by
          have := risE_set hr { x with g := x.g + 1 }
          rwa [set_mid (e := { x with g := x.g + 1 }) (x := x) rfl hr] at this
        rw [h1, h2, if_neg (by simp), h3, tks_tab l (P ++ [{ x with g := x.g + 1 }]) _ (by simp) (by simpa using hr2)]
        simp
      · have h1 : tkS s x = { s with tab := P ++ l, z := s.z - hsh x, mks := dropM s.mks x.k } := by
          unfold tkS
          rw [if_neg hd, if_neg hg, h, drop_mid hr]
        have h2 : goesM s.o.t1 x = true := by simp [goesM, hd']; omega
        have hr2 : RisE (P ++ l) := by
          have := ris_dropE hr x.k
          rwa [drop_mid hr] at this
        rw [h1, h2, if_pos rfl, tks_tab l P _ rfl hr2]
theorem tks_rest : ∀ (l : List En) (s : Rs), (l.foldl tkS s).gr = s.gr ∧ (l.foldl tkS s).own = s.own ∧ (l.foldl tkS s).c = s.c ∧ (l.foldl tkS s).site = s.site
  | [], _ => ⟨rfl, rfl, rfl, rfl⟩
  | x :: l, s => by
    have h := tks_rest l (tkS s x)
    have h1 : (tkS s x).gr = s.gr ∧ (tkS s x).own = s.own ∧ (tkS s x).c = s.c ∧ (tkS s x).site = s.site := by
      unfold tkS; split
      · exact ⟨rfl, rfl, rfl, rfl⟩
      · split <;> exact ⟨rfl, rfl, rfl, rfl⟩
    rw [List.foldl_cons]
    exact ⟨h.1.trans h1.1, h.2.1.trans h1.2.1, h.2.2.1.trans h1.2.2.1, h.2.2.2.trans h1.2.2.2⟩
def tickS (s : Rs) : Rs := if s.o.t1 = 0 then s else s.tab.foldl tkS { s with gr := (tickE s.o.t2 s.gr).1 }
def tickL (s : Rs) : List ByteArray := if s.o.t1 = 0 then [] else gnE s.o.t1 s.tab
theorem Wf.tick (h : Wf log s) : Wf log (tickS s) ∧ toM (tickS s) log = (tickR s.o (toM s log)).1 ∧ tickL s = (tickR s.o (toM s log)).2 ∧ (tickS s).o = s.o ∧ (tickS s).site = s.site := by
  unfold tickS tickL tickR
  by_cases h0 : s.o.t1 = 0
  · rw [if_pos h0, if_pos h0, if_pos h0]
    exact ⟨h, rfl, rfl, rfl, rfl⟩
  · rw [if_neg h0, if_neg h0, if_neg h0]
    have h1 := h.gtick
    have hf := fold_o s.tab { s with gr := (tickE s.o.t2 s.gr).1 }
    have hr := tks_rest s.tab { s with gr := (tickE s.o.t2 s.gr).1 }
    have ht := tks_tab s.tab [] { s with gr := (tickE s.o.t2 s.gr).1 } rfl h.ris
    refine ⟨Wf.tks s.tab h1 h.ris fun y hy => look_mem h.ris hy, ?_, rfl, hf, hr.2.2.2⟩
    unfold toM
    rw [hr.1, hr.2.1, hr.2.2.1, ht]
    rfl
end
end Go.Proofs.YtoohpcomnhfgpaaGreat
end
section
namespace Go.Proofs.YtoohpcomnhfgpaaGreat
open Go.RowKit
set_option maxRecDepth 100000
set_option linter.all false
theorem nodup_len {α : Type} [DecidableEq α] : ∀ (l m : List α), l.Nodup → (∀ x ∈ l, x ∈ m) → l.length ≤ m.length
  | [], m, _, _ => Nat.zero_le _
  | x :: r, m, hn, hs => by
    have h' := List.nodup_cons.1 hn
    have hx := hs x List.mem_cons_self
    have ih := nodup_len r (m.erase x) h'.2 (fun y hy => (List.mem_erase_of_ne (fun e => h'.1 (by rw [← e]; exact hy))).2 (hs y (List.mem_cons_of_mem _ hy)))
    rw [List.length_erase_of_mem hx] at ih
    have := List.length_pos_of_mem hx
    simp only [List.length_cons]; omega
theorem rc_tab (s : Rs) (x : En) : (rcS s x).o = s.o ∧ (rcS s x).c = seeC s.c x.a ∧ ((rcS s x).tab = s.tab ∨ (rcS s x).tab = setE x s.tab) := by
  cases hw : newsM s.tab x with
  | true => rw [rcS_new hw]; exact ⟨rfl, rfl, .inr rfl⟩
  | false => rw [rcS_old hw]; exact ⟨rfl, rfl, .inl rfl⟩
theorem opF_keys : ∀ (l : List En) (s s' : Rs), opF l s = some s' → ∀ e ∈ s'.tab, (∃ x ∈ l, x.k = e.k) ∨ ∃ y ∈ s.tab, y.k = e.k
  | [], s, s', h, e, he => by
    have : s = s' := by simpa [opF] using h
    subst this
    exact .inr ⟨e, he, rfl⟩
  | x :: l, s, s', h, e, he => by
    unfold opF at h
    split at h
    · cases h
    · rcases opF_keys l _ _ h e he with ⟨z, hz, hk⟩ | ⟨y, hy, hk⟩
      · exact .inl ⟨z, List.mem_cons_of_mem _ hz, hk⟩
      · rcases (rc_tab s x).2.2 with e1 | e1
        · rw [e1] at hy; exact .inr ⟨y, hy, hk⟩
        · rw [e1] at hy
          rcases mem_set hy with rfl | ⟨h1, _⟩
          · exact .inl ⟨_, List.mem_cons_self, hk⟩
          · exact .inr ⟨y, h1, hk⟩
theorem seeC_ge {c : Int} {a : St} (h : stGood a = true) (hc : 0 ≤ c) : a.c ≤ seeC c a := by
  unfold seeC
  split
  · exact Int.le_refl _
  · next e =>
    have : ¬ c < a.c := fun h' => e ⟨h, h'⟩
    omega
theorem seeC_le (c : Int) (a : St) : c ≤ seeC c a := by
  unfold seeC
  split
  · next e => exact Int.le_of_lt e.2
  · exact Int.le_refl _
theorem opF_c : ∀ (l : List En) (s s' : Rs), opF l s = some s' → 0 ≤ s.c → (∀ e ∈ l, enCheck e = 0) → s.c ≤ s'.c ∧ ∀ e ∈ l, e.a.c ≤ s'.c
  | [], s, s', h, _, _ => by
    have : s = s' := by simpa [opF] using h
    subst this
    exact ⟨Int.le_refl _, fun e he => by cases he⟩
  | x :: l, s, s', h, h0, hc => by
    unfold opF at h
    split at h
    · cases h
    · have hr := (rc_tab s x).2.1
      have h1 := seeC_le s.c x.a
      have h2 := seeC_ge (c := s.c) ((check_of (hc x List.mem_cons_self)).2.2.2.2.1) h0
      obtain ⟨i1, i2⟩ := opF_c l _ _ h (by rw [hr]; omega) (fun e he => hc e (List.mem_cons_of_mem _ he))
      rw [hr] at i1
      refine ⟨by omega, fun e he => ?_⟩
      rcases List.mem_cons.1 he with rfl | he
      · omega
      · exact i2 e he
theorem ris_keys {l : List En} (h : RisE l) : (l.map (·.k)).Nodup := by
  refine List.pairwise_map.2 (h.imp fun h e => ?_)
  exact lt_ne h e
theorem opF_none : ∀ (l : List En) (s : Rs), opF l s = none → RisE s.tab → ∃ ks : List ByteArray, ks.Nodup ∧ (∀ k ∈ ks, (∃ x ∈ l, x.k = k) ∨ ∃ y ∈ s.tab, y.k = k) ∧ roRoom s.o < (ks.length : Int)
  | [], s, h, _ => by cases h
  | x :: l, s, h, hr => by
    unfold opF at h
    split at h
    · next hf =>
      unfold fullM at hf
      simp only [Bool.and_eq_true, Bool.not_eq_true', decide_eq_true_eq] at hf
      refine ⟨x.k :: s.tab.map (·.k), List.nodup_cons.2 ⟨fun hm => ?_, ris_keys hr⟩, fun k hk => ?_, ?_⟩
      · obtain ⟨y, hy, hk⟩ := List.mem_map.1 hm
        exact hasE_not hf.1 y hy hk
      · rcases List.mem_cons.1 hk with rfl | hk
        · exact .inl ⟨x, List.mem_cons_self, rfl⟩
        · obtain ⟨y, hy, hk⟩ := List.mem_map.1 hk
          exact .inr ⟨y, hy, hk⟩
      · have := hf.2
        simp only [List.length_cons, List.length_map]; omega
    · have ht := rc_tab s x
      have hr2 : RisE (rcS s x).tab := by
        rcases ht.2.2 with e1 | e1
        · rw [e1]; exact hr
        · rw [e1]; exact risE_set hr x
      obtain ⟨ks, h1, h2, h3⟩ := opF_none l _ h hr2
      rw [ht.1] at h3
      refine ⟨ks, h1, fun k hk => ?_, h3⟩
      rcases h2 k hk with ⟨z, hz, e⟩ | ⟨y, hy, e⟩
      · exact .inl ⟨z, List.mem_cons_of_mem _ hz, e⟩
      · rcases ht.2.2 with e1 | e1
        · rw [e1] at hy; exact .inr ⟨y, hy, e⟩
        · rw [e1] at hy
          rcases mem_set hy with rfl | ⟨h1, _⟩
          · exact .inl ⟨_, List.mem_cons_self, e⟩
          · exact .inr ⟨y, h1, e⟩
structure Kn (keys : List ByteArray) (log : List En) (s : Rs) : Prop where
  lk : ∀ e ∈ log, e.k ∈ keys
  tk : ∀ e ∈ s.tab, e.k ∈ keys
section
variable {keys keys' : List ByteArray} {last last' : Int} {log : List En} {s s1 s' : Rs} {x : En}
theorem Kn.dn (h : Kn keys log s) (d : Dn log s1 x s') (ht : s1.tab = s.tab) (hs : ∀ k ∈ keys, k ∈ keys') (hx : x.k ∈ keys') : Kn keys' (log ++ [x]) s' := by
  refine ⟨fun e he => ?_, fun e he => ?_⟩
  · rcases List.mem_append.1 he with h1 | h1
    · exact hs _ (h.lk e h1)
    · rw [List.mem_singleton.1 h1]; exact hx
  · rw [d.tab, ht] at he
    rcases mem_set he with rfl | ⟨h1, _⟩
    · exact hx
    · exact hs _ (h.tk e h1)
theorem Kn.mono (h : Kn keys log s) (ht : ∀ e ∈ s'.tab, ∃ y ∈ s.tab, y.k = e.k) : Kn keys log s' :=
  ⟨h.lk, fun e he => by obtain ⟨y, hy, hk⟩ := ht e he; rw [← hk]; exact h.tk y hy⟩
theorem Kn.open {o : Ro} {site : Int} {D : Dv} {n : Int} (h : Kn keys log s) (ho : opF log (blankS o site D n) = some s') : Kn keys log s' :=
  ⟨h.lk, fun e he => by
    rcases opF_keys log _ _ ho e he with ⟨x, hx, hk⟩ | ⟨y, hy, _⟩
    · rw [← hk]; exact h.lk x hx
    · cases hy⟩
theorem Kn.none {o : Ro} {site : Int} {D : Dv} {n : Int} (h : Kn keys log s) (ho : opF log (blankS o site D n) = none) : roRoom o < (keys.length : Int) := by
  obtain ⟨ks, h1, h2, h3⟩ := opF_none log _ ho (List.Pairwise.nil : RisE [])
  have := nodup_len ks keys h1 (fun k hk => by
    rcases h2 k hk with ⟨x, hx, e⟩ | ⟨y, hy, _⟩
    · rw [← e]; exact h.lk x hx
    · cases hy)
  have h4 : roRoom o < (ks.length : Int) := h3
  omega
structure La (last : Int) (log : List En) (s : Rs) : Prop where
  l0 : 0 ≤ last
  lc : last ≤ s.c
  ll : last = 0 ∨ ∃ e ∈ log, last ≤ e.a.c
theorem La.dn (h : La last log s) (d : Dn log s1 x s') (h0 : 0 ≤ last') (h1 : last' ≤ s1.c) (h2 : last' = last ∨ last' ≤ x.a.c) : La last' (log ++ [x]) s' := by
  refine ⟨h0, by rw [d.c]; exact h1, ?_⟩
  rcases h2 with rfl | h2
  · rcases h.ll with e | ⟨y, hy, e⟩
    · exact .inl e
    · exact .inr ⟨y, List.mem_append_left _ hy, e⟩
  · exact .inr ⟨x, List.mem_append_right _ (List.mem_singleton.2 rfl), h2⟩
theorem La.mono (h : La last log s) (hc : s.c ≤ s'.c) : La last log s' := ⟨h.l0, Int.le_trans h.lc hc, h.ll⟩
theorem La.open {o : Ro} {site : Int} {D : Dv} {n : Int} (h : La last log s) (wf : Wf log s) (ho : opF log (blankS o site D n) = some s') : La last log s' := by
  have hc := opF_c log _ _ ho (Int.le_refl 0) wf.lg
  refine ⟨h.l0, ?_, h.ll⟩
  rcases h.ll with e | ⟨y, hy, e⟩
  · have h1 : (0 : Int) ≤ s'.c := hc.1
    omega
  · have := hc.2 y hy
    omega
end
end Go.Proofs.YtoohpcomnhfgpaaGreat
end
section
namespace Go.Proofs.YtoohpcomnhfgpaaGreat
open Go.RowKit
set_option maxRecDepth 100000
set_option linter.all false
theorem st_irr2 (x : St) : stLater x x = false := by
  cases h : stLater x x with
  | false => rfl
  | true => rw [later_def] at h; omega
theorem set_mem (e : En) (l : List En) : e ∈ setE e l := (set_perm e l).mem_iff.2 List.mem_cons_self
theorem set_keep (e : En) {l : List En} {y : En} (hy : y ∈ l) (hk : y.k ≠ e.k) : y ∈ setE e l := (set_perm e l).mem_iff.2 (List.mem_cons_of_mem _ (List.mem_filter.2 ⟨hy, by simpa using hk⟩))
theorem later_less {x y : St} (h : stLater x y = false) : x.c ≤ y.c := by
  have e1 : ¬ stLater x y = true := by rw [h]; decide
  rw [later_def] at e1
  omega
theorem notlater_of {x y : St} (h : x.c < y.c) : stLater x y = false := by
  cases e : stLater x y with
  | false => rfl
  | true => rw [later_def] at e; omega
def Gi (s : Rs) : Prop := ∀ g ∈ s.gr, ∀ x ∈ s.tab, x.k = g.k → stLater g.s x.s = false
section
variable {log : List En} {s s1 s' : Rs} {x : En}
theorem bury_cases {duty : Bool} {t2 : Int} {l : List En} {g : En} (h : g ∈ (buryE duty t2 l x).1) : g ∈ l ∨ (g.k = x.k ∧ (g.s = x.s ∨ ∃ was ∈ l, was.k = x.k ∧ g.s = was.s)) := by
  rcases mem_bury h with h1 | ⟨_, rfl | ⟨was, hw, hk, rfl⟩⟩
  · exact .inl h1
  · exact .inr ⟨rfl, .inl rfl⟩
  · exact .inr ⟨hk, .inr ⟨was, hw, hk, rfl⟩⟩
theorem Gi.dn (h : Gi s) (d : Dn log s1 x s') (ht : s1.tab = s.tab) (hg : s1.gr = s.gr) (H : ∀ g ∈ s.gr, g.k = x.k → stLater g.s x.s = false) : Gi s' := by
  intro g hgm y hy hk
  rw [d.gr, hg] at hgm
  rw [d.tab, ht] at hy
  rcases mem_set hy with rfl | ⟨hy1, hyk⟩
  · rcases bury_cases hgm with h1 | ⟨_, h1 | ⟨was, hw, hwk, h1⟩⟩
    · exact H g h1 hk.symm
    · rw [h1]; exact st_irr2 _
    · rw [h1]; exact H was hw hwk
  · rcases bury_cases hgm with h1 | ⟨h1, _⟩
    · exact h g h1 y hy1 hk
    · exact absurd (hk.trans h1) hyk
theorem over_none (wf : RisE s.gr) (h : overE s.gr x = false) : ∀ g ∈ s.gr, g.k = x.k → stLater g.s x.s = false := by
  intro g hg hk
  have hl := look_mem wf hg
  rw [hk] at hl
  unfold overE at h
  rw [show (s.gr.find? fun e => decide (e.k = x.k)) = some g from hl] at h
  exact h
theorem next_over (wf : Wf log s) {c : Int} (hc : s.c < c) {site : Int} (hx : x.s = ⟨c, site⟩) : ∀ g ∈ s.gr, g.k = x.k → stLater g.s x.s = false := by
  intro g hg _
  have h1 := wf.g g hg
  have h2 := later_less (check_of h1.1).2.2.2.2.2.1
  rw [hx]
  exact notlater_of (by show g.s.c < c; omega)
theorem Gi.put (h : Gi s) (wf : Wf log s) {k v : ByteArray} (d : Dn log { s with c := s.c + 1 } (putE k v ⟨s.c + 1, s.site⟩) s') : Gi s' :=
  h.dn d rfl rfl (next_over wf (c := s.c + 1) (by omega) rfl)
theorem Gi.del (h : Gi s) (wf : Wf log s) {k : ByteArray} {p : Int} (d : Dn log { s with c := s.c + 1 } (delE k ⟨s.c + 1, s.site⟩ p) s') : Gi s' :=
  h.dn d rfl rfl (next_over wf (c := s.c + 1) (by omega) rfl)
theorem Gi.mg (h : Gi s) (wf : Wf log s) (hl : log.length ≤ 60) (x : En) : Gi (mgR s x).1 := by
  cases wf.mgw hl x with
  | bad z hz e hc => rw [e]; exact h
  | old hc hn e w =>
    rw [e]
    intro g hg y hy hk
    have hy' : y ∈ youngM s.o s.tab x := hy
    unfold youngM at hy'
    split at hy'
    · exact h g hg y hy' hk
    · next was hw =>
      split at hy'
      · rcases mem_set hy' with rfl | ⟨h1, _⟩
        · exact h g hg was (look_some hw).1 hk
        · exact h g hg y h1 hk
      · exact h g hg y hy' hk
  | not z hc e w => rw [e]; exact h
  | woken hc hn y q hy hov hcl e hq d =>
    rw [e]
    obtain ⟨hym, hyk⟩ := look_some hy
    refine h.dn d rfl rfl (fun g hg hk => ?_)
    have hgl := look_mem wf.gris hg
    rw [hk, hq.1, hy] at hgl
    injection hgl with hgl
    rw [hq.2.1, ← hgl]
    exact st_irr2 _
  | taken hc hn hlt hov e d =>
    rw [e]
    exact h.dn d rfl rfl (over_none wf.gris hov)
theorem Gi.tick (h : Gi s) (wf : Wf log s) : Gi (tickS s) := by
  have e1 : (tickS s).tab = (tickR s.o (toM s log)).1.tab := congrArg Rm.tab wf.tick.2.1
  have e2 : (tickS s).gr = (tickR s.o (toM s log)).1.gr := congrArg Rm.gr wf.tick.2.1
  intro g hg y hy hk
  rw [e1] at hy
  rw [e2] at hg
  unfold tickR at hy hg
  split at hy
  · next h0 =>
    rw [if_pos h0] at hg
    exact h g hg y hy hk
  · next h0 =>
    rw [if_neg h0] at hg
    obtain ⟨z, hz, rfl⟩ := List.mem_map.1 hy
    have hg2 := (List.mem_filter.1 hg).1
    obtain ⟨u, hu, rfl⟩ := List.mem_map.1 hg2
    have k1 : (oldM z).k = z.k := by unfold oldM; split <;> rfl
    have k2 : (oldM z).s = z.s := by unfold oldM; split <;> rfl
    rw [k1] at hk
    rw [k2]
    exact h u hu z (List.mem_filter.1 hz).1 hk
def Gj (s : Rs) : Prop := Gi s ∧ ∀ g ∈ s.gr, ∃ y ∈ s.tab, y.k = g.k
theorem newer_not {x y : En} (h : enNewer x y = false) : stLater x.s y.s = false := by
  unfold enNewer at h
  split at h
  · next e =>
    rw [(stEq_iff _ _).1 e]
    exact st_irr2 _
  · exact h
theorem newer_yes {x y : En} (h : enNewer x y = true) : stLater y.s x.s = false := by
  unfold enNewer at h
  split at h
  · next e =>
    rw [(stEq_iff _ _).1 e]
    exact st_irr2 _
  · cases e : stLater y.s x.s with
    | false => rfl
    | true => rw [later_def] at e h; omega
theorem Gj.rc (h : Gj s) (hr : RisE s.tab) (x : En) : Gj (rcS s x) := by
  cases hw : newsM s.tab x with
  | true =>
    rw [rcS_new hw]
    have H : ∀ g ∈ s.gr, g.k = x.k → stLater g.s x.s = false := by
      intro g hg hk
      obtain ⟨y, hy, hyk⟩ := h.2 g hg
      have h1 := h.1 g hg y hy hyk
      have hl := look_mem hr hy
      rw [hyk, hk] at hl
      unfold newsM at hw
      rw [hl] at hw
      exact later_trans h1 (newer_yes hw)
    refine ⟨?_, ?_⟩
    · intro g hgm y hy hk
      rcases mem_set hy with rfl | ⟨hy1, hyk⟩
      · rcases bury_cases hgm with h1 | ⟨_, h1 | ⟨was, hw, hwk, h1⟩⟩
        · exact H g h1 hk.symm
        · rw [h1]; exact st_irr2 _
        · rw [h1]; exact H was hw hwk
      · rcases bury_cases hgm with h1 | ⟨h1, _⟩
        · exact h.1 g h1 y hy1 hk
        · exact absurd (hk.trans h1) hyk
    · intro g hgm
      have hx : ∃ y ∈ setE x s.tab, y.k = x.k := ⟨x, set_mem x s.tab, rfl⟩
      rcases bury_cases hgm with h1 | ⟨h1, _⟩
      · by_cases hk : g.k = x.k
        · rw [hk]; exact hx
        · obtain ⟨y, hy, hyk⟩ := h.2 g h1
          exact ⟨y, set_keep x hy (by rw [hyk]; exact hk), hyk⟩
      · rw [h1]; exact hx
  | false =>
    rw [rcS_old hw]
    have hwas : ∃ was ∈ s.tab, was.k = x.k ∧ enNewer x was = false := by
      unfold newsM at hw
      split at hw
      · cases hw
      · next was hl => exact ⟨was, (look_some hl).1, (look_some hl).2, hw⟩
    obtain ⟨was, hwm, hwk, hwn⟩ := hwas
    refine ⟨?_, ?_⟩
    · intro g hgm y hy hk
      rcases bury_cases hgm with h1 | ⟨h1, h2 | ⟨was2, hw2, hk2, h2⟩⟩
      · exact h.1 g h1 y hy hk
      · have e : y = was := by
          have l1 := look_mem hr hy
          have l2 := look_mem hr hwm
          have hk' : y.k = was.k := hk.trans (h1.trans hwk.symm)
          rw [hk', l2] at l1
          injection l1 with l1
          exact l1.symm
        rw [h2, e]
        exact newer_not hwn
      · rw [h2]
        exact h.1 was2 hw2 y hy (hk.trans (h1.trans hk2.symm))
    · intro g hgm
      rcases bury_cases hgm with h1 | ⟨h1, _⟩
      · exact h.2 g h1
      · exact ⟨was, hwm, hwk.trans h1.symm⟩
theorem Gj.op : ∀ (l : List En) (s s' : Rs), Gj s → RisE s.tab → opF l s = some s' → Gj s'
  | [], s, s', h, _, ho => by
    have : s = s' := by simpa [opF] using ho
    subst this
    exact h
  | x :: l, s, s', h, hr, ho => by
    unfold opF at ho
    split at ho
    · cases ho
    · refine Gj.op l _ s' (h.rc hr x) ?_ ho
      rcases (rc_tab s x).2.2 with e1 | e1
      · rw [e1]; exact hr
      · rw [e1]; exact risE_set hr x
theorem Gi.open {o : Ro} {site : Int} {D : Dv} {n : Int} {l : List En} (ho : opF l (blankS o site D n) = some s') : Gi s' :=
  (Gj.op l (blankS o site D n) s' ⟨fun g hg => (by cases hg), fun g hg => (by cases hg)⟩ (List.Pairwise.nil : RisE []) ho).1
def Qi (s : Rs) : Prop := ∀ x ∈ s.tab, x.d = true → 0 < s.o.t1 → x.g < s.o.t1
theorem Qi.dn (h : Qi s) (d : Dn log s1 x s') (ht : s1.tab = s.tab) (ho : s1.o = s.o) (H : x.d = true → 0 < s.o.t1 → x.g < s.o.t1) : Qi s' := by
  intro y hy hd h0
  rw [d.o, ho] at h0 ⊢
  rw [d.tab, ht] at hy
  rcases mem_set hy with rfl | ⟨h1, _⟩
  · exact H hd h0
  · exact h y h1 hd h0
theorem age_young (h : Qi s) (hl : lateM s.o x = false) (hd : x.d = true) (h0 : 0 < s.o.t1) : ageM s.o s.tab x < s.o.t1 := by
  have h1 : x.g + 1 < s.o.t1 := by
    unfold lateM at hl
    rw [hd, decide_eq_false (by omega : ¬ s.o.t1 = 0)] at hl
    simp at hl
    omega
  unfold ageM
  rw [if_neg (by rw [hd]; simp; omega)]
  split
  · exact h1
  · split
    · next e => omega
    · exact h1
theorem Qi.mg (h : Qi s) (wf : Wf log s) (hl : log.length ≤ 60) (x : En) : Qi (mgR s x).1 := by
  cases wf.mgw hl x with
  | bad z hz e hc => rw [e]; exact h
  | old hc hn e w =>
    rw [e]
    intro y hy hd h0
    have hy' : y ∈ youngM s.o s.tab x := hy
    have h0' : 0 < s.o.t1 := h0
    show y.g < s.o.t1
    unfold youngM at hy'
    split at hy'
    · exact h y hy' hd h0'
    · next was hw =>
      split at hy'
      · next hdd =>
        simp only [Bool.and_eq_true] at hdd
        rcases mem_set hy' with rfl | ⟨h1, _⟩
        · show ageM s.o s.tab x < s.o.t1
          have hwg := h was (look_some hw).1 hdd.1 h0'
          unfold ageM
          rw [if_neg (by rw [hdd.2]; simp; omega), hw]
          simp only
          split
          · exact hwg
          · next e =>
            have : ¬ was.g < x.g + 1 := fun e2 => e ⟨hdd.1, e2⟩
            omega
        · exact h y h1 hd h0'
      · exact h y hy' hd h0'
  | not z hc e w => rw [e]; exact h
  | woken hc hn y q hy hov hcl e hq d => rw [e]; exact h.dn d rfl rfl (fun _ h0 => by rw [hq.2.2.2.2]; exact h0)
  | taken hc hn hlt hov e d => rw [e]; exact h.dn d rfl rfl (fun hd h0 => age_young h hlt hd h0)
theorem Qi.tick (h : Qi s) (wf : Wf log s) : Qi (tickS s) := by
  have e1 : (tickS s).tab = (tickR s.o (toM s log)).1.tab := congrArg Rm.tab wf.tick.2.1
  have e3 := wf.tick.2.2.2.1
  intro y hy hd h0
  rw [e1] at hy
  rw [e3] at h0 ⊢
  unfold tickR at hy
  split at hy
  · next e0 => omega
  · next e0 =>
    obtain ⟨z, hz, rfl⟩ := List.mem_map.1 hy
    have h2 := (List.mem_filter.1 hz).2
    unfold oldM at hd ⊢
    split
    · next hzd =>
      show z.g + 1 < s.o.t1
      unfold goesM at h2
      rw [hzd] at h2
      simp at h2
      omega
    · next hzd =>
      rw [if_neg hzd] at hd
      exact absurd hd hzd
end
end Go.Proofs.YtoohpcomnhfgpaaGreat
end
section
namespace Go.Proofs.YtoohpcomnhfgpaaGreat
open Go.RowKit
set_option maxRecDepth 100000
set_option linter.all false
set_option maxHeartbeats 6400000 in
theorem rp_tick_off (B : World) (a : Ra) (s : Rs) (w : World) (h : Rp B a s w) (h1 : s.o.t1 = 0) :
    Calls Tryz.prog 47 #[.pointer (some ⟨a.r, 0, none⟩)] w fun E w' => E = .returned (.slice none 0 0) ∧ LeftP B a w s w' := by
  have q3 : w.cell? ⟨a.r, 3, none⟩ = some (.int .i64 0) := by have := h.bk.cell_ (i := 3) rfl; rw [← h1]; exact this
  have H := Lib.hid h
  clear h h1
  go_enter Tryz.func47, Tryz.ntmps47
  go_wp2_with fail
  go_ret
  exact ⟨rfl, LeftP.same H.out⟩
set_option maxHeartbeats 51200000 in
theorem rp_tick_on (B : World) (a : Ra) (s : Rs) (w : World) (h : Rp B a s w) (hr : RisE s.tab) (hT : ∀ e ∈ s.tab, enCheck e = 0) (hg : ∀ y ∈ s.gr, 0 ≤ y.g ∧ y.g < s.o.t2) (ht2 : s.o.t2 ≤ 2147483647) (h1 : s.o.t1 ≠ 0) :
    Calls Tryz.prog 47 #[.pointer (some ⟨a.r, 0, none⟩)] w fun E w' => ∃ vs, E = .returned vs ∧ w'.ownsRow w.heap.size 9 1 vs (gnE s.o.t1 s.tab).length ((gnE s.o.t1 s.tab).map .string) ∧ LeftP B a w (s.tab.foldl tkS { s with gr := (tickE s.o.t2 s.gr).1 }) w' := by
  obtain ⟨i0, hi0, hz0, hz1, hz2⟩ := info_parts str_info
  obtain ⟨r, hr0⟩ : ∃ r, a.r = r := ⟨_, rfl⟩
  have C0 := Lib.hid (Cy.begin h)
  have HTI := Lib.hid (gv_tick B a.gv a.gt s.site s.o.t2 s.gr a.vg w h.gv hg ht2)
  have HST := Lib.hid (fun (w' : World) (hL : LeftG B a.gv a.gt s.site s.o.t2 a.vg w (tickE s.o.t2 s.gr).1 w') => h.gv_set hL)
  obtain ⟨t1, ht1⟩ : ∃ t, s.o.t1 = t := ⟨_, rfl⟩
  obtain ⟨gv, hgv⟩ : ∃ g, a.gv = g := ⟨_, rfl⟩
  have q3 : w.cell? ⟨r, 3, none⟩ = some (.int .i64 s.o.t1) := h.at_ hr0 (i := 3) rfl
  have q9 : w.cell? ⟨r, 9, none⟩ = some (.pointer (some ⟨a.gv, 0, none⟩)) := h.at_ hr0 (i := 9) rfl
  rw [ht1] at q3 h1
  have h1b : (t1 == 0) = false := by simpa using h1
  obtain ⟨s1, hs1⟩ : ∃ s1, { s with gr := (tickE s.o.t2 s.gr).1 } = s1 := ⟨_, rfl⟩
  obtain ⟨l, hl⟩ : ∃ l, s.tab = l := ⟨_, rfl⟩
  have f1 : s1.tab = l := by rw [← hs1]; exact hl
  have f2 : s1.o.t1 = t1 := by rw [← hs1]; exact ht1
  have hml : l.length ≤ 4096 := by have := h.tb.ml; rwa [prs_length, hl] at this
  rw [hs1] at HST ⊢
  rw [hl] at hr hT ⊢
  rw [hr0, ht1]
  rw [hgv] at q9 HTI HST
  have HF := Lib.hid (And.intro f1 f2)
  have HR := Lib.hid hr
  have HCK := Lib.hid hT
  have HML := Lib.hid hml
  have HR0 := Lib.hid hr0
  clear h hg ht2 hs1 hl f1 f2 hr hT hml hr0 ht1 hgv
  go_enter Tryz.func47, Tryz.ntmps47
  go_wp2_with (first
    | (go_at_call 98; refine HTI.out.mono ?_; rintro E w1 ⟨vs0, rfl, _, hL⟩
       obtain ⟨a1, c1, e1, _⟩ := C0.out.step (HST.out _ hL)
       have C1 := Lib.hid c1
       have e1r : a1.r = r := e1.trans HR0.out
       have hcall := ct_entries B a1 s1 w1 c1.r
       rw [e1r] at hcall
       have HEN := Lib.hid hcall
       clear c1 e1 hL hcall)
    | (go_at_call 40; refine HEN.out.mono ?_; rintro E w2 ⟨v', rfl, own2, o2⟩
       obtain ⟨A, n, c, rfl⟩ := own_shape own2
       rw [HF.out.1] at own2
       have hn : l.length = n := (own_count own2).symm
       rw [hn] at own2
       have F2 := Lib.hid (And.intro own2 o2)
       clear own2 o2))
  have hsz : w.heap.size ≤ w1.heap.size := C1.out.o.size
  have T0 : Hid (Tik B w a a1 s1 l A n c [] (.slice none 0 0) w2) := ⟨C1.out.keep F2.out.2, owns_base F2.out.1 hsz, World.ownsRow_nil _ _ _ _, fun k hk hf => by
    have h1 := (F2.out.1.lt k hk).1
    have h2 := (C1.out.r.all_ge hf).2
    omega, fun k hk => by cases hk⟩
  have HN := Lib.hid hn
  clear HEN HTI HST C0 C1 F2 hn hsz q3 q9
  go_loopw [23, 3] (fun vi v3 X => ∃ (i : Nat) (ai : Ra) (v : Value), i ≤ n ∧ vi = .int .i64 (i : Int) ∧ v3 = v ∧ ai.r = r ∧ Tik B w a ai ((l.take i).foldl tkS s1) l A n c (gnE t1 (l.take i)) v X) (fun vi _ _ => n - (intOf vi).toNat)
  case atStart => exact ⟨0, a1, _, Nat.zero_le _, rfl, rfl, e1r, T0.out⟩
  case round =>
    obtain ⟨i, ai, v, hi, rfl, rfl, hri, ht⟩ := hrel
    by_cases hlt : i < n
    · obtain ⟨x, hx⟩ : ∃ x, l[i]? = some x := ⟨l[i]'(by have := HN.out; omega), List.getElem?_eq_getElem _⟩
      have hck := HCK.out x (List.mem_of_getElem? hx)
      have HHS := Lib.hid (fold_has (s := s1) HR.out HF.out.1 hx)
      have HSN := Lib.hid (tks_snoc (s := s1) hx t1)
      have HSO : Hid (((l.take i).foldl tkS s1).o.t1 = t1) := by rw [Hid, fold_o]; exact HF.out.2
      obtain ⟨b, off, hA, _, _, hc⟩ := in_elem enRow_length (by decide) (Cel.of_own ht.e) HN.out hx
      obtain ⟨si, hsi⟩ : ∃ si, (l.take i).foldl tkS s1 = si := ⟨_, rfl⟩
      obtain ⟨gn, hgn⟩ : ∃ g, gnE t1 (l.take i) = g := ⟨_, rfl⟩
      rw [hsi] at HHS HSN HSO ht
      rw [hgn] at HSN ht
      obtain ⟨A3, n3, c3, rfl⟩ := own_shape ht.g
      have hn3 := own_count ht.g
      have hgl : gn.length ≤ 4096 := by
        rw [← hgn]
        have h1 := List.length_filter_le (goesM t1) (l.take i)
        have h2 := HML.out
        rw [List.length_take] at h1
        unfold gnE
        rw [List.length_map]; omega
      have HCX : Hid (∀ j u, (#[.string x.k, .string x.v, .bool x.d, .int .i64 x.s.c, .int .i64 x.s.s, .int .i64 x.a.c, .int .i64 x.a.s, .int .i64 x.p, .int .i64 x.g] : Array Value).toList[j]? = some u → wr.cell? ⟨b, off + i * 9 + j, none⟩ = some u) := fun j u hu => hc _ (Only.refl _ _) j u hu
      have T1 := Lib.hid (ht.keep ((Only.refl none_ wr).alloc (.cells #[.string x.k, .string x.v, .bool x.d, .int .i64 x.s.c, .int .i64 x.s.s, .int .i64 x.a.c, .int .i64 x.a.s, .int .i64 x.p, .int .i64 x.g] 82)))
      have N1 := Lib.hid (Bn.new (t := 82) (cs := #[.string x.k, .string x.v, .bool x.d, .int .i64 x.s.c, .int .i64 x.s.s, .int .i64 x.a.c, .int .i64 x.a.s, .int .i64 x.p, .int .i64 x.g]) ht.cy.r)
      have hki : (i : Int) < (n : Int) := by omega
      have hnm : n ≤ 4096 := by have h1 := HN.out; have h2 := HML.out; omega
      have hxg : 0 ≤ x.g + 1 ∧ x.g + 1 ≤ 2147483648 := by
        cases hd : x.d with
        | false => have := ((check_of hck).2.2.2.2.2.2.1 hd).2.2; omega
        | true => have := (check_of hck).2.2.2.2.2.2.2 hd; omega
      obtain ⟨g1, hg1⟩ : ∃ g, x.g + 1 = g := ⟨_, rfl⟩
      have hw1 : IntKind.i64.wrap (x.g + 1) = g1 := (IntWalk.i64_in _ (by omega)).trans hg1
      have HG1 := Lib.hid hg1
      have HN3 := Lib.hid (And.intro hn3 hgl)
      have HKS : Hid (x.k.size ≤ maxLen) := by have := (check_of hck).2.1; simp only [Hid, maxLen]; omega
      have ONE1 := Lib.hid (en_cells_one x)
      clear ht hc hx hsi hgn hn3 hgl hck hxg hg1
      obtain ⟨xk, xv, xd, ⟨xsc, xss⟩, ⟨xac, xas⟩, xp, xg⟩ := x
      dsimp only at HCX T1 N1 HG1 HHS HSN HKS hw1 ONE1
      subst hA
      go_upto_region 8 with (first
        | (with_reducible refine wpl_piece rfl 82 _ rfl b (off + i * 9) rfl #[.string xk, .string xv, .bool xd, .int .i64 xsc, .int .i64 xss, .int .i64 xac, .int .i64 xas, .int .i64 xp, .int .i64 xg] _ HCX.out Tryz.underlying82 rfl (by kernel_rfl) ?_)
        | (with_reducible refine wpl_new rfl rfl 82 rfl _ _ rfl #[.string xk, .string xv, .bool xd, .int .i64 xsc, .int .i64 xss, .int .i64 xac, .int .i64 xas, .int .i64 xp, .int .i64 xg] rfl rfl (by kernel_rfl) ONE1.out ?_))
      generalize wr.heap.size = h7 at *
      generalize wr.alloc (.cells #[.string xk, .string xv, .bool xd, .int .i64 xsc, .int .i64 xss, .int .i64 xac, .int .i64 xas, .int .i64 xp, .int .i64 xg] 82) = w1 at *
      have e2 := N1.out.b.cell_ (i := 2) rfl
      have e8 := N1.out.b.cell_ (i := 8) rfl
      have q3 : w1.cell? ⟨r, 3, none⟩ = some (.int .i64 t1) := by have h1 : w1.cell? ⟨r, 3, none⟩ = some (.int .i64 si.o.t1) := T1.out.cy.r.at_ hri (i := 3) rfl; rw [HSO.out] at h1; exact h1
      cases xd with
      | false =>
        have HR1 : Hid ((l.take (i + 1)).foldl tkS s1 = si ∧ gnE t1 (l.take (i + 1)) = gn) := ⟨HSN.out.1.trans (if_pos rfl), HSN.out.2.trans (if_neg (by simp [goesM]))⟩
        go_wp2_with fail
        go_roundw
        case rel => exact ⟨i + 1, ai, _, by omega, by go_num, rfl, hri, by rw [HR1.out.1, HR1.out.2]; exact T1.out⟩
        case measure => simp [intOf]; omega
      | true =>
        by_cases hgt : g1 < t1
        · have HR1 : Hid ((l.take (i + 1)).foldl tkS s1 = { si with tab := setE ⟨xk, xv, true, ⟨xsc, xss⟩, ⟨xac, xas⟩, xp, g1⟩ si.tab } ∧ gnE t1 (l.take (i + 1)) = gn) := by
            refine ⟨HSN.out.1.trans ?_, HSN.out.2.trans (if_neg ?_)⟩
            · unfold tkS
              rw [if_neg (by simp), if_pos (by rw [HSO.out, HG1.out]; exact hgt), HG1.out]
            · simp only [goesM, Bool.true_and, decide_eq_true_eq]; have := HG1.out; omega
          go_wp2_with fail
          (refine wp_region_steady (fun X => Only none_ w1 X) 5 (by kernel_rfl) (by kernel_rfl) ((Only.refl none_ w1).drew) ?_; simp only [List.take_succ_cons, List.take_zero, List.drop_succ_cons, List.drop_zero])
          repeat (first
            | (refine sd_value (v := ?_) (by rfl) (fun w0 hS => ?_) ?_; rotate_left; (· (have qq := nine_of (N1.out.keep hS).b; go_simp; try (with_reducible rfl))); try simp only [Act.put, List.setIfInBounds_toArray, List.set_cons_zero, List.set_cons_succ]))
          refine sd_nil ?_
          intro w3 t3
          have T3 := Lib.hid (T1.out.keep t3)
          clear t3
          go_wp2_with (first
            | (go_at_call 99; have hcall := ct_age B ai si ⟨xk, xv, true, ⟨xsc, xss⟩, ⟨xac, xas⟩, xp, xg⟩ g1 _ T3.out.cy.r HHS.out; rw [hri] at hcall; refine hcall.mono ?_; clear hcall; rintro E w4 ⟨rfl, L4⟩
               obtain ⟨a4, t4, e4, _⟩ := T3.out.step L4
               have T4 := Lib.hid t4
               clear t4 L4))
          go_roundw
          case rel => exact ⟨i + 1, a4, _, by omega, by go_num, rfl, e4.trans hri, by rw [HR1.out.1, HR1.out.2]; exact T4.out⟩
          case measure => simp [intOf]; omega
        · have HR1 : Hid ((l.take (i + 1)).foldl tkS s1 = { si with tab := dropE si.tab xk, z := si.z - hsh ⟨xk, xv, true, ⟨xsc, xss⟩, ⟨xac, xas⟩, xp, xg⟩, mks := dropM si.mks xk } ∧ gnE t1 (l.take (i + 1)) = gn ++ [xk]) := by
            refine ⟨HSN.out.1.trans ?_, HSN.out.2.trans (if_pos ?_)⟩
            · unfold tkS
              rw [if_neg (by simp), if_neg (by rw [HSO.out, HG1.out]; exact hgt)]
            · simp only [goesM, Bool.true_and, decide_eq_true_eq]; have := HG1.out; omega
          go_wp2_with fail
          (refine wp_region_steady (fun X => Only none_ w1 X) 4 (by kernel_rfl) (by kernel_rfl) ((Only.refl none_ w1).drew) ?_; simp only [List.take_succ_cons, List.take_zero, List.drop_succ_cons, List.drop_zero])
          repeat (first
            | (refine sd_value (v := ?_) (by rfl) (fun w0 hS => ?_) ?_; rotate_left; (· (have qq := nine_of (N1.out.keep hS).b; go_simp; try (with_reducible rfl))); try simp only [Act.put, List.setIfInBounds_toArray, List.set_cons_zero, List.set_cons_succ]))
          refine sd_nil ?_
          intro w3 t3
          have T3 := Lib.hid (T1.out.keep t3)
          have N3 := Lib.hid (N1.out.keep t3)
          clear t3 e2 e8
          have CMF := Lib.hid (fun (X : World) => cel_made X 9 1 1 #[.string xk] rfl (by simp [maxLen]))
          have ONE : Hid (∀ u ∈ (#[.string xk] : Array Value).toList, u.oneCell' = true) := by
            intro u hu
            simp only [List.mem_cons, List.not_mem_nil, or_false] at hu
            subst hu
            rfl
          have HLN : Hid (gn.length + 1 ≤ maxLen ∧ (gn.length + 1) * 16 ≤ 140737488355328) := by have := HN3.out.2; simp only [Hid, maxLen]; omega
          go_wp2_with (first
            | (go_at_call 100; have hcall := ct_drop B ai si ⟨xk, xv, true, ⟨xsc, xss⟩, ⟨xac, xas⟩, xp, xg⟩ _ T3.out.cy.r HKS.out; rw [hri] at hcall; refine hcall.mono ?_; clear hcall; rintro E w4 ⟨rfl, L4⟩
               obtain ⟨a4, t4, e4, b4⟩ := T3.out.step L4
               have T4 := Lib.hid t4
               have k0 := (b4 _ _ _ N3.out).b.cell_ (i := 0) rfl
               have T5 := Lib.hid (t4.keep ((Only.refl none_ w4).alloc (.cells #[.string xk] 9)))
               clear t4 L4 b4)
            | (at_builtin; refine wpList_append_cel _ rfl (.tmp 35) (.tmp 38) 38 rfl w.heap.size 9 i0 _ 1 16 Tryz.underlying38 hi0 hz0 hz1 hz2 rfl (by omega) (.slice A3 n3 c3) gn.length _ rfl T5.out.g _ _ 1 _ rfl (CMF.out w4) ONE.out HLN.out.1 HLN.out.2 (by have := T5.out.cy.o.size; exact this) ?_
               intro A6 n6 c6 w6 hown6 hgrow6 hmv6
               have T6 : Hid (Tik B w a a4 _ l _ n c (gn ++ [xk]) (.slice A6 n6 c6) w6) := T5.out.app (by rw [List.length_append, List.map_append]; exact hown6) hgrow6 hmv6
               clear hown6 hgrow6 hmv6))
          go_roundw
          case rel => exact ⟨i + 1, a4, _, by omega, by go_num, rfl, e4.trans hri, by rw [HR1.out.1, HR1.out.2]; exact T6.out⟩
          case measure => simp [intOf]; omega
    · obtain rfl : i = n := by omega
      have hin : l.take i = l := List.take_of_length_le (by have := HN.out; omega)
      rw [hin] at ht
      have HT := Lib.hid ht
      clear ht
      go_wp2_with fail
      go_ret
      exact ⟨_, rfl, HT.out.g, HT.out.cy.left⟩
end Go.Proofs.YtoohpcomnhfgpaaGreat
end
section
namespace Go.Proofs.YtoohpcomnhfgpaaGreat
open Go.RowKit
set_option maxRecDepth 100000
set_option linter.all false
theorem dv_open {log : List En} (hl : ∀ e ∈ log, enCheck e = 0) (hn : log.length ≤ 60) :
    (jnRead (dvOf (log.map encB)).bs).2.2 = 0 ∧ (jnRead (dvOf (log.map encB)).bs).1 = log.map encB ∧ opD (dvOf (log.map encB)) = dvOf (log.map encB) ∧ (dvOf (log.map encB)).bs.length + 100 ≤ 1048576 := by
  have hr : ∀ r ∈ log.map encB, Rok r := fun r hr => by
    obtain ⟨e, he, rfl⟩ := List.mem_map.1 hr
    exact enc_rok (hl e he)
  obtain ⟨h1, h2, h3⟩ := open_all (log.map encB) hr
  have h4 := read_all (log.map encB) hr
  have h5 := flatB_le _ hr
  rw [List.length_map] at h5
  have h6 : (dvOf (log.map encB)).bs = flatB (log.map encB) := rfl
  refine ⟨by rw [h6, h4], h3, h2, ?_⟩
  rw [h6]; omega
theorem rp_reopen (B : World) (dg : Nat) (vd : Value) (log : List En) (site : Int) (o : Ro) (w : World) (h : Dsk B dg (dvOf (log.map encB)) vd w) (hl : ∀ e ∈ log, enCheck e = 0) (hn : log.length ≤ 60) (ho : roBad o = false) (hs : 0 ≤ site ∧ site < o.n) :
    Calls Tryz.prog 15 #[.int .i64 site, .agg #[.int .i64 o.n, .int .i64 o.q, .int .i64 o.r, .int .i64 o.t1, .int .i64 o.t2], .pointer (some ⟨dg, 0, none⟩)] w fun E w' => OpP B w dg vd (dvOf (log.map encB)) (opF log (blankS o site (dvOf (log.map encB)) log.length)) E w' := by
  obtain ⟨h1, h2, h3, h4⟩ := dv_open hl hn
  have := rp_open B dg (dvOf (log.map encB)) vd site o log w h rfl h1 (show (-1 : Int) ≠ 0 by decide) h2 hl hn ho hs (by rw [h3]; exact h4)
  rw [h3] at this
  exact this
end Go.Proofs.YtoohpcomnhfgpaaGreat
end
section
namespace Go.Proofs.YtoohpcomnhfgpaaGreat
open Go.RowKit
set_option maxRecDepth 100000
set_option linter.all false
structure Pa where
  kind : Int
  k : ByteArray
  v : ByteArray
  e : En
def paRow (x : Pa) : List Value := .int .i64 x.kind :: .string x.k :: .string x.v :: enRow x.e
theorem paRow_length (x : Pa) : (paRow x).length = 12 := rfl
abbrev paA (a : Pa) : Array Value := #[.int .i64 a.kind, .string a.k, .string a.v, .string a.e.k, .string a.e.v, .bool a.e.d, .int .i64 a.e.s.c, .int .i64 a.e.s.s, .int .i64 a.e.a.c, .int .i64 a.e.a.s, .int .i64 a.e.p, .int .i64 a.e.g]
theorem pa_one (a : Pa) : (paA a).all (·.oneCell') = true := by simp [Value.oneCell']
theorem pa_entry {w : World} {b : Nat} {t : TypeId} {a : Pa} (h : Blk w b t (paA a)) : ∀ j u, (#[.string a.e.k, .string a.e.v, .bool a.e.d, .int .i64 a.e.s.c, .int .i64 a.e.s.s, .int .i64 a.e.a.c, .int .i64 a.e.a.s, .int .i64 a.e.p, .int .i64 a.e.g] : Array Value).toList[j]? = some u → w.cell? ⟨b, 3 + j, none⟩ = some u := fun j u hu => by
  rw [h.cell (3 + j), Nat.add_comm]
  simpa using hu
def paShort (a : Pa) : Bool := decide (a.k.size ≤ 40) && decide (a.v.size ≤ 60) && enShort a.e
theorem paShort_succ {l : List Pa} {k : Nat} {e : Pa} (h : l[k]? = some e) : (l.take (k + 1)).all paShort = ((l.take k).all paShort && paShort e) := by
  obtain ⟨hk, hb⟩ := List.getElem?_eq_some_iff.1 h
  rw [List.take_succ_eq_append_getElem hk, List.all_append, hb]
  simp
set_option maxHeartbeats 6400000 in
theorem rp_few (v : Value) (l : List Pa) (m : Nat) (w : World) (S : Nat → Prop) (hx : Cel w S v l.length 12 (l.flatMap paRow)) :
    Calls Tryz.prog 13 #[v, .int .i64 (m : Int)] w fun E w' => E = .returned (.bool (l.all paShort && decide (l.length ≤ m))) ∧ Only none_ w w' := by
  have hx0 := hx
  obtain ⟨A, c, rfl, _, h2, h3, _, h4⟩ := hx
  obtain ⟨L, hL⟩ : ∃ L, l.length = L := ⟨_, rfl⟩
  rw [hL] at h2 h4 hx0 ⊢
  have HX := Lib.hid hx0
  have HL := Lib.hid hL
  have hLm : L ≤ 9223372036854775807 := by simp only [maxLen] at h3; omega
  have O0 := Lib.hid (Only.refl none_ w)
  clear h4 hL hx0
  go_enter Tryz.func13, Tryz.ntmps13
  go_wp2_with fail
  go_loopw [9] (fun i wr => ∃ k : Nat, k ≤ L ∧ i = .int .i64 (k : Int) ∧ (l.take k).all paShort = true ∧ Only none_ w wr) (fun i _ => L - (intOf i).toNat)
  case atStart => exact ⟨0, Nat.zero_le _, rfl, by simp, O0.out⟩
  case round =>
    obtain ⟨k, hk, rfl, hall, ho⟩ := hrel
    have HW := Lib.hid ho
    have HA := Lib.hid hall
    clear ho hall
    by_cases hlt : k < L
    · obtain ⟨a, ha⟩ : ∃ a, l[k]? = some a := ⟨l[k]'(by have := HL.out; omega), List.getElem?_eq_getElem _⟩
      obtain ⟨b, off, hA, _, hb, hc⟩ := in_elem paRow_length (by decide) HX.out HL.out ha
      subst hA
      have HC : Hid (∀ j u, (paA a).toList[j]? = some u → wr.cell? ⟨b, off + k * 12 + j, none⟩ = some u) := fun j u hu => hc _ HW.out j u hu
      have HS := Lib.hid (paShort_succ ha)
      have hmem : a ∈ l := List.mem_of_getElem? ha
      have BA := Lib.hid (Blk.new wr 52 (paA a))
      obtain ⟨s, hs⟩ : ∃ s, enShort a.e = s := ⟨_, rfl⟩
      have HSS := Lib.hid hs
      have HF : Hid (paShort a = false → l.all paShort = false) := by intro e; rw [List.all_eq_false]; exact ⟨a, hmem, by simp [e]⟩
      have HP : Hid (paShort a = (decide (a.k.size ≤ 40) && decide (a.v.size ≤ 60) && s)) := by rw [← hs]; rfl
      clear ha hc hmem hs
      have hki : (k : Int) < (L : Int) := by omega
      by_cases hk1 : 40 < a.k.size
      · have hk2 : (40 : Int) < (a.k.size : Int) := by omega
        have HF2 : Hid (l.all paShort = false) := HF.out (by rw [HP.out, decide_eq_false (by omega)]; rfl)
        go_wp2_with (first
          | (refine wpl_piece rfl 52 _ rfl b (off + k * 12) rfl (paA a) _ HC.out Tryz.underlying52 rfl (by kernel_rfl) ?_)
          | (refine wpl_new rfl rfl 52 rfl _ _ rfl (paA a) rfl rfl (by kernel_rfl) (pa_one a) ?_))
        go_ret
        exact ⟨by rw [HF2.out]; rfl, HW.out.alloc _⟩
      · have hk2 : ¬ (40 : Int) < (a.k.size : Int) := by omega
        by_cases hv1 : 60 < a.v.size
        · have hv2 : (60 : Int) < (a.v.size : Int) := by omega
          have HF2 : Hid (l.all paShort = false) := HF.out (by rw [HP.out, decide_eq_false (p := a.v.size ≤ 60) (by omega), Bool.and_false]; rfl)
          go_wp2_with (first
            | (refine wpl_piece rfl 52 _ rfl b (off + k * 12) rfl (paA a) _ HC.out Tryz.underlying52 rfl (by kernel_rfl) ?_)
            | (refine wpl_new rfl rfl 52 rfl _ _ rfl (paA a) rfl rfl (by kernel_rfl) (pa_one a) ?_))
          go_ret
          exact ⟨by rw [HF2.out]; rfl, HW.out.alloc _⟩
        · have hv2 : ¬ (60 : Int) < (a.v.size : Int) := by omega
          have HP2 : Hid (paShort a = s) := by rw [Hid, HP.out, decide_eq_true (by omega), decide_eq_true (by omega)]; rfl
          rw [HP2.out] at HS
          cases s with
          | false =>
            have HF2 : Hid (l.all paShort = false) := HF.out HP2.out
            clear HF
            go_wp2_with (first
              | (refine wpl_piece rfl 52 _ rfl b (off + k * 12) rfl (paA a) _ HC.out Tryz.underlying52 rfl (by kernel_rfl) ?_)
              | (refine wpl_new rfl rfl 52 rfl _ _ rfl (paA a) rfl rfl (by kernel_rfl) (pa_one a) ?_)
              | (refine wpl_piece rfl 50 _ rfl wr.heap.size 3 rfl #[.string a.e.k, .string a.e.v, .bool a.e.d, .int .i64 a.e.s.c, .int .i64 a.e.s.s, .int .i64 a.e.a.c, .int .i64 a.e.a.s, .int .i64 a.e.p, .int .i64 a.e.g] _ (pa_entry BA.out) Tryz.underlying50 rfl (by kernel_rfl) ?_)
              | (go_at_call 34; refine (rf_short a.e _).mono ?_; rw [HSS.out]; rintro E w5 ⟨rfl, o5⟩; have O5 := Lib.hid ((HW.out.alloc _).trans o5); clear o5))
            go_ret
            exact ⟨by rw [HF2.out]; rfl, O5.out⟩
          | true =>
            clear HF
            go_wp2_with (first
              | (refine wpl_piece rfl 52 _ rfl b (off + k * 12) rfl (paA a) _ HC.out Tryz.underlying52 rfl (by kernel_rfl) ?_)
              | (refine wpl_new rfl rfl 52 rfl _ _ rfl (paA a) rfl rfl (by kernel_rfl) (pa_one a) ?_)
              | (refine wpl_piece rfl 50 _ rfl wr.heap.size 3 rfl #[.string a.e.k, .string a.e.v, .bool a.e.d, .int .i64 a.e.s.c, .int .i64 a.e.s.s, .int .i64 a.e.a.c, .int .i64 a.e.a.s, .int .i64 a.e.p, .int .i64 a.e.g] _ (pa_entry BA.out) Tryz.underlying50 rfl (by kernel_rfl) ?_)
              | (go_at_call 34; refine (rf_short a.e _).mono ?_; rw [HSS.out]; rintro E w5 ⟨rfl, o5⟩; have O5 := Lib.hid ((HW.out.alloc _).trans o5); clear o5))
            go_roundw
            case rel => exact ⟨k + 1, by omega, by go_num, by rw [HS.out, HA.out]; rfl, O5.out⟩
            case measure => simp [intOf]; omega
    · obtain rfl : k = L := by omega
      have HT : Hid (l.all paShort = true) := by have := HA.out; rwa [← HL.out, List.take_length] at this
      by_cases h40 : k ≤ m
      · have hz : Hid (decide (k ≤ m) = true) := by simp [Hid, h40]
        have hd : decide ((k : Int) ≤ (m : Int)) = true := by simp; omega
        go_wp2_with fail
        go_ret
        exact ⟨by rw [HT.out, hz.out]; rfl, HW.out⟩
      · have hz : Hid (decide (k ≤ m) = false) := by simp [Hid]; omega
        have hd : decide ((k : Int) ≤ (m : Int)) = false := by simp; omega
        go_wp2_with fail
        go_ret
        exact ⟨by rw [HT.out, hz.out]; rfl, HW.out⟩
end Go.Proofs.YtoohpcomnhfgpaaGreat
end
section
namespace Go.Proofs.YtoohpcomnhfgpaaGreat
open Go.RowKit
set_option maxRecDepth 100000
set_option linter.all false
set_option maxHeartbeats 3200000 in
theorem ct_sum (B : World) (a : Ra) (s : Rs) (w : World) (h : Rp B a s w) :
    Calls Tryz.prog 53 #[.pointer (some ⟨a.r, 6, none⟩)] w fun E w' => E = .returned (.int .u64 (w64 s.z)) ∧ w = w' := by
  have HS := Lib.hid (su_value_in a.r 7 78 (rCells a s.o s.z) s.z w h.bk rfl)
  clear h
  go_enter Tryz.func53, Tryz.ntmps53
  go_wp2_with (first
    | (go_at_call 103; refine HS.out.mono ?_; rintro E w1 ⟨rfl, rfl⟩))
  go_ret
  exact ⟨rfl, rfl⟩
set_option maxHeartbeats 3200000 in
theorem rp_of (o : Ro) (w : World) :
    Calls Tryz.prog 16 #[.agg #[.int .i64 o.n, .int .i64 o.q, .int .i64 o.r, .int .i64 o.t1, .int .i64 o.t2]] w fun E w' => E = .returned (.agg #[.int .i64 o.n, .int .i64 o.q, .int .i64 o.r, .int .i64 o.t1, .int .i64 o.t2]) ∧ Only none_ w w' := by
  go_enter Tryz.func16, Tryz.ntmps16
  go_wp2_with fail
  have b := Blk.new (w.alloc (.cells #[.int .i64 o.n, .int .i64 o.q, .int .i64 o.r, .int .i64 o.t1, .int .i64 o.t2] 23)) 33 #[.int .i64 o.n, .int .i64 o.q, .int .i64 o.r, .int .i64 o.t1, .int .i64 o.t2]
  rw [World.size_alloc] at b
  exact bodyPost_ret (results_cell_row rfl _ _ (w.heap.size + 1) 33 _ (0, 0) _ rfl b Tryz.underlying33 rfl (by kernel_rfl)) rfl ⟨rfl, ((Only.refl none_ w).alloc _).alloc _⟩
end Go.Proofs.YtoohpcomnhfgpaaGreat
end
