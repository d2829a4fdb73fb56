/- Texts of mine, one behind the other: TbXe, GvC, TbXr. No statement of the seat is proved here. -/
import Derived.Test.YtniacolkjdmflaaPg6
import Derived.Test.YtniacolkjdmflaaPg12
import Derived.OrdersIn
import Derived.RangeFuncCalls
import Derived.OwnWalkIn
import Derived.Test.YtniacolkjdmflaaPg1
section
namespace Go.Proofs.Ytniacolkjdmflaa.Se
open Go.RowKit Go.Shelf
set_option maxRecDepth 100000
set_option linter.all false
attribute [local go_sem] Oper.semAt_some

/-- What a round is handed. -/
abbrev encP (x : Pr En) : Array Value := #[.string x.k, .agg #[.string x.v.k, .string x.v.v, .bool x.v.d, .int .i64 x.v.s.c, .int .i64 x.v.s.s, .int .i64 x.v.a.c, .int .i64 x.v.a.s, .int .i64 x.v.p, .int .i64 x.v.g]]

theorem pr_ten {W : World} {b off : Nat} {x : Pr En} (hc : ∀ j u, (prI x)[j]? = some u → W.cell? ⟨b, off + j, none⟩ = some u) :
    W.cell? ⟨b, off, none⟩ = some (.string x.k) ∧ W.cell? ⟨b, off + 1, none⟩ = some (.string x.v.k) ∧ W.cell? ⟨b, off + 2, none⟩ = some (.string x.v.v) ∧ W.cell? ⟨b, off + 3, none⟩ = some (.bool x.v.d) ∧ W.cell? ⟨b, off + 4, none⟩ = some (.int .i64 x.v.s.c) ∧ W.cell? ⟨b, off + 5, none⟩ = some (.int .i64 x.v.s.s) ∧ W.cell? ⟨b, off + 6, none⟩ = some (.int .i64 x.v.a.c) ∧ W.cell? ⟨b, off + 7, none⟩ = some (.int .i64 x.v.a.s) ∧ W.cell? ⟨b, off + 8, none⟩ = some (.int .i64 x.v.p) ∧ W.cell? ⟨b, off + 9, none⟩ = some (.int .i64 x.v.g) :=
  ⟨hc 0 _ rfl, hc 1 _ rfl, hc 2 _ rfl, hc 3 _ rfl, hc 4 _ rfl, hc 5 _ rfl, hc 6 _ rfl, hc 7 _ rfl, hc 8 _ rfl, hc 9 _ rfl⟩

set_option maxHeartbeats 6400000 in
theorem all1_goes (T : World → Nat → Prop) (N : Nat) (hT : Stab T N) (Bs : Nat) (A : Option Addr) (c L : Nat) (t : List (Pr En)) (hL : L = t.length) (ht : L ≤ 4096) (w : World) (hN : N ≤ w.heap.size)
    (hBs : Blk w Bs 146 #[.slice A L c]) (hcel : Cel w (fun b => ¬ T w b) (.slice A L c) L 10 (t.flatMap prI)) :
    Goes Try.prog 105 #[.pointer (some ⟨Bs, 0, none⟩)] encP (fun _ => Kc T) t w := by
  intro l J W hW _ hJ hY h0 n
  refine callsIn_wide.2 ((callsIn_wide (n := 5)).1 ?_)
  refine callsIn_of_wp Try.func105 rfl trivial ?_ rfl
  simp only [Try.ntmps105, List.append_toArray, List.size_toArray, List.length_cons, List.length_nil, Nat.reduceAdd, Nat.reduceSub, Array.replicate_succ, Array.replicate_zero, List.push_toArray, List.append_toArray, List.nil_append, List.cons_append]
  have hsz := hW.size
  have hB : W.cell? ⟨Bs, 0, none⟩ = some (.slice A L c) := (hW.cell (p := ⟨Bs, 0, none⟩) hBs.lt).trans (hBs.cell_ (i := 0) rfl)
  have HC : Hid (Cel W (fun b => ¬ T W b) (.slice A L c) L 10 (t.flatMap prI)) := by
    have h1 : ∀ b, T W b → T w b := hT w W (fun k hk => hW.block k (by omega))
    exact (hcel.only (Only.of_below (S := none_) hW) (fun _ _ h => h)).mono (fun b _ hb hbt => hb (h1 b hbt))
  have HL := Lib.hid hL
  have HJ := Lib.hid hJ
  have HY := Lib.hid hY
  have H0 := Lib.hid h0
  have HT := Lib.hid hT
  have HN : Hid (N ≤ W.heap.size) := Nat.le_trans hN hsz
  clear hcel hL hJ hY h0 hBs hT hN hsz hW
  gi_wp2
  gi_loopw [7] (fun i wr => ∃ k : Nat, k ≤ L ∧ i = .int .i64 k ∧ J (t.take k) wr ∧ Cel wr (fun b => ¬ T wr b) (.slice A L c) L 10 (t.flatMap prI) ∧ W.heap.size ≤ wr.heap.size)
    (fun i _ => L - (intOf i).toNat)
  case atStart => exact ⟨0, Nat.zero_le _, rfl, H0.out, HC.out, Nat.le_refl _⟩
  case round =>
    obtain ⟨k, hk, rfl, hJs, hcl, hsz⟩ := hrel
    by_cases hlt : k < L
    · have hkt : k < t.length := by have := HL.out; omega
      obtain ⟨b, off, rfl, hb, _, hc⟩ := prI_at hcl k hkt HL.out
      have HS : Hid (t.take k ++ [t[k]] = t.take (k + 1)) := (List.take_succ_eq_append_getElem hkt).symm
      obtain ⟨x, hx⟩ : ∃ x, t[k] = x := ⟨_, rfl⟩
      rw [hx] at hc HS
      have hNr : N ≤ wr.heap.size := Nat.le_trans HN.out hsz
      have KA := Lib.hid (Kc.alloc HT.out hNr (.cells (prA x) 145))
      have CA := Lib.hid (KA.out.cel hcl)
      obtain ⟨fn, tmps, assign, body, hy, hR⟩ := HY.out _ x (wr.alloc (.cells (prA x) 145)) (HJ.out _ _ _ none hJs (World.grownBy_alloc wr _ none) (fun r e => by cases e)) (by rw [HS.out]; exact List.take_prefix _ _) (5 - 1)
      obtain ⟨h0, h1, h2, h3, h4, h5, h6, h7, h8, h9⟩ := pr_ten hc
      have SZ : Hid (W.heap.size ≤ (wr.alloc (.cells (prA x) 145)).heap.size) := by rw [Hid, World.size_alloc]; omega
      rw [HS.out] at hR
      have HRR := Lib.hid hR
      obtain ⟨kk, vk, vv, vd, ⟨sc, ss⟩, ⟨ac, as_⟩, vp, vg⟩ := x
      dsimp only [prA, encP] at hy h0 h1 h2 h3 h4 h5 h6 h7 h8 h9
      have hki : (k : Int) < (L : Int) := by omega
      clear hJs hc hR hcl hb
      gi_wp2
      refine HRR.out.mono ?_
      rintro e W3 ⟨rfl, hJ3, hk3⟩
      have C3 := Lib.hid (hk3.cel CA.out)
      have S3 : Hid (W.heap.size ≤ W3.heap.size) := Nat.le_trans SZ.out hk3.size
      have J3 := Lib.hid hJ3
      clear hJ3 hk3
      gi_wp2
      go_roundw
      case rel => exact ⟨k + 1, by omega, by simp, J3.out, C3.out, S3.out⟩
      case measure => simp [intOf]; omega
    · obtain rfl : L = k := by omega
      have HT2 : Hid (t.take L = t) := by rw [Hid, HL.out, List.take_length]
      rw [HT2.out] at hJs
      have JJ := Lib.hid hJs
      clear hJs hcl
      gi_wp2
      go_end0
      exact ⟨⟨_, rfl⟩, JJ.out⟩
end Go.Proofs.Ytniacolkjdmflaa.Se
end
section
namespace Go.Proofs.Ytniacolkjdmflaa
open Go.RowKit Go.Shelf
set_option maxRecDepth 100000
set_option linter.all false
attribute [local go_sem] Oper.semAt_some

/-- What a round of loop l keeps. -/
def Kr (T : World → Nat → Prop) (l : Nat) (W W' : World) : Prop := Kc T W W' ∧ Ko l W W'
theorem Kr.trans {T : World → Nat → Prop} {l : Nat} {A B C : World} (h : Kr T l A B) (k : Kr T l B C) : Kr T l A C :=
  ⟨h.1.trans k.1, fun i o hi ho hc => k.2 i o hi (h.2 i o hi ho hc) hc⟩

/-- What is told from a block on goes on where nothing that was there changes. -/
theorem own_new {α : Type} {N : Nat} {J : α → World → Prop} {x : α} {A C : World} (hJ : OwnFrom N J) (o : Only none_ A C) (h : J x A) : J x C :=
  hJ x A C none h ⟨o.os, o.tape, o.output, o.size, fun k hk _ => o.block k hk (fun h => h)⟩ (fun r e => by cases e)

set_option maxHeartbeats 12800000 in
theorem each1_goes (T : World → Nat → Prop) (N : Nat) (hT : Stab T N) (Bs s tb : Nat) (l : List En) (v : Value) (B w : World) (hN : N ≤ w.heap.size) (hTb : ∀ b, T w b → b < w.heap.size)
    (hBs : Blk w Bs 56 #[.pointer (some ⟨s, 0, none⟩)]) (hs : Sh w s tb) (hsT : ¬ T w s) (hsl : s < w.heap.size) (ht : Se.Tb B tb 4096 (prs l) v w) :
    Goes Try.prog 75 #[.pointer (some ⟨Bs, 0, none⟩)] Se.encP (Kr T) (prs l) w := by
  intro lr J W hW hlr hJ hY h0 n
  refine callsIn_wide.2 ((callsIn_wide (n := 5)).1 ?_)
  have hsz := hW.size
  have oW : Only none_ w W := Only.of_below hW
  have oa : Only none_ W (W.alloc (.cells #[.func (.yield lr) #[] #[]] 140)) := (Only.refl none_ W).alloc _
  have owa := oW.trans oa
  have hB1 := hBs.only owa (fun h => h)
  have cB : (W.alloc (.cells #[.func (.yield lr) #[] #[]] 140)).cell? ⟨Bs, 0, none⟩ = some (.pointer (some ⟨s, 0, none⟩)) := hB1.cell_ (i := 0) rfl
  have hS1 := hs.keep owa (fun h => h)
  have c0 := hS1.c0
  have YB := Lib.hid (Blk.new W 140 #[.func (.yield lr) #[] #[]])
  have HA := Lib.hid (Se.tb_all B tb 4096 (prs l) v (W.alloc (.cells #[.func (.yield lr) #[] #[]] 140)) (ht.keep owa))
  have HLL := Lib.hid ht.ml
  have HT := Lib.hid hT
  have HJ := Lib.hid hJ
  have HY := Lib.hid hY
  have H0 := Lib.hid h0
  have HS1 := Lib.hid hS1
  have TW : Hid (∀ (X : World), Only none_ W X → ∀ b, T X b → b < w.heap.size ∧ b ≠ s) := by
    intro X o b hb
    have h1 := hT.only (oW.trans o) hN (fun k _ h => h) b hb
    exact ⟨hTb b h1, fun e => hsT (e ▸ h1)⟩
  have NUM : Hid (N ≤ w.heap.size ∧ w.heap.size ≤ W.heap.size ∧ lr < W.heap.size ∧ s < w.heap.size) := ⟨hN, hsz, hlr, hsl⟩
  have OA := Lib.hid oa
  clear hBs hs hsT ht hN hTb hT hJ hY h0 hS1 hsz oW oa owa hB1 hlr hsl hW
  refine callsIn_of_wp_marks Try.func75 rfl trivial ?_ rfl
  simp only [Try.ntmps75, List.append_toArray, List.size_toArray, List.length_cons, List.length_nil, Nat.reduceAdd, Nat.reduceSub, Array.replicate_succ, Array.replicate_zero, List.push_toArray, List.append_toArray, List.nil_append, List.cons_append]
  gi_wp2
  refine wpIn_loop_rounds 2 ?_
  rw [roundsIn_succ]
  gi_wp2_with (refine ⟨trivial, ?_⟩; refine (callsIn_wide.2 HA.out).mono ?_; rintro e w1 ⟨hP, A, L, c, rfl, hP0, hn, b1, cel1, o1⟩)
  have OW1 := Lib.hid (OA.out.trans o1)
  have hL4 : Hid (L = (prs l).length ∧ L ≤ 4096) := by have := HLL.out; rw [Hid]; omega
  have T1 : Hid (∀ b, T w1 b → b < w.heap.size ∧ b ≠ s) := TW.out w1 OW1.out
  have YB1 : Hid (Blk w1 W.heap.size 140 #[.func (.yield lr) #[] #[]]) := YB.out.only o1 (fun h => h)
  have S1 : Hid (Sh w1 s tb) := HS1.out.keep o1 (fun h => h)
  have N1 : Hid (N ≤ w1.heap.size ∧ W.heap.size < w1.heap.size) := by
    have h1 := NUM.out; have h2 := YB1.out.lt
    exact ⟨by omega, h2⟩
  have C1 : Hid (Cel w1 (fun b => ¬ T w1 b) (.slice A L c) L 10 ((prs l).flatMap Se.prI)) := cel1.mono (fun b _ hb hbt => by
    have h1 := T1.out b hbt
    have h2 := NUM.out
    have hb' : W.heap.size + 1 ≤ b := by simpa [World.size_alloc] using hb
    omega)
  clear o1 cel1 HLL TW YB HS1 HA hP0 hn
  refine range_goes (n := 4) (gf := 105) (lb := #[.pointer (some ⟨hP, 0, none⟩)]) rfl (enters_of Try.func105 (by kernel_rfl) rfl)
    (Se.all1_goes T N HT.out hP A c L (prs l) hL4.out.1 hL4.out.2 w1 N1.out.1 b1 C1.out) (Below.refl _ _) (fun _ => rfl)
    (fun h k => h.trans k) (fun X r r' hr => Kc.putObj HT.out _ (by have := N1.out; omega) hr rfl)
    (fun pre X => J pre X ∧ Kc T w1 X) ?hI ⟨own_new HJ.out OW1.out H0.out, Kc.refl _ _⟩ ?hround ?hdone
  case hI =>
    intro pre X X' row h hg hr
    exact ⟨HJ.out pre X X' row h.1 hg (fun r e => ⟨by have h1 := (hr r e).1; have h2 := N1.out; omega, (hr r e).2⟩), h.2.trans (Kc.of_grown HT.out hg (by have h1 := N1.out; have h2 := h.2.size; omega) (fun r e => ⟨by have h1 := (hr r e).1; have h2 := N1.out; omega, (hr r e).2⟩))⟩
  case hround =>
    intro pre x X hlx hi hlen
    have NX : Hid (N ≤ X.heap.size) := by have h1 := N1.out; have h2 := hi.2.size; rw [Hid]; omega
    have HI := Lib.hid hi
    clear hi
    obtain ⟨kk, vk, vv, vd, ⟨sc, ss⟩, ⟨ac, as_⟩, vp, vg⟩ := x
    gi_wp2
    have k0 := Kc.alloc HT.out NX.out (.cells #[.string vk, .string vv, .bool vd, .int .i64 sc, .int .i64 ss, .int .i64 ac, .int .i64 as_, .int .i64 vp, .int .i64 vg] 51)
    refine ⟨(KeepsOthers.alloc _ _).from _, ⟨own_new HJ.out ((Only.refl none_ X).alloc _) HI.out.1, HI.out.2.trans k0⟩, fun r ⟨r0, hr0⟩ hi2 => ?_⟩
    have k1 : Kc T X (((X.alloc (.cells #[.string vk, .string vv, .bool vd, .int .i64 sc, .int .i64 ss, .int .i64 ac, .int .i64 as_, .int .i64 vp, .int .i64 vg] 51)).putObj (w1.heap.size + 1) (.loop r))) := k0.trans (Kc.putObj HT.out _ (by have := N1.out; omega) hr0 rfl)
    have BE : Hid (Blk ((X.alloc (.cells #[.string vk, .string vv, .bool vd, .int .i64 sc, .int .i64 ss, .int .i64 ac, .int .i64 as_, .int .i64 vp, .int .i64 vg] 51)).putObj (w1.heap.size + 1) (.loop r)) X.heap.size 51 #[.string vk, .string vv, .bool vd, .int .i64 sc, .int .i64 ss, .int .i64 ac, .int .i64 as_, .int .i64 vp, .int .i64 vg]) :=
      (Blk.new X _ _).grown' (grownBy_putObj' _ _ _) (fun e => by injection e with e; omega)
    generalize (X.alloc (.cells #[.string vk, .string vv, .bool vd, .int .i64 sc, .int .i64 ss, .int .i64 ac, .int .i64 as_, .int .i64 vp, .int .i64 vg] 51)).putObj (w1.heap.size + 1) (.loop r) = Y at hi2 BE k1
    have K1 := Lib.hid k1
    have cY := (hi2.2.blk YB1.out (fun ht => by have h1 := T1.out _ ht; have h2 := NUM.out; omega)).cell_ (i := 0) rfl
    have z0 := BE.out.cell_ (i := 0) rfl
    have z1 := BE.out.cell_ (i := 1) rfl
    have z2 := BE.out.cell_ (i := 2) rfl
    have z3 := BE.out.cell_ (i := 3) rfl
    have z4 := BE.out.cell_ (i := 4) rfl
    have z5 := BE.out.cell_ (i := 5) rfl
    have z6 := BE.out.cell_ (i := 6) rfl
    have z7 := BE.out.cell_ (i := 7) rfl
    have z8 := BE.out.cell_ (i := 8) rfl
    obtain ⟨fn, tmps, assign, body, hy, hR⟩ := HY.out pre ⟨kk, vk, vv, vd, ⟨sc, ss⟩, ⟨ac, as_⟩, vp, vg⟩ Y hi2.1 hlen (5 - 1)
    have HRR := Lib.hid hR
    have KY := Lib.hid hi2.2
    dsimp only [Se.encP] at hy
    clear hR hi2 k0 k1 BE HI hlx hlen hr0
    gi_wp2
    refine (roundIn_in _ HRR.out).mono ?_
    rintro e Z ⟨rfl, hJ3, hk3, ho3⟩
    gi_wp2
    refine ⟨⟨hk3.size, fun k o hb hk ho => ho3 k o (by have h1 := NUM.out; have h2 := N1.out; omega) hk ho⟩, K1.out.trans hk3, hJ3, KY.out.trans hk3⟩
  case hdone =>
    intro D X hD hi hdef
    have c2 : X.cell? ⟨s, 2, none⟩ = some (.pointer none) := hi.2.cell (p := ⟨s, 2, none⟩) S1.out.c2 (fun ht => (T1.out s ht).2 rfl)
    have HI := Lib.hid hi
    have HD := Lib.hid hD
    have HDF := Lib.hid hdef
    clear hi hdef hD
    gi_wp2
    rw [roundsIn_succ]
    gi_wp2
    refine ⟨by simp, .inl ⟨_, _, rfl, run_takeDeferred HDF.out, ?_⟩⟩
    exact ⟨_, results_none rfl _ _ _, ⟨_, rfl⟩, HJ.out.putObj _ HI.out.1 (by have h1 := HD.out; have h2 := N1.out; omega) HDF.out rfl⟩
end Go.Proofs.Ytniacolkjdmflaa
end
section
namespace Go.Proofs.Ytniacolkjdmflaa
set_option linter.all false

theorem opIn_round {P : Program} {o : Oper} {a : Act} {w : World} {K : Act → World → Prop} {Q : Exit → Act → World → Prop} (l n : Nat) (hd : ∀ c, o.op ≠ .defer c) (h : o.wp P a w K Q) : o.wpIn (Fence.wide.inRound l) n P a w K Q := by
  refine ⟨fun _ _ => trivial, ?_⟩
  rw [Oper.semAt_plain _ _ _ hd]
  unfold Oper.wp at h
  generalize (execOp a.eval o).run P w = r at *
  cases r with
  | ok x w' =>
    cases x with
    | enter f args => exact ⟨(fun h => by cases h), CallsIn.inRound l (callsIn_wide.2 h)⟩
    | row row args => exact ⟨(fun h => by cases h), fun c cs _ => let ⟨v, w', r, s⟩ := h c cs; ⟨v, w', r, stepsIn_wide.2 s⟩⟩
    | round _ _ _ _ _ => exact h.elim
    | _ => exact h
  | halt x w' => cases x <;> exact h

theorem anyIn_round {P : Program} {md : Region.Mode} {ops : Array Oper} {Q : Exit → Act → World → Prop} (l n : Nat) (hd : ∀ (i : Nat) (o : Oper), ops[i]? = some o → ∀ c, o.op ≠ .defer c) (hQ : ¬ LetsOut Q) :
    ∀ (fuel : Nat) (listed : Array Bool) (a : Act) (w : World), wpAny P md ops Q fuel listed a w → wpAnyIn (Fence.wide.inRound l) n P md ops Q fuel listed a w
  | 0, _, _, _, h => h
  | fuel + 1, listed, a, w, h => by
    refine ⟨h.1, fun i hi => ?_⟩
    have h1 := h.2 i hi
    unfold wpOp at h1
    unfold wpOpIn
    cases ho : ops[i]? with
    | none => rw [ho] at h1; exact anyIn_round l n hd hQ fuel _ _ _ h1
    | some o =>
      rw [ho] at h1
      dsimp only at h1 ⊢
      split
      · rename_i hw
        rw [if_pos hw] at h1
        rcases h1 with h1 | ⟨_, h1⟩
        · exact Oper.wpIn_mono (fun a w => anyIn_round l n hd hQ fuel _ a w) (opIn_round l n (hd i o ho) h1)
        · exact absurd h1 hQ
      · rename_i hw
        rw [if_neg hw] at h1
        exact ⟨fun _ _ => trivial, anyIn_round l n hd hQ fuel _ _ _ h1⟩

def noDefer (o : Oper) : Bool := match o.op with | .defer _ => false | _ => true
theorem region_round {P : Program} {ops : Array Oper} {Q : Exit → Act → World → Prop} {id : Nat} {a : Act} {w : World} (l n : Nat) (hm : P.follows .mixedOrders = true) (hd : ops.all noDefer = true) (hQ : ¬ LetsOut Q)
    (h : wpAny P .any ops Q ops.size (Array.replicate ops.size false) a w.drew) : (Code.region id ops true).wpIn (Fence.wide.inRound l) n P Q a w :=
  wpIn_region_any hm (anyIn_round l n (fun i o ho c e => by
    have h1 := (Array.all_eq_true.1 hd) i (Array.getElem?_eq_some_iff.1 ho).1
    rw [(Array.getElem?_eq_some_iff.1 ho).2] at h1
    simp [noDefer, e] at h1) hQ _ _ _ _ h)
end Go.Proofs.Ytniacolkjdmflaa
end
