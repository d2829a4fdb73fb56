/- Texts of mine, one behind the other: StE, Std, EnE, EnO, RcM, EnWo, EnC, Res, Byt, OctA, OctW. No statement of the seat is proved here. -/
import Derived.Test.YtoohpcomnhfgpaaGreatHs1
import Derived.StillTail
import Derived.RegionTactic
import Derived.WalkKit
import Derived.Laws.Tables
import Derived.Test.YtoohpcomnhfgpaaGreatChecked
import Derived.Deep.RegionLaw
import Derived.Deep.LoopGhost
section
namespace Go.Proofs.YtoohpcomnhfgpaaGreat
open Go.RowKit
set_option maxRecDepth 100000
theorem rf_later (c s c' s' : Int) (w : World) :
    Calls Tryz.prog 51 #[.agg #[.int .i64 c, .int .i64 s], .agg #[.int .i64 c', .int .i64 s']] w fun e w' => e = .returned (.bool (stLater ⟨c, s⟩ ⟨c', s'⟩)) ∧ Only none_ w w' := by
  have O := Lib.hid (((Only.refl none_ w).alloc (.cells #[.int .i64 c, .int .i64 s] 48)).alloc (.cells #[.int .i64 c', .int .i64 s'] 48))
  by_cases h : c = c'
  · have hz : (c != c') = false := by simp [h]
    have H : Hid (stLater ⟨c, s⟩ ⟨c', s'⟩ = decide (s' < s)) := by simp [Hid, stLater, h]
    clear h
    go_enter Tryz.func51, Tryz.ntmps51
    go_wp2_with fail
    go_ret
    rw [H.out]
    exact ⟨rfl, O.out⟩
  · have hz : (c != c') = true := by simp [h]
    have H : Hid (stLater ⟨c, s⟩ ⟨c', s'⟩ = decide (c' < c)) := by simp [Hid, stLater, h]
    clear h
    go_enter Tryz.func51, Tryz.ntmps51
    go_wp2_with fail
    go_ret
    rw [H.out]
    exact ⟨rfl, O.out⟩
theorem st_to (c s : Int) (w : World) :
    Calls Tryz.prog 77 #[.agg #[.int .i64 c, .int .i64 s]] w fun e w' => e = .returned (.agg #[.int .i64 c, .int .i64 s]) ∧ Only none_ w w' := by
  have O := Lib.hid (((Only.refl none_ w).alloc (.cells #[.int .i64 c, .int .i64 s] 80)).alloc (.cells #[.int .i64 c, .int .i64 s] 48))
  go_enter Tryz.func77, Tryz.ntmps77
  go_wp2_with fail
  exact bodyPost_ret (v := .agg #[.int .i64 c, .int .i64 s]) (by simp [results, Tryz.results77, go_sem]) rfl ⟨rfl, O.out⟩
end Go.Proofs.YtoohpcomnhfgpaaGreat
end
section
namespace Go.Proofs.YtoohpcomnhfgpaaGreat
open Go.RowKit
section
variable {P : Program} {ops : Array Oper} {md : Region.Mode} {S : World → Prop}
def Came (P : Program) (S : World → Prop) (v : Value) : Result Next → Prop
  | .ok (.value u) w => u = v ∧ S w
  | .ok .skip w => undef = v ∧ S w
  | .ok (.enter f args) w => Calls P f args w fun e w' => e = .returned v ∧ S w'
  | _ => False
def Steady (P : Program) (ops : Array Oper) (S : World → Prop) (o : Oper) (v : Value) (a : Act) : Prop :=
  (Region.wanted o (yielded ops a.tmps) = true ∧ ∀ w, S w → Came P S v ((execOp a.eval o).run P w)) ∨ (Region.wanted o (yielded ops a.tmps) = false ∧ undef = v)
def sdOp (P : Program) (ops : Array Oper) (S : World → Prop) (i : Nat) (K : Act → Prop) (a : Act) : Prop :=
  match ops[i]? with
  | none => K a
  | some o => ∃ v, Steady P ops S o v a ∧ K (a.put o.dst v)
def sdList (P : Program) (ops : Array Oper) (S : World → Prop) (K : Act → Prop) : List Oper → Act → Prop
  | [], a => K a
  | o :: r, a => ∃ v, Steady P ops S o v a ∧ sdList P ops S K r (a.put o.dst v)
def sdAny (P : Program) (md : Region.Mode) (ops : Array Oper) (S : World → Prop) (n : Nat) (L : Array Bool → Act → Prop) : Nat → Array Bool → Act → Prop
  | 0, listed, a => L listed a
  | f + 1, listed, a => Region.ready md ops listed ≠ [] ∧ ∀ i ∈ Region.ready md ops listed, i < n ∧ sdOp P ops S i (sdAny P md ops S n L f (listed.setIfInBounds i true)) a
theorem sdOp_mono {i : Nat} {a : Act} {K K' : Act → Prop} (h : ∀ a, K a → K' a) (hh : sdOp P ops S i K a) : sdOp P ops S i K' a := by
  unfold sdOp at *
  split at hh
  · exact h _ hh
  · obtain ⟨v, h1, h2⟩ := hh
    exact ⟨v, h1, h _ h2⟩
theorem sdOp_wp {i : Nat} {a : Act} {w : World} {K : Act → Prop} {K' : Act → World → Prop} {Q : Exit → Act → World → Prop} (hS : S w) (h : ∀ a w, S w → K a → K' a w) (hh : sdOp P ops S i K a) : wpOp P ops Q i K' a w := by
  unfold sdOp at hh
  unfold wpOp
  split at hh
  · next e => simp only [e]; exact h _ _ hS hh
  · next o e =>
    simp only [e]
    obtain ⟨v, ⟨hw, hv⟩ | ⟨hw, rfl⟩, hK⟩ := hh
    · rw [if_pos hw]
      refine .inl ?_
      have hv := hv w hS
      unfold Oper.wp
      generalize (execOp a.eval o).run P w = r at hv ⊢
      cases r with
      | halt x w' => exact hv.elim
      | ok n w' =>
        cases n <;> simp only [Came] at hv <;> simp only [Oper.upon]
        case value u => obtain ⟨rfl, h2⟩ := hv; exact h _ _ h2 hK
        case skip => obtain ⟨rfl, h2⟩ := hv; exact h _ _ h2 hK
        case enter f args => exact hv.mono fun e w'' ⟨he, h2⟩ => by subst he; exact h _ _ h2 hK
    · rw [if_neg (by simp [hw])]
      exact h _ _ hS hK
theorem sdOp_swap {j : Nat} {oi oj : Oper} {v : Value} {a : Act} {K : Act → Prop} (hj : ops[j]? = some oj) (hap : oi.apart ops oj = true)
    (hsi : ∀ cs b, oi.op ≠ .select cs b) (hsj : ∀ cs b, oj.op ≠ .select cs b) (hy : Steady P ops S oi v a) (h : sdOp P ops S j K (a.put oi.dst v)) :
    sdOp P ops S j (fun a' => Steady P ops S oi v a' ∧ K (a'.put oi.dst v)) a := by
  obtain ⟨h1, h2, h3⟩ := Oper.apart_spec hap
  unfold sdOp at *
  simp only [hj] at *
  obtain ⟨u, hu, hK⟩ := h
  refine ⟨u, ?_, ?_, ?_⟩
  · unfold Steady at hu ⊢
    rw [wanted_put oj a oi.dst v h1, execOp_put oj hsj a oi.dst v h1] at hu
    exact hu
  · unfold Steady at hy ⊢
    rw [wanted_put oi a oj.dst u h3, execOp_put oi hsi a oj.dst u h3]
    exact hy
  · rw [← Act.put_comm a v u h2]
    exact hK
theorem sdOp_of {i : Nat} {oi : Oper} {v : Value} {a : Act} {K : Act → Prop} (hi : ops[i]? = some oi) (hy : Steady P ops S oi v a) (h : K (a.put oi.dst v)) : sdOp P ops S i K a := by
  unfold sdOp
  simp only [hi]
  exact ⟨v, hy, h⟩
theorem sdAny_first {n i : Nat} {oi : Oper} {v : Value} {L : Array Bool → Act → Prop} (hi : ops[i]? = some oi) (hsel : ∀ (j : Nat) (o : Oper) cs b, ops[j]? = some o → o.op ≠ .select cs b)
    (hin : i < n) (hwait : ∀ listed, HeadInv md ops n listed → listed.getD i true = false → ∀ t, n ≤ t → t ∉ Region.ready md ops listed)
    (hdone : ∀ listed a, L listed a → ∀ j ∈ Region.ready md ops listed, n ≤ j) :
    ∀ (f : Nat) (listed : Array Bool) (a : Act), HeadInv md ops n listed →
      (∀ j oj, ops[j]? = some oj → j ≠ i → listed.getD j true = false → (∀ e ∈ oj.after, Region.binds md e = true → e.on ≠ i) → oi.apart ops oj = true) →
      i ∈ Region.ready md ops listed → Steady P ops S oi v a →
      sdAny P md ops S n L f (listed.setIfInBounds i true) (a.put oi.dst v) → sdAny P md ops S n L (f + 1) listed a
  | f, listed, a, inv, hfree, hr, hy, H => by
    have hun := (mem_ready.1 hr).1
    refine ⟨fun h => (by rw [h] at hr; cases hr), fun j hj => ?_⟩
    have hjn : j < n := by
      rcases Nat.lt_or_ge j n with h | h
      · exact h
      · exact absurd hj (hwait listed inv hun j h)
    refine ⟨hjn, ?_⟩
    by_cases hji : j = i
    · subst hji; exact sdOp_of hi hy H
    · obtain ⟨hjun, oj, hoj, hall⟩ := mem_ready.1 hj
      match f, H with
      | 0, H => exact absurd (hdone _ _ H j (ready_mono hj hji)) (by omega)
      | f + 1, H =>
        have hnot : ∀ e ∈ oj.after, Region.binds md e = true → e.on ≠ i := fun e he hb heq => by
          have h1 := hall e he hb
          rw [heq, getD_both hun] at h1
          cases h1
        have h2 := sdOp_swap hoj (hfree j oj hoj hji hjun hnot) (fun cs b => hsel i oi cs b hi) (fun cs b => hsel j oj cs b hoj) hy (H.2 j (ready_mono hj hji)).2
        refine sdOp_mono (fun a' h3 => sdAny_first hi hsel hin hwait hdone f (listed.setIfInBounds j true) a' (inv.set hj hjn) (fun k ok hk hki hu hno => ?_) (ready_mono hr (Ne.symm hji)) h3.1 ?_) h2
        · refine hfree k ok hk hki ?_ hno
          by_cases hjk : j = k
          · subst hjk; exact hjun
          · rw [getD_set_ne true hjk] at hu; exact hu
        · rw [Array.setIfInBounds_comm _ _ hji]
          exact h3.2
theorem sdAny_text {n g : Nat} {Lq : Act → Prop} (hsel : Region.noSelect ops = true) (hwait : ∀ i, i < n → ∀ listed, HeadInv md ops n listed → listed.getD i true = false → ∀ t, n ≤ t → t ∉ Region.ready md ops listed) :
    ∀ (l : List Oper) (k : Nat) (listed : Array Bool) (a : Act), (∀ j, j < l.length → l[j]? = ops[k + j]?) → k + l.length = n → HeadInv md ops n listed →
    Region.lexHead md ops g l.length k listed = true → sdList P ops S Lq l a →
    sdAny P md ops S n (fun listed' a' => Region.seqB md ops g n listed' = true ∧ Lq a') l.length listed a
  | [], k, listed, a, _, hk, _, hB, h => by
    have : k = n := by simpa using hk
    subst this
    exact ⟨by simpa [Region.lexHead] using hB, h⟩
  | o :: l, k, listed, a, hl, hk, inv, hB, h => by
    have h0 : ops[k]? = some o := by simpa using (hl 0 (by simp)).symm
    simp only [List.length_cons, Region.lexHead, Bool.and_eq_true] at hB
    obtain ⟨⟨hr, hf⟩, hB'⟩ := hB
    have hkn : k < n := by simp only [List.length_cons] at hk; omega
    have hr' : k ∈ Region.ready md ops listed := by simpa using hr
    obtain ⟨v, hy, hK⟩ := h
    exact sdAny_first h0 (Region.noSelect_spec hsel) hkn (hwait k hkn) (fun listed' a' hL => seqB_ready hL.1) l.length listed a inv (Region.free_spec h0 hf) hr' hy
      (sdAny_text hsel hwait l (k + 1) _ _ (fun j hj => by have := hl (j + 1) (by simp; omega); simpa [Nat.add_assoc, Nat.add_comm 1 j] using this) (by simp only [List.length_cons] at hk; omega) (inv.set hr' hkn) hB' hK)
theorem sdAny_wp {n g : Nat} {L : Array Bool → Act → Prop} {Q : Exit → Act → World → Prop} (hL : ∀ listed a w, S w → L listed a → wpAny P md ops Q g listed a w) :
    ∀ (f : Nat) (listed : Array Bool) (a : Act) (w : World), S w → sdAny P md ops S n L f listed a → wpAny P md ops Q (f + g) listed a w
  | 0, listed, a, w, hS, h => by rw [Nat.zero_add]; exact hL _ _ _ hS h
  | f + 1, listed, a, w, hS, h => by
    rw [show f + 1 + g = (f + g) + 1 by omega]
    exact ⟨fun h0 => absurd h0 h.1, fun i hi => sdOp_wp hS (fun a' w' hS' h' => sdAny_wp hL f _ a' w' hS' h') (h.2 i hi).2⟩
def sdTail (ops : Array Oper) (n : Nat) : Bool :=
  Region.noSelect ops && (decide (n = ops.size) || decide (n < ops.size) && Region.sinkB .any ops n && Region.chainB .any ops n) && Region.lexHead .any ops (ops.size - n) n 0 (Array.replicate ops.size false)
theorem wp_region_steady (S : World → Prop) {id : Nat} {Q : Exit → Act → World → Prop} {a : Act} {w : World} {l : List Oper} (n : Nat) (hm : P.follows .mixedOrders = true) (hB : sdTail l.toArray n = true) (hS : S w.drew)
    (h : sdList P l.toArray S (fun a' => ∀ w', S w' → wpList P l.toArray Q (l.drop n) a' w') (l.take n) a) : (Code.region id l.toArray true).wp P Q a w := by
  simp only [sdTail, Bool.and_eq_true, Bool.or_eq_true, decide_eq_true_eq] at hB
  obtain ⟨⟨hsel, hn⟩, hlex⟩ := hB
  have hle : n ≤ l.length := by rcases hn with h | h <;> simp at h <;> omega
  have htl : (l.take n).length = n := by simp; omega
  have hdl : (l.drop n).length = l.toArray.size - n := by simp
  have inv0 : HeadInv .any l.toArray n (Array.replicate l.toArray.size false) :=
    ⟨by simp, fun j oj _ hl => (by rw [getD_replicate_false] at hl; cases hl), fun t _ ht => getD_in (by simpa using ht) (getD_replicate_false _ _)⟩
  have hwait : ∀ i, i < n → ∀ listed, HeadInv .any l.toArray n listed → listed.getD i true = false → ∀ t, n ≤ t → t ∉ Region.ready .any l.toArray listed := by
    intro i hi listed inv hun t ht
    rcases hn with h | ⟨⟨h1, h2⟩, h3⟩
    · intro hr
      obtain ⟨_, o, ho, _⟩ := mem_ready.1 hr
      have := (Array.getElem?_eq_some_iff.1 ho).1
      omega
    · exact tail_waits h2 h3 h1 inv _ i rfl hi hun t ht
  have H := sdAny_text (md := .any) (g := l.toArray.size - n) hsel hwait (l.take n) 0 _ a (fun j hj => by
    have hj' : j < n := by rw [htl] at hj; exact hj
    simp [hj']) (by simpa using htl) inv0 (by rw [htl]; exact hlex) h
  refine wp_region_any hm ?_
  have := sdAny_wp (Q := Q) (g := l.toArray.size - n) (fun listed a' w' hS' hL => by
    have := wpAny_of_seq (md := .any) (Q' := Q) (l.drop n) n listed a' w' (fun j => by simp [List.getElem?_drop]) (by rw [hdl]; exact hL.1) (hL.2 w' hS')
    rwa [hdl] at this) _ _ _ _ hS H
  rw [htl, show n + (l.toArray.size - n) = l.toArray.size by omega] at this
  exact this
/-! The steps of a walk. -/
theorem sd_nil {K : Act → Prop} {a : Act} (h : K a) : sdList P ops S K [] a := h
theorem sd_value {K : Act → Prop} {a : Act} {o : Oper} {r : List Oper} {v : Value} (hw : Region.wanted o (yielded ops a.tmps) = true) (hv : ∀ w, S w → (execOp a.eval o).run P w = .ok (.value v) w) (h : sdList P ops S K r (a.put o.dst v)) : sdList P ops S K (o :: r) a :=
  ⟨v, .inl ⟨hw, fun w hS => by rw [hv w hS]; exact ⟨rfl, hS⟩⟩, h⟩
theorem sd_skip {K : Act → Prop} {a : Act} {o : Oper} {r : List Oper} (hw : Region.wanted o (yielded ops a.tmps) = false) (h : sdList P ops S K r (a.put o.dst undef)) : sdList P ops S K (o :: r) a :=
  ⟨undef, .inr ⟨hw, rfl⟩, h⟩
theorem sd_call {K : Act → Prop} {a : Act} {o : Oper} {r : List Oper} {v : Value} {f : FuncId} {args : Array Value} (hw : Region.wanted o (yielded ops a.tmps) = true) (hv : ∀ w, S w → (execOp a.eval o).run P w = .ok (.enter f args) w)
    (hc : ∀ w, S w → Calls P f args w fun e w' => e = .returned v ∧ S w') (h : sdList P ops S K r (a.put o.dst v)) : sdList P ops S K (o :: r) a :=
  ⟨v, .inl ⟨hw, fun w hS => by rw [hv w hS]; exact hc w hS⟩, h⟩
end
end Go.Proofs.YtoohpcomnhfgpaaGreat
end
section
namespace Go.Proofs.YtoohpcomnhfgpaaGreat
open Go.RowKit
set_option linter.all false
set_option maxRecDepth 100000
abbrev Nine (w : World) (g : Nat) (a0 a1 a2 a3 a4 a5 a6 a7 a8 : Value) : Prop := w.cell? ⟨g, 0, none⟩ = some a0 ∧ w.cell? ⟨g, 1, none⟩ = some a1 ∧ w.cell? ⟨g, 2, none⟩ = some a2 ∧ w.cell? ⟨g, 3, none⟩ = some a3 ∧ w.cell? ⟨g, 4, none⟩ = some a4 ∧ w.cell? ⟨g, 5, none⟩ = some a5 ∧ w.cell? ⟨g, 6, none⟩ = some a6 ∧ w.cell? ⟨g, 7, none⟩ = some a7 ∧ w.cell? ⟨g, 8, none⟩ = some a8
theorem nine_of {w : World} {g : Nat} {t : TypeId} {a0 a1 a2 a3 a4 a5 a6 a7 a8 : Value} (h : Blk w g t #[a0, a1, a2, a3, a4, a5, a6, a7, a8]) : Nine w g a0 a1 a2 a3 a4 a5 a6 a7 a8 :=
  ⟨h.cell_ rfl, h.cell_ rfl, h.cell_ rfl, h.cell_ rfl, h.cell_ rfl, h.cell_ rfl, h.cell_ rfl, h.cell_ rfl, h.cell_ rfl⟩
theorem frozen9 {w : World} {g : Nat} {t : TypeId} {cs : Array Value} (h : Blk w g t cs) : w.frozen? ⟨g, 0, none⟩ = false ∧ w.frozen? ⟨g, 1, none⟩ = false ∧ w.frozen? ⟨g, 2, none⟩ = false ∧ w.frozen? ⟨g, 3, none⟩ = false ∧ w.frozen? ⟨g, 4, none⟩ = false ∧ w.frozen? ⟨g, 5, none⟩ = false ∧ w.frozen? ⟨g, 6, none⟩ = false ∧ w.frozen? ⟨g, 7, none⟩ = false ∧ w.frozen? ⟨g, 8, none⟩ = false :=
  ⟨h.frozen 0, h.frozen 1, h.frozen 2, h.frozen 3, h.frozen 4, h.frozen 5, h.frozen 6, h.frozen 7, h.frozen 8⟩
abbrev fill9 (w : World) (h : Nat) (a0 a1 a2 a3 a4 a5 a6 a7 a8 : Value) : World := ((((((((w.setCell ⟨h, 0, none⟩ a0).setCell ⟨h, 1, none⟩ a1).setCell ⟨h, 2, none⟩ a2).setCell ⟨h, 3, none⟩ a3).setCell ⟨h, 4, none⟩ a4).setCell ⟨h, 5, none⟩ a5).setCell ⟨h, 6, none⟩ a6).setCell ⟨h, 7, none⟩ a7).setCell ⟨h, 8, none⟩ a8
theorem fill9_blk {w : World} {g : Nat} {t : TypeId} {b0 b1 b2 b3 b4 b5 b6 b7 b8 : Value} (hb : Blk w g t #[b0, b1, b2, b3, b4, b5, b6, b7, b8]) (a0 a1 a2 a3 a4 a5 a6 a7 a8 : Value) : Blk (fill9 w g a0 a1 a2 a3 a4 a5 a6 a7 a8) g t #[a0, a1, a2, a3, a4, a5, a6, a7, a8] := by
  have := ((((((((hb.set_ 0 a0).set_ 1 a1).set_ 2 a2).set_ 3 a3).set_ 4 a4).set_ 5 a5).set_ 6 a6).set_ 7 a7).set_ 8 a8
  simpa using this
theorem fill9_far {w : World} {g h : Nat} {t : TypeId} {cs : Array Value} (hb : Blk w g t cs) (hn : g ≠ h) (a0 a1 a2 a3 a4 a5 a6 a7 a8 : Value) : Blk (fill9 w h a0 a1 a2 a3 a4 a5 a6 a7 a8) g t cs :=
  ((((((((hb.far hn a0).far hn a1).far hn a2).far hn a3).far hn a4).far hn a5).far hn a6).far hn a7).far hn a8
theorem fill9_only {w : World} {h : Nat} {S : Nat → Prop} {a : World} (o : Only S a w) (hg : S h ∨ a.heap.size ≤ h) (a0 a1 a2 a3 a4 a5 a6 a7 a8 : Value) : Only S a (fill9 w h a0 a1 a2 a3 a4 a5 a6 a7 a8) :=
  ((((((((o.setCell (p := ⟨h, 0, none⟩) hg a0).setCell (p := ⟨h, 1, none⟩) hg a1).setCell (p := ⟨h, 2, none⟩) hg a2).setCell (p := ⟨h, 3, none⟩) hg a3).setCell (p := ⟨h, 4, none⟩) hg a4).setCell (p := ⟨h, 5, none⟩) hg a5).setCell (p := ⟨h, 6, none⟩) hg a6).setCell (p := ⟨h, 7, none⟩) hg a7).setCell (p := ⟨h, 8, none⟩) hg a8
structure Bo (B : World) (g h : Nat) (t u : TypeId) (e f : En) (w : World) : Prop where
  x : Blk w g t #[.string e.k, .string e.v, .bool e.d, .int .i64 e.s.c, .int .i64 e.s.s, .int .i64 e.a.c, .int .i64 e.a.s, .int .i64 e.p, .int .i64 e.g]
  y : Blk w h u #[.string f.k, .string f.v, .bool f.d, .int .i64 f.s.c, .int .i64 f.s.s, .int .i64 f.a.c, .int .i64 f.a.s, .int .i64 f.p, .int .i64 f.g]
  ho : Only none_ B w
section
variable {B w w' : World} {g h : Nat} {t u : TypeId} {e f : En}
theorem Bo.keep (b : Bo B g h t u e f w) (o : Only none_ w w') : Bo B g h t u e f w' := ⟨b.x.only o (fun h => h), b.y.only o (fun h => h), b.ho.trans o⟩
theorem Bo.cells (b : Bo B g h t u e f w) : Nine w g (.string e.k) (.string e.v) (.bool e.d) (.int .i64 e.s.c) (.int .i64 e.s.s) (.int .i64 e.a.c) (.int .i64 e.a.s) (.int .i64 e.p) (.int .i64 e.g) := nine_of b.x
theorem Bo.far (b : Bo B g h t u e f w) (hn : g ≠ h) (a0 a1 a2 a3 a4 a5 a6 a7 a8 : Value) : Nine (fill9 w h a0 a1 a2 a3 a4 a5 a6 a7 a8).drew g (.string e.k) (.string e.v) (.bool e.d) (.int .i64 e.s.c) (.int .i64 e.s.s) (.int .i64 e.a.c) (.int .i64 e.a.s) (.int .i64 e.p) (.int .i64 e.g) := nine_of (fill9_far b.x hn a0 a1 a2 a3 a4 a5 a6 a7 a8).drew
end
set_option maxHeartbeats 1600000 in
theorem en_to (e : En) (w : World) :
    Calls Tryz.prog 26 #[.agg #[.string e.k, .string e.v, .bool e.d, .int .i64 e.s.c, .int .i64 e.s.s, .int .i64 e.a.c, .int .i64 e.a.s, .int .i64 e.p, .int .i64 e.g]] w fun E w' => E = .returned (.agg #[.string e.k, .string e.v, .bool e.d, .int .i64 e.s.c, .int .i64 e.s.s, .int .i64 e.a.c, .int .i64 e.a.s, .int .i64 e.p, .int .i64 e.g]) ∧ Only none_ w w' := by
  have O := Lib.hid (((Only.refl none_ w).alloc (.cells #[.string e.k, .string e.v, .bool e.d, .int .i64 e.s.c, .int .i64 e.s.s, .int .i64 e.a.c, .int .i64 e.a.s, .int .i64 e.p, .int .i64 e.g] 82)).alloc (.cells #[.string enZero.k, .string enZero.v, .bool enZero.d, .int .i64 enZero.s.c, .int .i64 enZero.s.s, .int .i64 enZero.a.c, .int .i64 enZero.a.s, .int .i64 enZero.p, .int .i64 enZero.g] 50))
  have B := Blk.new (w.alloc (.cells #[.string e.k, .string e.v, .bool e.d, .int .i64 e.s.c, .int .i64 e.s.s, .int .i64 e.a.c, .int .i64 e.a.s, .int .i64 e.p, .int .i64 e.g] 82)) 50 #[.string enZero.k, .string enZero.v, .bool enZero.d, .int .i64 enZero.s.c, .int .i64 enZero.s.s, .int .i64 enZero.a.c, .int .i64 enZero.a.s, .int .i64 enZero.p, .int .i64 enZero.g]
  rw [World.size_alloc] at B
  have T : Hid (Bo ((w.alloc (.cells #[.string e.k, .string e.v, .bool e.d, .int .i64 e.s.c, .int .i64 e.s.s, .int .i64 e.a.c, .int .i64 e.a.s, .int .i64 e.p, .int .i64 e.g] 82)).alloc (.cells #[.string enZero.k, .string enZero.v, .bool enZero.d, .int .i64 enZero.s.c, .int .i64 enZero.s.s, .int .i64 enZero.a.c, .int .i64 enZero.a.s, .int .i64 enZero.p, .int .i64 enZero.g] 50)) w.heap.size (w.heap.size + 1) 82 50 e enZero ((w.alloc (.cells #[.string e.k, .string e.v, .bool e.d, .int .i64 e.s.c, .int .i64 e.s.s, .int .i64 e.a.c, .int .i64 e.a.s, .int .i64 e.p, .int .i64 e.g] 82)).alloc (.cells #[.string enZero.k, .string enZero.v, .bool enZero.d, .int .i64 enZero.s.c, .int .i64 enZero.s.s, .int .i64 enZero.a.c, .int .i64 enZero.a.s, .int .i64 enZero.p, .int .i64 enZero.g] 50))) :=
    ⟨(Blk.new w _ _).alloc _, B, Only.refl _ _⟩
  clear B
  simp only [enZero, stZero] at O T
  go_enter Tryz.func26, Tryz.ntmps26
  go_wp2_with fail
  have hne : w.heap.size ≠ w.heap.size + 1 := by omega
  have hge : w.heap.size ≤ w.heap.size + 1 := by omega
  have HN := Lib.hid hne
  have HGE := Lib.hid hge
  clear hne hge
  generalize (w.alloc _).alloc _ = W2 at *
  have t2 := T.out.keep (Only.refl none_ W2).drew
  (refine wp_region_steady (fun w' => Bo W2 w.heap.size (w.heap.size + 1) 82 50 e enZero w') 16 (by kernel_rfl) (by kernel_rfl) (t2) ?_; simp only [List.take_succ_cons, List.take_zero, List.drop_succ_cons, List.drop_zero])
  repeat (first
    | (refine sd_value (v := ?_) (by rfl) (fun w0 hS => ?_) ?_; rotate_left; (· (have hc := hS.cells; go_simp; try (with_reducible rfl))); try simp only [Act.put, List.setIfInBounds_toArray, List.set_cons_zero, List.set_cons_succ])
    | (refine sd_call (v := ?_) (f := 77) (args := ?_) (by rfl) (fun w0 hS => ?_) (fun w0 hS => ?_) ?_; rotate_left 2; (· (have hc := hS.cells; go_simp; try (with_reducible rfl))); (· (refine (st_to _ _ _).mono ?_; rintro E w2 ⟨rfl, o2⟩; refine ⟨?_, hS.keep o2⟩; rfl)); try simp only [Act.put, List.setIfInBounds_toArray, List.set_cons_zero, List.set_cons_succ]))
  refine sd_nil ?_
  intro w5 t5
  have q5 := nine_of t5.y
  have z5 := frozen9 t5.y
  simp only [enZero, stZero] at q5
  go_wp2_with fail
  exact bodyPost_ret (results_cell_row rfl _ _ (w.heap.size + 1) 50 _ (0, 0) _ rfl (fill9_blk t5.y _ _ _ _ _ _ _ _ _) Tryz.underlying50 rfl (by kernel_rfl)) rfl ⟨rfl, fill9_only (O.out.trans t5.ho) (.inr HGE.out) _ _ _ _ _ _ _ _ _⟩
end Go.Proofs.YtoohpcomnhfgpaaGreat
end
section
namespace Go.Proofs.YtoohpcomnhfgpaaGreat
open Go.RowKit
set_option linter.all false
set_option maxRecDepth 100000
def dutyB (p : Nat) (site : Int) : Bool := decide (p / 2 ^ site.toNat % 2 = 1)
def enDuty (e : En) (site : Int) : Bool := e.d && stSite site && dutyB e.p.toNat site
theorem duty_ways (e : En) (site : Int) (hp : e.d = true → 1 ≤ e.p ∧ e.p ≤ 4095) :
    (e.d = false ∧ enDuty e site = false) ∨ (e.d = true ∧ stSite site = false ∧ ¬ 0 ≤ site ∧ enDuty e site = false) ∨ (e.d = true ∧ stSite site = false ∧ 0 ≤ site ∧ ¬ site < 12 ∧ enDuty e site = false) ∨
    ∃ p m : Nat, e.d = true ∧ stSite site = true ∧ m < 12 ∧ 1 ≤ p ∧ p < 4096 ∧ site = (m : Int) ∧ e.p = (p : Int) ∧ enDuty e site = dutyB p m := by
  cases hd : e.d
  · left; simp [enDuty, hd]
  · obtain ⟨h1, h2⟩ := hp hd
    by_cases h0 : 0 ≤ site
    · by_cases h3 : site < 12
      · right; right; right
        have hs : stSite site = true := by simp [stSite]; omega
        refine ⟨e.p.toNat, site.toNat, rfl, hs, by omega, by omega, by omega, by omega, by omega, ?_⟩
        simp only [enDuty, hd, hs, Bool.true_and]
        congr 1
        omega
      · right; right; left
        have hs : stSite site = false := by simp [stSite]; omega
        simp [enDuty, hs, h0, h3]
    · right; left
      have hs : stSite site = false := by simp [stSite]; omega
      simp [enDuty, hs, h0]
structure Bx1 (B : World) (g : Nat) (t : TypeId) (e : En) (w : World) : Prop where
  x : Blk w g t #[.string e.k, .string e.v, .bool e.d, .int .i64 e.s.c, .int .i64 e.s.s, .int .i64 e.a.c, .int .i64 e.a.s, .int .i64 e.p, .int .i64 e.g]
  ho : Only none_ B w
theorem duty_and (p m : Nat) (hp : p < 4096) (hm : m < 12) : (bits .and .i64 (p : Int) ((2 ^ m : Nat) : Int) != 0) = dutyB p m := by
  rw [i64_and_small p (2 ^ m) hp (pow_small m hm), nat_bit, dutyB, Int.toNat_natCast]
  have h2 := Nat.mod_two_eq_zero_or_one (p / 2 ^ m)
  have h3 : 0 < 2 ^ m := Nat.two_pow_pos m
  generalize p / 2 ^ m % 2 = q at h2 ⊢
  rcases h2 with rfl | rfl
  · simp
  · rw [Nat.one_mul]
    have : ((2 ^ m : Nat) : Int) ≠ 0 := by omega
    simp only [decide_true]
    exact bne_iff_ne.2 this
set_option maxHeartbeats 1600000 in
theorem en_duty (e : En) (site : Int) (w : World) (hp : e.d = true → 1 ≤ e.p ∧ e.p ≤ 4095) :
    Calls Tryz.prog 224 #[.agg #[.string e.k, .string e.v, .bool e.d, .int .i64 e.s.c, .int .i64 e.s.s, .int .i64 e.a.c, .int .i64 e.a.s, .int .i64 e.p, .int .i64 e.g], .int .i64 site] w fun E w' => E = .returned (.bool (enDuty e site)) ∧ Only none_ w w' := by
  have ways := duty_ways e site hp
  generalize enDuty e site = b at ways ⊢
  clear hp
  have T := Lib.hid (Bx1.mk (B := w) (e := e) (Blk.new w 82 #[.string e.k, .string e.v, .bool e.d, .int .i64 e.s.c, .int .i64 e.s.s, .int .i64 e.a.c, .int .i64 e.a.s, .int .i64 e.p, .int .i64 e.g]).drew ((Only.refl none_ w).alloc (.cells #[.string e.k, .string e.v, .bool e.d, .int .i64 e.s.c, .int .i64 e.s.s, .int .i64 e.a.c, .int .i64 e.a.s, .int .i64 e.p, .int .i64 e.g] 82)).drew)
  obtain ⟨k, v, d, s, a, p, g⟩ := e
  simp only at *
  rcases ways with ⟨rfl, rfl⟩ | ⟨rfl, _, h1, rfl⟩ | ⟨rfl, _, h1, h2, rfl⟩ | ⟨p, m, rfl, _, h2, h3, h4, rfl, rfl, rfl⟩
  · by_cases h1 : 0 ≤ site
    · go_enter Tryz.func224, Tryz.ntmps224
      go_wp2_with fail
      (refine wp_region_steady (fun w' => Bx1 w w.heap.size 82 ⟨k, v, false, s, a, p, g⟩ w') 14 (by kernel_rfl) (by kernel_rfl) (T.out) ?_; simp only [List.take_succ_cons, List.take_zero, List.drop_succ_cons, List.drop_zero])
      repeat (first
        | (refine sd_value (v := ?_) (by rfl) (fun w0 hS => ?_) ?_; rotate_left; (· (have hc := nine_of hS.x; go_simp; try (with_reducible rfl))); try simp only [Act.put, List.setIfInBounds_toArray, List.set_cons_zero, List.set_cons_succ])
        | (refine sd_skip (by rfl) ?_; try simp only [Act.put, List.setIfInBounds_toArray, List.set_cons_zero, List.set_cons_succ]))
      refine sd_nil ?_
      intro w1 t1
      go_wp2_with fail
      go_ret
      exact ⟨rfl, t1.ho⟩
    · go_enter Tryz.func224, Tryz.ntmps224
      go_wp2_with fail
      (refine wp_region_steady (fun w' => Bx1 w w.heap.size 82 ⟨k, v, false, s, a, p, g⟩ w') 14 (by kernel_rfl) (by kernel_rfl) (T.out) ?_; simp only [List.take_succ_cons, List.take_zero, List.drop_succ_cons, List.drop_zero])
      repeat (first
        | (refine sd_value (v := ?_) (by rfl) (fun w0 hS => ?_) ?_; rotate_left; (· (have hc := nine_of hS.x; go_simp; try (with_reducible rfl))); try simp only [Act.put, List.setIfInBounds_toArray, List.set_cons_zero, List.set_cons_succ])
        | (refine sd_skip (by rfl) ?_; try simp only [Act.put, List.setIfInBounds_toArray, List.set_cons_zero, List.set_cons_succ]))
      refine sd_nil ?_
      intro w1 t1
      go_wp2_with fail
      go_ret
      exact ⟨rfl, t1.ho⟩
  · go_enter Tryz.func224, Tryz.ntmps224
    go_wp2_with fail
    (refine wp_region_steady (fun w' => Bx1 w w.heap.size 82 ⟨k, v, true, s, a, p, g⟩ w') 14 (by kernel_rfl) (by kernel_rfl) (T.out) ?_; simp only [List.take_succ_cons, List.take_zero, List.drop_succ_cons, List.drop_zero])
    repeat (first
      | (refine sd_value (v := ?_) (by rfl) (fun w0 hS => ?_) ?_; rotate_left; (· (have hc := nine_of hS.x; go_simp; try (with_reducible rfl))); try simp only [Act.put, List.setIfInBounds_toArray, List.set_cons_zero, List.set_cons_succ])
      | (refine sd_skip (by rfl) ?_; try simp only [Act.put, List.setIfInBounds_toArray, List.set_cons_zero, List.set_cons_succ]))
    refine sd_nil ?_
    intro w1 t1
    go_wp2_with fail
    go_ret
    exact ⟨rfl, t1.ho⟩
  · go_enter Tryz.func224, Tryz.ntmps224
    go_wp2_with fail
    (refine wp_region_steady (fun w' => Bx1 w w.heap.size 82 ⟨k, v, true, s, a, p, g⟩ w') 14 (by kernel_rfl) (by kernel_rfl) (T.out) ?_; simp only [List.take_succ_cons, List.take_zero, List.drop_succ_cons, List.drop_zero])
    repeat (first
      | (refine sd_value (v := ?_) (by rfl) (fun w0 hS => ?_) ?_; rotate_left; (· (have hc := nine_of hS.x; go_simp; try (with_reducible rfl))); try simp only [Act.put, List.setIfInBounds_toArray, List.set_cons_zero, List.set_cons_succ])
      | (refine sd_skip (by rfl) ?_; try simp only [Act.put, List.setIfInBounds_toArray, List.set_cons_zero, List.set_cons_succ]))
    refine sd_nil ?_
    intro w1 t1
    go_wp2_with fail
    go_ret
    exact ⟨rfl, t1.ho⟩
  · have HB := fun w => en_bit m h2 w
    have hand := duty_and p m h4 h2
    have g1 : (0 : Int) ≤ (m : Int) := by omega
    have g2 : (m : Int) < 12 := by omega
    generalize ((2 ^ m : Nat) : Int) = u at HB hand
    generalize dutyB p m = q at hand ⊢
    have H := Lib.hid HB
    clear HB
    go_enter Tryz.func224, Tryz.ntmps224
    go_wp2_with fail
    (refine wp_region_steady (fun w' => Bx1 w w.heap.size 82 ⟨k, v, true, s, a, (p : Int), g⟩ w') 14 (by kernel_rfl) (by kernel_rfl) (T.out) ?_; simp only [List.take_succ_cons, List.take_zero, List.drop_succ_cons, List.drop_zero])
    repeat (first
      | (refine sd_value (v := ?_) (by rfl) (fun w0 hS => ?_) ?_; rotate_left; (· (have hc := nine_of hS.x; go_simp; try (with_reducible rfl))); try simp only [Act.put, List.setIfInBounds_toArray, List.set_cons_zero, List.set_cons_succ])
      | (refine sd_skip (by rfl) ?_; try simp only [Act.put, List.setIfInBounds_toArray, List.set_cons_zero, List.set_cons_succ])
      | (refine sd_call (v := ?_) (f := 154) (args := ?_) (by rfl) (fun w0 hS => ?_) (fun w0 hS => ?_) ?_; rotate_left 2; (· (have hc := nine_of hS.x; go_simp; try (with_reducible rfl))); (· (refine (H.out _).mono ?_; rintro E w9 ⟨rfl, rfl⟩; refine ⟨?_, hS⟩; rfl)); try simp only [Act.put, List.setIfInBounds_toArray, List.set_cons_zero, List.set_cons_succ]))
    refine sd_nil ?_
    intro w1 t1
    go_wp2_with fail
    go_ret
    exact ⟨rfl, t1.ho⟩
end Go.Proofs.YtoohpcomnhfgpaaGreat
end
section
namespace Go.Proofs.YtoohpcomnhfgpaaGreat
open Go.RowKit
set_option linter.all false
structure Mk where
  a : St
  k : ByteArray
def noKey : ByteArray := ⟨#[]⟩
def mkTop : Mk := ⟨stZero, noKey⟩
def stSame (x y : St) : Bool := decide (x.c = y.c) && decide (x.s = y.s)
theorem stSame_iff (x y : St) : stSame x y = true ↔ x = y := by
  simp only [stSame, Bool.and_eq_true, decide_eq_true_eq]
  exact ⟨fun h => St.eq h.1 h.2, fun h => by subst h; exact ⟨rfl, rfl⟩⟩
def mkLater (x y : Mk) : Bool := if stSame x.a y.a then lt_ y.k x.k else stLater x.a y.a
def mkCmp (x y : Mk) : Int := if stCmp x.a y.a = 0 then Lib.compareBytes x.k.data.toList y.k.data.toList else stCmp x.a y.a
theorem Mk.eq {x y : Mk} (h1 : x.a = y.a) (h2 : x.k = y.k) : x = y := by cases x; cases y; simp_all
theorem st_irr (x : St) : stLater x x = false := (later_false x x).2 (by omega)
theorem st_tr {x y z : St} (h : stLater x y = true) (k : stLater y z = true) : stLater x z = true := by
  rw [later_def] at h k ⊢; omega
theorem later_irr (x : Mk) : mkLater x x = false := by unfold mkLater; rw [if_pos ((stSame_iff _ _).2 rfl), lt_irr]
theorem later_def2 (x y : Mk) : mkLater x y = true ↔ stLater x.a y.a = true ∨ (x.a = y.a ∧ lt_ y.k x.k = true) := by
  unfold mkLater
  by_cases h : x.a = y.a
  · rw [if_pos ((stSame_iff _ _).2 h)]
    exact ⟨fun e => .inr ⟨h, e⟩, fun e => e.elim (fun e => by rw [h, st_irr] at e; cases e) (fun e => e.2)⟩
  · rw [if_neg (fun e => h ((stSame_iff _ _).1 e))]
    exact ⟨fun e => .inl e, fun e => e.elim id (fun e => absurd e.1 h)⟩
theorem later_tr {x y z : Mk} (h : mkLater x y = true) (k : mkLater y z = true) : mkLater x z = true := by
  rw [later_def2] at h k ⊢
  rcases h with h | ⟨h, h'⟩
  · rcases k with k | ⟨k, k'⟩
    · exact .inl (st_tr h k)
    · exact .inl (k ▸ h)
  · rcases k with k | ⟨k, k'⟩
    · exact .inl (h ▸ k)
    · exact .inr ⟨h.trans k, lt_tr k' h'⟩
theorem later_tri {x y : Mk} (h : mkLater x y = false) (k : mkLater y x = false) : x = y := by
  have h1 : ¬ (stLater x.a y.a = true ∨ (x.a = y.a ∧ lt_ y.k x.k = true)) := fun e => by rw [(later_def2 x y).2 e] at h; cases h
  have h2 : ¬ (stLater y.a x.a = true ∨ (y.a = x.a ∧ lt_ x.k y.k = true)) := fun e => by rw [(later_def2 y x).2 e] at k; cases k
  have ea : x.a = y.a := later_anti (by simpa using fun e => h1 (.inl e)) (by simpa using fun e => h2 (.inl e))
  refine Mk.eq ea (lt_tri ?_ ?_)
  · cases e : lt_ x.k y.k with
    | false => rfl
    | true => exact absurd (.inr ⟨ea.symm, e⟩) h2
  · cases e : lt_ y.k x.k with
    | false => rfl
    | true => exact absurd (.inr ⟨ea, e⟩) h1
theorem mkCmp_neg (x y : Mk) : decide (mkCmp x y < 0) = mkLater y x := by
  unfold mkCmp mkLater
  by_cases h : x.a = y.a
  · rw [if_pos ((stCmp_zero _ _).2 h), if_pos ((stSame_iff _ _).2 h.symm), cmp_neg]
  · rw [if_neg (fun e => h ((stCmp_zero _ _).1 e)), if_neg (fun e => h ((stSame_iff _ _).1 e).symm)]
    have e := stCmp_pos y.a x.a
    rw [stCmp_neg] at e
    rw [Bool.eq_iff_iff, decide_eq_true_eq, ← e]
    omega
def Desc (l : List Mk) : Prop := l.Pairwise fun x y => mkLater x y = true
def Keys_ (l : List Mk) : Prop := l.Pairwise fun x y => x.k ≠ y.k
def bh (l : List Mk) (m : Mk) : Nat := l.countP fun x => !mkLater m x
theorem bh_le (l : List Mk) (m : Mk) : bh l m ≤ l.length := List.countP_le_length
theorem bh_at {l : List Mk} (h : Desc l) (m : Mk) : ∀ i (hi : i < l.length), mkLater m l[i] = decide (bh l m ≤ i) := by
  induction l with
  | nil => intro i hi; simp at hi
  | cons p l ih =>
    intro i hi
    have h' := List.pairwise_cons.1 h
    have ih := ih h'.2
    have hc : bh (p :: l) m = bh l m + if mkLater m p = true then 0 else 1 := by
      simp only [bh, List.countP_cons]; cases mkLater m p <;> simp
    by_cases hp : mkLater m p = true
    · have hz : bh l m = 0 := by
        refine List.countP_eq_zero.2 (fun q hq => ?_)
        rw [later_tr hp (h'.1 q hq)]; simp
      rw [hc, if_pos hp, hz]
      cases i with
      | zero => simp [hp]
      | succ i => rw [List.getElem_cons_succ, ih i (by simpa using hi), hz]; simp
    · rw [hc, if_neg hp]
      cases i with
      | zero => simpa using hp
      | succ i => rw [List.getElem_cons_succ, ih i (by simpa using hi)]; simp
theorem bh_mem {l : List Mk} (h : Desc l) (i : Nat) (hi : i < l.length) : bh l l[i] = i + 1 := by
  have h1 := bh_at h l[i] i hi
  rw [later_irr] at h1
  have h1 : i < bh l l[i] := by simpa using h1.symm
  have h2 := bh_le l l[i]
  rcases Nat.lt_or_ge (i + 1) l.length with hl | hl
  · have h3 := bh_at h l[i] (i + 1) hl
    have h4 : mkLater l[i] l[i + 1] = true := List.pairwise_iff_getElem.1 h i (i + 1) hi hl (by omega)
    rw [h4] at h3
    have h3 : bh l l[i] ≤ i + 1 := by simpa using h3.symm
    omega
  · omega
theorem later_drop {l : List Mk} (h : Desc l) (m : Mk) : l.filter (fun x => mkLater m x) = l.drop (bh l m) := by
  induction l with
  | nil => rfl
  | cons p l ih =>
    have h' := List.pairwise_cons.1 h
    have ih := ih h'.2
    have hc : bh (p :: l) m = bh l m + if mkLater m p = true then 0 else 1 := by
      simp only [bh, List.countP_cons]; cases mkLater m p <;> simp
    by_cases hp : mkLater m p = true
    · have hz : bh l m = 0 := by
        refine List.countP_eq_zero.2 (fun q hq => ?_)
        rw [later_tr hp (h'.1 q hq)]; simp
      rw [hc, if_pos hp, hz, List.filter_cons_of_pos (by simpa using hp), ih, hz]; rfl
    · rw [hc, if_neg hp, List.filter_cons_of_neg (by simpa using hp), ih]; rfl
def hasM (l : List Mk) (k : ByteArray) : Bool := l.any fun x => decide (x.k = k)
def fndM (l : List Mk) (k : ByteArray) : Int := if hasM l k = true then ((l.findIdx fun x => decide (x.k = k) : Nat) : Int) else -1
theorem has_get {l : List Mk} {k : ByteArray} (h : hasM l k = true) : ∃ i, ∃ hi : i < l.length, l[i].k = k ∧ fndM l k = i := by
  have hi : (l.findIdx fun x => decide (x.k = k)) < l.length := List.findIdx_lt_length.2 (by
    obtain ⟨x, hx, he⟩ := List.any_eq_true.1 h
    exact ⟨x, hx, he⟩)
  refine ⟨_, hi, ?_, by rw [fndM, if_pos h]⟩
  have := List.findIdx_getElem (w := hi)
  simpa using this
theorem has_not {l : List Mk} {k : ByteArray} (h : hasM l k = false) : ∀ x ∈ l, x.k ≠ k := fun x hx e => by
  have : hasM l k = true := List.any_eq_true.2 ⟨x, hx, by simpa using e⟩
  rw [h] at this; cases this
def dropM (l : List Mk) (k : ByteArray) : List Mk := l.filter fun x => !decide (x.k = k)
theorem drop_not {l : List Mk} {k : ByteArray} (h : hasM l k = false) : dropM l k = l :=
  List.filter_eq_self.2 fun x hx => by simpa using has_not h x hx
theorem drop_at {l : List Mk} (h : Keys_ l) (i : Nat) (hi : i < l.length) : dropM l l[i].k = l.take i ++ l.drop (i + 1) := by
  induction l generalizing i with
  | nil => simp at hi
  | cons p l ih =>
    have h' := List.pairwise_cons.1 h
    cases i with
    | zero =>
      rw [List.getElem_cons_zero, dropM, List.filter_cons_of_neg (by simp)]
      exact List.filter_eq_self.2 fun x hx => by simpa using fun e => h'.1 x hx e.symm
    | succ i =>
      have hi' : i < l.length := by simpa using hi
      rw [List.getElem_cons_succ, dropM, List.filter_cons_of_pos (by simpa using h'.1 _ (List.getElem_mem hi'))]
      have := ih h'.2 i hi'
      rw [dropM] at this
      rw [this]; rfl
theorem drop_sub (l : List Mk) (k : ByteArray) : (dropM l k).Sublist l := List.filter_sublist
theorem drop_gone (l : List Mk) (k : ByteArray) : ∀ x ∈ dropM l k, x.k ≠ k := fun x hx => by simpa using (List.mem_filter.1 hx).2
theorem mdrop_len (l : List Mk) (k : ByteArray) : (dropM l k).length ≤ l.length := List.length_filter_le _ _
def insM (m : Mk) : List Mk → List Mk
  | [] => [m]
  | x :: r => if mkLater m x = true then m :: x :: r else x :: insM m r
def putM (l : List Mk) (m : Mk) : List Mk := insM m (dropM l m.k)
theorem ins_len (m : Mk) : ∀ l : List Mk, (insM m l).length = l.length + 1
  | [] => rfl
  | x :: r => by unfold insM; split <;> simp [ins_len m r]
theorem ins_mem (m : Mk) : ∀ (l : List Mk) (y : Mk), y ∈ insM m l ↔ y = m ∨ y ∈ l
  | [], y => by simp [insM]
  | x :: r, y => by
    unfold insM; split
    · simp
    · simp only [List.mem_cons, ins_mem m r y]; constructor
      · rintro (h | h | h)
        · exact .inr (.inl h)
        · exact .inl h
        · exact .inr (.inr h)
      · rintro (h | h | h)
        · exact .inr (.inl h)
        · exact .inl h
        · exact .inr (.inr h)
theorem ins_at {l : List Mk} (h : Desc l) (m : Mk) : insM m l = l.take (bh l m) ++ m :: l.drop (bh l m) := by
  induction l with
  | nil => rfl
  | cons p l ih =>
    have h' := List.pairwise_cons.1 h
    have hc : bh (p :: l) m = bh l m + if mkLater m p = true then 0 else 1 := by
      simp only [bh, List.countP_cons]; cases mkLater m p <;> simp
    unfold insM
    by_cases hp : mkLater m p = true
    · have hz : bh l m = 0 := by
        refine List.countP_eq_zero.2 (fun q hq => ?_)
        rw [later_tr hp (h'.1 q hq)]; simp
      rw [if_pos hp, hc, if_pos hp, hz]; rfl
    · rw [if_neg hp, hc, if_neg hp, ih h'.2]; rfl
structure Ixl (l : List Mk) : Prop where
  ds : Desc l
  ks : Keys_ l
theorem ixl_nil : Ixl [] := ⟨List.Pairwise.nil, List.Pairwise.nil⟩
theorem Ixl.drop {l : List Mk} (h : Ixl l) (k : ByteArray) : Ixl (dropM l k) := ⟨h.ds.sublist (drop_sub l k), h.ks.sublist (drop_sub l k)⟩
theorem desc_ins {l : List Mk} (h : Desc l) (m : Mk) (hm : m ∉ l) : Desc (insM m l) := by
  induction l with
  | nil => exact List.pairwise_singleton _ _
  | cons p l ih =>
    have h' := List.pairwise_cons.1 h
    unfold insM
    by_cases hp : mkLater m p = true
    · rw [if_pos hp]
      exact List.pairwise_cons.2 ⟨fun q hq => by
        rcases List.mem_cons.1 hq with rfl | hq
        · exact hp
        · exact later_tr hp (h'.1 q hq), h⟩
    · rw [if_neg hp]
      refine List.pairwise_cons.2 ⟨fun q hq => ?_, ih h'.2 (fun e => hm (List.mem_cons_of_mem _ e))⟩
      rcases (ins_mem m l q).1 hq with rfl | hq
      · cases e : mkLater p q with
        | true => rfl
        | false => exact absurd (later_tri (by simpa using hp) e) (fun e => hm (by rw [e]; exact List.mem_cons_self))
      · exact h'.1 q hq
theorem keys_ins {l : List Mk} (h : Keys_ l) (m : Mk) (hm : ∀ x ∈ l, x.k ≠ m.k) : Keys_ (insM m l) := by
  induction l with
  | nil => exact List.pairwise_singleton _ _
  | cons p l ih =>
    have h' := List.pairwise_cons.1 h
    unfold insM
    by_cases hp : mkLater m p = true
    · rw [if_pos hp]
      exact List.pairwise_cons.2 ⟨fun q hq e => hm q hq e.symm, h⟩
    · rw [if_neg hp]
      refine List.pairwise_cons.2 ⟨fun q hq => ?_, ih h'.2 (fun x hx => hm x (List.mem_cons_of_mem _ hx))⟩
      rcases (ins_mem m l q).1 hq with rfl | hq
      · exact hm p List.mem_cons_self
      · exact h'.1 q hq
theorem Ixl.ins {l : List Mk} (h : Ixl l) (m : Mk) (hm : ∀ x ∈ l, x.k ≠ m.k) : Ixl (insM m l) :=
  ⟨desc_ins h.ds m (fun e => hm m e rfl), keys_ins h.ks m hm⟩
theorem Ixl.put {l : List Mk} (h : Ixl l) (m : Mk) : Ixl (putM l m) := (h.drop m.k).ins m (drop_gone l m.k)
theorem mput_len (l : List Mk) (m : Mk) : (putM l m).length ≤ l.length + 1 := by
  rw [putM, ins_len]; have := mdrop_len l m.k; omega
def isTop (m : Mk) : Bool := stSame m.a stZero && decide (m.k = noKey)
def belF (m : Mk) (x : Mk) : Bool := isTop m || mkLater m x
def belM (l : List Mk) (m : Mk) (n : Int) : List Mk := (l.filter (belF m)).take n.toNat
theorem bel_top {l : List Mk} {m : Mk} (h : isTop m = true) (n : Int) : belM l m n = l.take n.toNat := by
  unfold belM
  rw [List.filter_eq_self.2 (fun x _ => by simp [belF, h])]
theorem bel_not {l : List Mk} (hl : Desc l) {m : Mk} (h : isTop m = false) (n : Int) : belM l m n = (l.drop (bh l m)).take n.toNat := by
  have e : belF m = fun x => mkLater m x := by funext x; simp [belF, h]
  unfold belM
  rw [e, later_drop hl]
end Go.Proofs.YtoohpcomnhfgpaaGreat
end
section
namespace Go.Proofs.YtoohpcomnhfgpaaGreat
open Go.RowKit
set_option maxRecDepth 100000
set_option linter.all false
theorem wpl_load {P : Program} {ops : Array Oper} {rest : List Oper} {o : Oper} {a : Act} {w : World} {Q : Exit → Act → World → Prop} (hgd : o.guard = none) (ty : TypeId) (x : Operand) (ho : o.op = .load ty x)
    (g : Nat) (hx : a.eval x = .pointer (some ⟨g, 0, none⟩)) (t : TypeId) (cs : Array Value) (d : TypeDesc) (hg : Blk w g t cs)
    (hu : P.underlying ty = some d) (hd : (match d with | .struct _ | .array _ _ => true | _ => false) = true) (hi : (P.info? ty).map (·.size) = some cs.size)
    (h : wpList P ops Q rest (a.put o.dst (.agg cs)) w) : wpList P ops Q (o :: rest) a w :=
  wpList_plain hgd fun _ hK => wp_load_row ty x ho g hx t cs (0, 0) d hg hu hd hi (hK _ _ h)
theorem en_cells_one (e : En) : (#[.string e.k, .string e.v, .bool e.d, .int .i64 e.s.c, .int .i64 e.s.s, .int .i64 e.a.c, .int .i64 e.a.s, .int .i64 e.p, .int .i64 e.g] : Array Value).all (·.oneCell') = true := by simp [Value.oneCell']
end Go.Proofs.YtoohpcomnhfgpaaGreat
end
section
namespace Go.Proofs.YtoohpcomnhfgpaaGreat
open Go.RowKit
set_option linter.all false
set_option maxRecDepth 100000
set_option linter.unusedSimpArgs false
set_option maxHeartbeats 6400000 in
theorem en_check (e : En) (w : World) :
    Calls Tryz.prog 83 #[.agg #[.string e.k, .string e.v, .bool e.d, .int .i64 e.s.c, .int .i64 e.s.s, .int .i64 e.a.c, .int .i64 e.a.s, .int .i64 e.p, .int .i64 e.g]] w fun E w' => E = .returned (.int .i64 (enCheck e)) ∧ Only none_ w w' := by
  have O := Lib.hid ((Only.refl none_ w).alloc (.cells #[.string e.k, .string e.v, .bool e.d, .int .i64 e.s.c, .int .i64 e.s.s, .int .i64 e.a.c, .int .i64 e.a.s, .int .i64 e.p, .int .i64 e.g] 82))
  have B := Lib.hid (Blk.new w 82 #[.string e.k, .string e.v, .bool e.d, .int .i64 e.s.c, .int .i64 e.s.s, .int .i64 e.a.c, .int .i64 e.a.s, .int .i64 e.p, .int .i64 e.g])
  obtain ⟨gb, hg⟩ : ∃ b, (stGood e.s && stGood e.a) = b := ⟨_, rfl⟩
  obtain ⟨cb, hc⟩ : ∃ b, enCert e = b := ⟨_, rfl⟩
  obtain ⟨lb, hl⟩ : ∃ b, enLive e = b := ⟨_, rfl⟩
  obtain ⟨r, hr⟩ : ∃ b, stCmp e.a e.s = b := ⟨_, rfl⟩
  have hlt : stLater e.s e.a = decide (r < 0) := by
    have h1 := stCmp_pos e.s e.a
    rw [stCmp_neg, hr] at h1
    rw [Bool.eq_iff_iff, ← h1, decide_eq_true_eq]
    omega
  have HC : Hid (enCheck e = if e.k.toList = [] ∨ 16 < e.k.size then 9 else if 32 < e.v.size ∨ e.d = true ∧ ¬ e.v.toList = [] then 10 else if gb = false ∨ r < 0 then 1 else
      if (if e.d = true then cb else lb) = true then 0 else 1) := by
    rw [Hid, enCheck, enKeyBad, enValBad, enStBad, enRestBad, hg, hc, hl, hlt]
    have e0 : ∀ s : ByteArray, s.toList = [] ↔ s.size = 0 := fun s => by
      have := str_empty s
      rw [Bool.eq_iff_iff, decide_eq_true_eq, beq_iff_eq, show ByteArray.toList ⟨#[]⟩ = [] from by rw [ByteArray.toList_eq]] at this
      exact this
    have e1 : (e.k.size < 1) ↔ e.k.size = 0 := by omega
    have e2 : (0 < e.v.size) ↔ ¬ e.v.size = 0 := by omega
    simp only [Bool.or_eq_true, Bool.and_eq_true, decide_eq_true_eq, e0, e1, e2, Bool.not_eq_true', Bool.not_eq_true]
    cases (if e.d = true then cb else lb) <;> simp
  have HG := Lib.hid hg
  have HT := Lib.hid hc
  have HL := Lib.hid hl
  have HR : Hid (stCmp ⟨e.a.c, e.a.s⟩ ⟨e.s.c, e.s.s⟩ = r) := hr
  have hlb : Hid (gb = gb) := rfl
  clear hg hc hl hr hlt
  obtain ⟨k, v, d, s, a, p, g⟩ := e
  have e5 := fun w => en_stampsGood ⟨k, v, d, s, a, p, g⟩ w
  have e6 := fun w => en_isCert ⟨k, v, d, s, a, p, g⟩ w
  have e7 := fun w => en_isLive ⟨k, v, d, s, a, p, g⟩ w
  have E5 := Lib.hid e5
  have E6 := Lib.hid e6
  have E7 := Lib.hid e7
  clear e5 e6 e7
  simp only at *
  cases d
  all_goals
    go_enter Tryz.func83, Tryz.ntmps83
    go_wp2_with (first
      | (go_at_call 139; refine (E5.out _).mono ?_; rintro E w1 ⟨rfl, o1⟩; rw [HG.out]
         have O1 := Lib.hid (O.out.trans o1)
         have B1 := Lib.hid (B.out.only o1 (fun h => h))
         have c0 := B1.out.cell_ (i := 0) rfl
         have c1 := B1.out.cell_ (i := 1) rfl
         have c2 := B1.out.cell_ (i := 2) rfl
         have c3 := B1.out.cell_ (i := 3) rfl
         have c4 := B1.out.cell_ (i := 4) rfl
         have c5 := B1.out.cell_ (i := 5) rfl
         have c6 := B1.out.cell_ (i := 6) rfl
         have c7 := B1.out.cell_ (i := 7) rfl
         have c8 := B1.out.cell_ (i := 8) rfl
         clear o1)
      | (go_at_call 140; refine (st_compare _ _ _ _ _).mono ?_; rintro E w2 ⟨rfl, o2⟩; rw [HR.out]
         have O2 := Lib.hid (O1.out.trans o2)
         have B2 := Lib.hid (B1.out.only o2 (fun h => h))
         have d0 := B2.out.cell_ (i := 0) rfl
         have d1 := B2.out.cell_ (i := 1) rfl
         have d2 := B2.out.cell_ (i := 2) rfl
         have d3 := B2.out.cell_ (i := 3) rfl
         have d4 := B2.out.cell_ (i := 4) rfl
         have d5 := B2.out.cell_ (i := 5) rfl
         have d6 := B2.out.cell_ (i := 6) rfl
         have d7 := B2.out.cell_ (i := 7) rfl
         have d8 := B2.out.cell_ (i := 8) rfl
         clear o2)
      | (go_at_call 141; refine (E6.out _).mono ?_; rintro E w3 ⟨rfl, o3⟩; rw [HT.out]; have O3 := Lib.hid (O2.out.trans o3); have f2 := (B2.out.only o3 (fun h => h)).cell_ (i := 2) rfl; clear o3)
      | (go_at_call 142; refine (E7.out _).mono ?_; rintro E w3 ⟨rfl, o3⟩; rw [HL.out]; have O3 := Lib.hid (O2.out.trans o3); clear o3))
    all_goals
      go_ret
      refine ⟨congrArg (fun z => Ending.returned (.int .i64 z)) (Eq.symm ?_), ?_⟩
      · rw [HC.out]
        clear HC O B HG HT HL HR E5 E6 E7
        try clear c0 c1 c2 c3 c4 c5 c6 c7 c8 O1 B1
        try clear d0 d1 d2 d3 d4 d5 d6 d7 d8 O2 B2
        try clear O3
        try clear f2
        simp only [Bool.or_eq_true, Bool.and_eq_true, Bool.not_eq_true', Bool.not_eq_false', Bool.or_eq_false_iff, Bool.and_eq_false_iff, decide_eq_true_eq, decide_eq_false_iff_not, Bool.false_eq_true, if_true, if_false, beq_iff_eq, beq_eq_false_iff_ne, bne_iff_ne, ne_eq, Bool.not_eq_true, bne_eq_false_iff_eq, false_and, true_and, and_true, and_false, or_false, false_or, or_true, true_or, not_true_eq_false, not_false_eq_true, List.isEmpty_iff, List.isEmpty_eq_false_iff] at *
        (repeat' split) <;> first | rfl | omega | (exfalso; simp_all; done) | (exfalso; simp_all; omega)
      · first
          | exact O3.out
          | exact O2.out
          | exact O1.out
          | exact O.out
end Go.Proofs.YtoohpcomnhfgpaaGreat
end
section
namespace Go.Proofs.YtoohpcomnhfgpaaGreat
open Go.RowKit
set_option maxRecDepth 100000
theorem results_cell_tmp {P : Program} {fn : Func} {p q : Tmp} {ty : TypeId} (h : fn.results = #[.cell p ty, .tmp q]) (tmps : Array Value) (w : World) (g : Nat) (t : TypeId) (cs : Array Value) (d : TypeDesc)
    (hp : tmps.getD p undef = .pointer (some ⟨g, 0, none⟩)) (hg : Blk w g t cs)
    (hu : P.underlying ty = some d) (hd : (match d with | .struct _ | .array _ _ => true | _ => false) = true) (hi : (P.info? ty).map (·.size) = some cs.size) (v : Value) (hq : tmps.getD q undef = v) :
    (results fn tmps).run P w = .ok (.tuple #[.agg cs, v]) w := by
  have hp' : tmps[p]?.getD undef = .pointer (some ⟨g, 0, none⟩) := by simpa using hp
  have hq' : tmps[q]?.getD undef = v := by simpa using hq
  simp [results, h, hp', hq', asAddr, run_loadVar_row w g t ty cs (0, 0) d hg hu hd hi]
end Go.Proofs.YtoohpcomnhfgpaaGreat
end
section
namespace Go.Proofs.YtoohpcomnhfgpaaGreat
open Go.RowKit
theorem u8_info : (Tryz.prog.info? 5).map (fun i => (i.zero, i.size, i.bytes)) = some (some (.int .u8 0), 1, 1) := by kernel_rfl
section
variable {P : Program} {t e : TypeId} {i : TypeInfo} {w : World} {S : Nat → Prop} {A : Option Addr} {c L : Nat} {bs : List UInt8}
theorem byt_hi (ht : P.underlying t = some (.slice e)) (hi : P.info? e = some i) (h : Byt w S (.slice A L c) bs) (n : Nat) (hn : n ≤ L) (z : Int) (hzn : z = n) :
    ∃ A1, (∀ w', (Instr.sliceAt t (.slice A L c) none (some (.int .i64 z)) none).run P w' = .ok (.slice A1 n c) w') ∧ Byt w S (.slice A1 n c) (bs.take n) := by
  subst hzn
  obtain ⟨A', c', he, h1, h2, h3, h4⟩ := h
  injection he with e1 e2 e3
  subst e1 e2 e3
  refine ⟨if c = 0 then A else A.map (·.add (0 * 1)), fun w' => ?_, ?_⟩
  · have hc : (n : Int) ≤ (c : Int) := by omega
    simp [Instr.sliceAt, Instr.slice, run_underlying ht, Instr.sliceBounds, run_sliceBound, sizeOf, typeInfo, hi, hc]
  · have hl : (bs.take n).length = n := by simp; omega
    refine ⟨_, c, by rw [hl], by omega, h2, fun hA => h3 ?_, fun hp => ?_⟩
    · split at hA
      · exact hA
      · cases A with
        | none => rfl
        | some a => simp at hA
    · obtain ⟨b, off, rfl, hs, hlt, hc⟩ := h4 (by omega)
      rw [if_neg (by omega)]
      refine ⟨b, off, by simp [Addr.add], hs, hlt, fun j hj => ?_⟩
      rw [hc j (by omega)]
      simp
theorem byt_lo (ht : P.underlying t = some (.slice e)) (hi : P.info? e = some i) (hz : i.size = 1) (h : Byt w S (.slice A L c) bs) (n : Nat) (hn : n ≤ L) (z : Int) (hzn : z = n) :
    ∃ A1 L1 c1, (∀ w', (Instr.sliceAt t (.slice A L c) (some (.int .i64 z)) none none).run P w' = .ok (.slice A1 L1 c1) w') ∧ Byt w S (.slice A1 L1 c1) (bs.drop n) := by
  subst hzn
  obtain ⟨A', c', he, h1, h2, h3, h4⟩ := h
  injection he with e1 e2 e3
  subst e1 e2 e3
  refine ⟨if c = n then A else A.map (·.add (n * 1)), bs.length - n, c - n, fun w' => ?_, ?_⟩
  · have hc : (n : Int) ≤ (bs.length : Int) := by omega
    simp [Instr.sliceAt, Instr.slice, run_underlying ht, Instr.sliceBounds, run_sliceBound, sizeOf, typeInfo, hi, hz, hc]
  · have hl : (bs.drop n).length = bs.length - n := by simp
    refine ⟨_, c - n, by rw [hl], by omega, by omega, fun hA => ?_, fun hp => ?_⟩
    · have : A = none := by
        split at hA
        · exact hA
        · cases A with
          | none => rfl
          | some a => simp at hA
      have := h3 this
      omega
    · obtain ⟨b, off, rfl, hs, hlt, hc⟩ := h4 (by omega)
      rw [if_neg (by omega)]
      refine ⟨b, off + n, by simp [Addr.add], hs, hlt, fun j hj => ?_⟩
      rw [Nat.add_assoc, hc (n + j) (by omega)]
      simp
end
section
variable {P : Program} {t e : TypeId} {i : TypeInfo} {w : World} {S : Nat → Prop} {A : Option Addr} {c L : Nat} {bs : List UInt8}
theorem byt_mid (ht : P.underlying t = some (.slice e)) (hi : P.info? e = some i) (hz : i.size = 1) (h : Byt w S (.slice A L c) bs) (m n : Nat) (hmn : m ≤ n) (hn : n ≤ L) (y z : Int) (hy : y = m) (hzn : z = n) :
    ∃ A1 L1 c1, (∀ w', (Instr.sliceAt t (.slice A L c) (some (.int .i64 y)) (some (.int .i64 z)) none).run P w' = .ok (.slice A1 L1 c1) w') ∧ Byt w S (.slice A1 L1 c1) ((bs.drop m).take (n - m)) := by
  subst hy hzn
  obtain ⟨A', c', he, h1, h2, h3, h4⟩ := h
  injection he with e1 e2 e3
  subst e1 e2 e3
  refine ⟨if c = m then A else A.map (·.add (m * 1)), n - m, c - m, fun w' => ?_, ?_⟩
  · have hc1 : (n : Int) ≤ (c : Int) := by omega
    have hc2 : (m : Int) ≤ (n : Int) := by omega
    simp [Instr.sliceAt, Instr.slice, run_underlying ht, Instr.sliceBounds, run_sliceBound, sizeOf, typeInfo, hi, hz, hc1, hc2]
  · have hl : ((bs.drop m).take (n - m)).length = n - m := by simp; omega
    refine ⟨_, c - m, by rw [hl], by omega, by omega, fun hA => ?_, fun hp => ?_⟩
    · have : A = none := by
        split at hA
        · exact hA
        · cases A with
          | none => rfl
          | some a => simp at hA
      have := h3 this
      omega
    · rw [hl] at hp
      obtain ⟨b, off, rfl, hs, hlt, hc⟩ := h4 (by omega)
      rw [if_neg (by omega)]
      refine ⟨b, off + m, by simp [Addr.add], hs, hlt, fun j hj => ?_⟩
      rw [hl] at hj
      rw [Nat.add_assoc, hc (m + j) (by omega)]
      simp
end
theorem run_bytes_string (w : World) (S : Nat → Prop) (x : Value) (bs : List UInt8) (h : Byt w S x bs) : (convert 114 9 x).run Tryz.prog w = .ok (.string ⟨bs.toArray⟩) w := by
  obtain ⟨A, c, rfl, h1, h2, h3, h4⟩ := h
  rcases A with _ | ad
  · have hn : bs = [] := List.eq_nil_of_length_eq_zero (by have := h3 rfl; omega)
    subst hn
    exact run_convert_bytes_nil w 114 5 Tryz.underlying114 Tryz.underlying5 _ _ _ Tryz.underlying9
  · refine run_convert_bytes_back w 114 9 5 ad c bs Tryz.underlying114 Tryz.underlying5 Tryz.underlying9 fun j hj => ?_
    obtain ⟨g, off, e1, _, _, hc⟩ := h4 (by omega)
    injection e1 with e1
    subst e1
    have e2 : (⟨g, off, none⟩ : Addr).add j = ⟨g, off + j, none⟩ := by unfold Addr.add; split <;> simp_all
    rw [e2, hc j hj]; rfl
end Go.Proofs.YtoohpcomnhfgpaaGreat
end
section
namespace Go.Proofs.YtoohpcomnhfgpaaGreat
open Go.RowKit
set_option linter.all false
def first_ (c e : Int) : Int := if c = 0 then e else c
theorem fault_err (g : Nat) (t : TypeId) (cs : Array Value) (c : Int) (w : World) (h : Blk w g t cs) (h0 : cs[0]? = some (.int .i64 c)) :
    Calls Tryz.prog 221 #[.pointer (some ⟨g, 0, none⟩)] w fun e w' => e = .returned (.int .i64 c) ∧ w = w' := by
  have hc := h.cell_ h0
  clear h h0
  go_enter Tryz.func221, Tryz.ntmps221
  go_wp2
  go_ret
  exact ⟨rfl, rfl⟩
theorem fault_fail (g : Nat) (t : TypeId) (cs : Array Value) (c k : Int) (w : World) (h : Blk w g t cs) (h0 : cs[0]? = some (.int .i64 c)) :
    Calls Tryz.prog 220 #[.pointer (some ⟨g, 0, none⟩), .int .i64 k] w fun e w' => e = .returned (.tuple #[]) ∧ Blk w' g t (cs.setIfInBounds 0 (.int .i64 (first_ c k))) ∧ Only (one g) w w' := by
  have hc := h.cell_ h0
  have hf := h.frozen 0
  have hB := Lib.hid h
  have hs : Hid (cs.setIfInBounds 0 (.int .i64 c) = cs) := by
    apply Array.ext_getElem?
    intro i
    rw [Array.getElem?_setIfInBounds]
    split
    · next hi => subst hi; split
                 · exact h0.symm
                 · next hi => rw [Array.getElem?_eq_none (by omega)]
    · rfl
  clear h h0
  by_cases h1 : c = 0
  · have h2 : (c == 0) = true := by simp [h1]
    have h3 : Hid (first_ c k = k) := by simp [Hid, first_, h1]
    clear h1
    go_enter Tryz.func220, Tryz.ntmps220
    go_wp2
    go_end0
    refine ⟨rfl, ?_, (Only.refl (one g) w).setCell (.inl (show one g g from rfl)) _⟩
    rw [h3.out]
    exact hB.out.set_ 0 _
  · have h2 : (c == 0) = false := by simp [h1]
    have h3 : Hid (first_ c k = c) := by simp [Hid, first_, h1]
    clear h1
    go_enter Tryz.func220, Tryz.ntmps220
    go_wp2
    go_end0
    refine ⟨rfl, ?_, Only.refl _ _⟩
    rw [h3.out, hs.out]
    exact hB.out
def isW (n : Int) : Bool := decide (1 ≤ n ∧ n ≤ 8)
theorem isWidth_any (n : Int) (w : World) :
    Calls Tryz.prog 269 #[.int .i64 n] w fun e w' => e = .returned (.bool (isW n)) ∧ w = w' := by
  by_cases h1 : 1 ≤ n
  · by_cases h2 : n ≤ 8
    · have H : Hid (isW n = true) := by simp [Hid, isW, h1, h2]
      go_enter Tryz.func269, Tryz.ntmps269
      go_wp2
      go_ret
      rw [H.out]
      exact ⟨rfl, rfl⟩
    · have H : Hid (isW n = false) := by simp [Hid, isW, h2]
      go_enter Tryz.func269, Tryz.ntmps269
      go_wp2
      go_ret
      rw [H.out]
      exact ⟨rfl, rfl⟩
  · have H : Hid (isW n = false) := by simp [Hid, isW, h1]
    go_enter Tryz.func269, Tryz.ntmps269
    go_wp2
    go_ret
    rw [H.out]
    exact ⟨rfl, rfl⟩
end Go.Proofs.YtoohpcomnhfgpaaGreat
end
section
namespace Go.Proofs.YtoohpcomnhfgpaaGreat
open Go.RowKit
set_option linter.all false
def Wr (w : World) (g base : Nat) (code : Int) (v : Value) (bs : List UInt8) : Prop :=
  Blk w g 318 #[.int .i64 code, v] ∧ w.ownsRow base 5 1 v bs.length (byts bs)
theorem Wr.c0 {w : World} {g base : Nat} {code : Int} {v : Value} {bs : List UInt8} (h : Wr w g base code v bs) : w.cell? ⟨g, 0, none⟩ = some (.int .i64 code) := h.1.cell_ (i := 0) rfl
theorem Wr.c1 {w : World} {g base : Nat} {code : Int} {v : Value} {bs : List UInt8} (h : Wr w g base code v bs) : w.cell? ⟨g, 1, none⟩ = some v := h.1.cell_ (i := 1) rfl
theorem Wr.app {w w' : World} {g base : Nat} {code : Int} {v : Value} {bs : List UInt8} (h : Wr w g base code v bs) (hg : w.grownBy w' v.ownBlock) : Blk w' g 318 #[.int .i64 code, v] :=
  h.1.grown' hg (own_blk_ne h.2 h.1 (by decide))
def foot (g : Nat) (v : Value) : Nat → Prop := fun k => k = g ∨ v.ownBlock = some k
def Parts (w : World) (S : Nat → Prop) (pv : Value) (pss : List (List UInt8)) : Prop :=
  ∃ b off c, pv = .slice (some ⟨b, off, none⟩) pss.length c ∧ b < w.heap.size ∧ S b ∧ ∀ j (hj : j < pss.length), ∃ x, w.cell? ⟨b, off + j, none⟩ = some x ∧ Byt w S x pss[j]
theorem writer_err (g base : Nat) (code : Int) (v : Value) (bs : List UInt8) (w : World) (h : Wr w g base code v bs) :
    Calls Tryz.prog 211 #[.pointer (some ⟨g, 0, none⟩)] w fun e w' => e = .returned (.int .i64 code) ∧ w = w' := by
  have H := Lib.hid h.1
  clear h
  go_enter Tryz.func211, Tryz.ntmps211
  go_wp2_with (go_at_call 221; refine (fault_err _ _ _ _ _ H.out rfl).mono ?_; rintro e w' ⟨rfl, rfl⟩)
  go_ret
  exact ⟨rfl, rfl⟩
theorem flat_snoc (pss : List (List UInt8)) (k : Nat) (hk : k < pss.length) : (pss.take (k + 1)).flatten = (pss.take k).flatten ++ pss[k] := by
  rw [List.take_succ_eq_append_getElem hk, List.flatten_append]; rw [List.flatten_singleton]
theorem flat_le (pss : List (List UInt8)) (k : Nat) : (pss.take k).flatten.length ≤ pss.flatten.length := by
  conv => rhs; rw [← List.take_append_drop k pss]
  rw [List.flatten_append, List.length_append]; omega
set_option maxHeartbeats 400000 in
theorem writer_raw_ok (g base : Nat) (v pv : Value) (bs : List UInt8) (pss : List (List UInt8)) (S : Nat → Prop) (w : World) (h : Wr w g base 0 v bs) (hp : Parts w S pv pss)
    (hS : ∀ b, S b → ¬ foot g v b) (hb : bs.length + pss.flatten.length ≤ 140737488355328) (hbase : base ≤ w.heap.size) (hpl : pss.length ≤ 1000) :
    Calls Tryz.prog 268 #[.pointer (some ⟨g, 0, none⟩), pv] w fun e w' => e = .returned (.pointer (some ⟨g, 0, none⟩)) ∧
      ∃ v', Wr w' g base 0 v' (bs ++ pss.flatten) ∧ Only (foot g v) w w' ∧ Moved w v v' := by
  obtain ⟨i0, hi0, hz0, hz1, hz2⟩ := info_parts u8_info
  obtain ⟨b, off, c, rfl, hlt, hSb, hcs⟩ := hp
  have H := Lib.hid h
  have HS := Lib.hid hS
  have HC := Lib.hid hcs
  clear h hS hcs
  go_enter Tryz.func268, Tryz.ntmps268
  go_wp2_with (go_at_call 211; refine (writer_err _ _ _ _ _ _ H.out).mono ?_; rintro e w' ⟨rfl, rfl⟩)
  go_loopw [13] (fun i wr => ∃ k : Nat, k ≤ pss.length ∧ i = .int .i64 k ∧ ∃ v', Wr wr g base 0 v' (bs ++ (pss.take k).flatten) ∧ Only (foot g v) w wr ∧ Moved w v v') (fun i _ => pss.length - (intOf i).toNat)
  case atStart => exact ⟨0, Nat.zero_le _, rfl, v, by simpa using H.out, Only.refl _ _, Moved.refl _ _⟩
  case round =>
    obtain ⟨k, hk, rfl, v1, h1, ho, hm⟩ := hrel
    by_cases hlt2 : k < pss.length
    · obtain ⟨x, hcx, hbx⟩ := HC.out k hlt2
      have hx1 : wr.cell? ⟨b, off + k, none⟩ = some x := (ho.cell hlt (HS.out b hSb)).trans hcx
      have hpc := h1.c1
      have hpf := h1.1.frozen 1
      have hbx1 : Byt wr S x pss[k] := hbx.only ho HS.out
      have H1 := Lib.hid h1
      have HO := Lib.hid ho
      have HB := Lib.hid hbx1
      have hfl : Hid ((pss.take (k + 1)).flatten = (pss.take k).flatten ++ pss[k]) := flat_snoc pss k hlt2
      have hle : (bs ++ (pss.take k).flatten).length + pss[k].length ≤ 140737488355328 := by
        have := flat_le pss (k + 1)
        rw [hfl.out] at this
        simp only [List.length_append] at this ⊢
        omega
      clear h1 ho hbx1 hcx hbx
      go_wp2_with (first
        | (at_builtin; refine wpList_append_byt _ rfl (.tmp 21) (.tmp 22) _ rfl base 5 i0 (.int .u8 0) Tryz.underlying114 hi0 hz0 hz1 hz2 rfl v1 _ rfl H1.out.2 S x pss[k] rfl HB.out hle (Nat.le_trans hbase HO.out.size) ?_; intro A2 n2 c2 w2 hown2 hgrow2 hmv2; have hpc2 : w2.cell? ⟨g, 1, none⟩ = some v1 := (H1.out.app hgrow2).cell_ rfl; have hpf2 := (H1.out.app hgrow2).frozen 1))
      have hW : Wr (w2.setCell ⟨g, 1, none⟩ (.slice A2 n2 c2)) g base 0 (.slice A2 n2 c2) (bs ++ (pss.take (k + 1)).flatten) := by
        refine ⟨(H1.out.app hgrow2).set_ 1 _, ?_⟩
        rw [hfl.out, ← List.append_assoc]
        exact owns_only hown2 ((Only.refl (one g) w2).setCell (.inl (show one g g from rfl)) _) (fun b hb hg => own_blk_ne hown2 (H1.out.app hgrow2) (by decide) (by rw [hb]; exact congrArg some hg))
      have hO : Only (foot g v) w (w2.setCell ⟨g, 1, none⟩ (.slice A2 n2 c2)) := (HO.out.grown hgrow2 (fun b hb => (hm b hb).imp .inr id)).setCell (.inl (.inl rfl)) _
      have hM : Moved w v (.slice A2 n2 c2) := hm.trans hmv2 HO.out.size
      go_roundw
      case rel => exact ⟨k + 1, by omega, by go_num, _, hW, hO, hM⟩
      case measure => simp [intOf]; omega
    · have hkk : Hid (pss.take k = pss) := List.take_of_length_le (by omega)
      go_wp2
      go_ret
      rw [hkk.out] at h1
      exact ⟨rfl, v1, h1, ho, hm⟩
def leByte (n k : Nat) : UInt8 := UInt8.ofNat (n / 2 ^ (8 * k))
def leBytes (n width : Nat) : List UInt8 := (List.range width).map (leByte n)
def leArr (n k : Nat) : Array Value := ((List.range 8).map fun j => if j < k then byt (leByte n j) else .int .u8 0).toArray
theorem byt_leByte (n k : Nat) : byt (leByte n k) = .int .u8 ((n : Int) / 2 ^ (8 * k) % 256) := by
  unfold byt leByte
  have : (UInt8.ofNat (n / 2 ^ (8 * k))).toNat = n / 2 ^ (8 * k) % 256 := by simp
  rw [this, Int.natCast_emod, Int.natCast_ediv, Int.natCast_pow]
  rfl
theorem leArr_set (n k : Nat) (hk : k < 8) : (leArr n k).setIfInBounds k (byt (leByte n k)) = leArr n (k + 1) := by
  apply Array.ext_getElem?
  intro i
  rw [Array.getElem?_setIfInBounds]
  simp only [leArr, List.size_toArray, List.length_map, List.length_range, List.getElem?_toArray, List.getElem?_map]
  by_cases hi : i < 8
  · rw [List.getElem?_range hi]
    by_cases hik : k = i
    · subst hik; simp [hk]
    · simp only [hik, if_false, Option.map_some]
      congr 1
      by_cases h1 : i < k
      · rw [if_pos h1, if_pos (by omega)]
      · rw [if_neg h1, if_neg (by omega)]
  · rw [if_neg (by omega)]
    simp [hi]
theorem leArr_size (n k : Nat) : (leArr n k).size = 8 := by simp [leArr]
theorem leArr_at (n k j : Nat) (hj : j < 8) : (leArr n k)[j]? = some (if j < k then byt (leByte n j) else .int .u8 0) := by
  simp [leArr, hj]
theorem leArr_one (n k : Nat) : (leArr n k).all (·.oneCell') = true := by
  simp only [leArr, List.all_toArray, List.all_map, List.all_eq_true, Function.comp]
  intro j _
  split <;> rfl
theorem leArr_cell (n k j : Nat) (hj : j < 8) : ∃ z : Int, (leArr n k)[j]? = some (.int .u8 z) := by
  rw [leArr_at n k j hj]
  split
  · exact ⟨_, rfl⟩
  · exact ⟨_, rfl⟩
set_option maxHeartbeats 400000 in
theorem lowest_any (n : Nat) (_hn : n < 18446744073709551616) (w : World) :
    Calls Tryz.prog 270 #[.int .u64 (n : Int)] w fun e w' => e = .returned (.agg (leArr n 8)) ∧ Only none_ w w' := by
  have h0 : Hid (#[Value.int .u8 0, .int .u8 0, .int .u8 0, .int .u8 0, .int .u8 0, .int .u8 0, .int .u8 0, .int .u8 0] = leArr n 0) := by
    simp [Hid, leArr, List.range, List.range.loop]
  go_enter Tryz.func270, Tryz.ntmps270
  go_wp2
  go_loopw [5] (fun i wr => ∃ k : Nat, k ≤ 8 ∧ i = .int .i64 k ∧ Blk wr (w.heap.size + 1) 374 (leArr n k) ∧ Blk wr w.heap.size 374 (leArr n 0) ∧ Only none_ w wr) (fun i _ => 8 - (intOf i).toNat)
  case atStart =>
    refine ⟨0, by omega, rfl, ?_, ?_, ((Only.refl _ _).alloc _).alloc _⟩
    · rw [← h0.out]
      have := Blk.new (w.alloc (Obj.cells #[Value.int .u8 0, .int .u8 0, .int .u8 0, .int .u8 0, .int .u8 0, .int .u8 0, .int .u8 0, .int .u8 0] 374)) 374 #[Value.int .u8 0, .int .u8 0, .int .u8 0, .int .u8 0, .int .u8 0, .int .u8 0, .int .u8 0, .int .u8 0]
      simpa using this
    · rw [← h0.out]; exact (Blk.new w _ _).alloc _
  case round =>
    obtain ⟨k, hk, rfl, hb, hb0, ho⟩ := hrel
    by_cases hlt : k < 8
    · obtain ⟨z, hz⟩ := leArr_cell n k k hlt
      have hc := hb.cell_ hz
      have hf := hb.frozen k
      have HB := Lib.hid hb
      have HB0 := Lib.hid hb0
      clear hb hz hb0
      go_wp2
      go_roundw
      case rel =>
        refine ⟨k + 1, by omega, by go_num, ?_, HB0.out.far (by simp) _, ho.setCell (.inr (by simp)) _⟩
        have := HB.out.set_ k (byt (leByte n k))
        rw [leArr_set n k hlt, byt_leByte] at this
        exact this
      case measure => simp [intOf]; omega
    · have hk8 : k = 8 := by omega
      subst hk8
      have hs := Lib.hid (leArr_size n 8)
      have HB := Lib.hid hb
      have HB0 := Lib.hid hb0
      have HO := Lib.hid ho
      clear hb hb0 ho
      go_wp2_with (first
        | (refine wpList_load_row rfl 374 _ rfl (w.heap.size + 1) rfl 374 (leArr n 8) (0, 0) _ HB.out Tryz.underlying374 rfl (by rw [hs.out]; kernel_rfl) ?_)
        | (refine wpList_store_row rfl 374 _ _ rfl w.heap.size (leArr n 8) rfl rfl 374 (leArr n 0) HB0.out (by rw [hs.out]; kernel_rfl) (by rw [hs.out, leArr_size]) (leArr_one n 8) ?_))
      refine bodyPost_ret (results_cell_row rfl _ _ w.heap.size 374 (leArr n 8) (0, 0) _ rfl (HB0.out.setRow (leArr n 8)) Tryz.underlying374 rfl (by rw [hs.out]; kernel_rfl)) rfl ⟨rfl, HO.out.setRow (.inr (by simp)) _⟩
end Go.Proofs.YtoohpcomnhfgpaaGreat
end
