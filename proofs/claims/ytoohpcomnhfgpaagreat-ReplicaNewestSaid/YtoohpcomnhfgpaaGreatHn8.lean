/- Texts of mine, one behind the other: GvA, GvB, Rgo, TbXe, GvC, TbXr, Rgi, OpenT, OpenE, OpenN, SlG, GvD, StL. No statement of the seat is proved here. -/
import Derived.Test.YtoohpcomnhfgpaaGreatHn6
import Derived.Test.YtoohpcomnhfgpaaGreatHn1
import Derived.RangeFuncBox
import Derived.RangeFuncNested
import Derived.RangeFuncBound
import Derived.RangeFuncCalls
import Derived.RangeFuncLeaves
import Derived.Shelf.Abstract
import Derived.Shelf.RegionOpen
import Derived.OwnWalkIn
import Derived.TacticsInMore
import Derived.LoopNIn
import Derived.LoopIn
import Derived.Test.YtoohpcomnhfgpaaGreatHn4
import Derived.Test.YtoohpcomnhfgpaaGreatHn5
import Derived.OrdersIn
import Derived.Test.YtoohpcomnhfgpaaGreatHn2
import Derived.LoopTactic
import Derived.Deep.RegionHeld3
section
namespace Go.Proofs.YtoohpcomnhfgpaaGreat
open Go.RowKit
set_option maxRecDepth 100000
set_option linter.all false
def prs (l : List En) : List (Pr En) := l.map fun e => ⟨e.k, e⟩
theorem prs_length (l : List En) : (prs l).length = l.length := by simp [prs]
theorem prs_get (l : List En) (i : Nat) (hi : i < (prs l).length) : (prs l)[i] = ⟨(l[i]'(by rwa [prs_length] at hi)).k, l[i]'(by rwa [prs_length] at hi)⟩ := by simp [prs]
theorem ris_prs {l : List En} (h : Ris (prs l)) : RisE l := by
  refine List.pairwise_iff_getElem.2 fun i j hi hj hij => ?_
  have := h i j (by rwa [prs_length]) (by rwa [prs_length]) hij
  simpa [prs] using this
theorem has_prs (l : List En) (x : ByteArray) : has (prs l) x = hasE l x := by
  unfold has hasE prs
  rw [List.any_map]
  rfl
theorem rnk_cons (p : Pr En) (l : List (Pr En)) (x : ByteArray) : rnk (p :: l) x = rnk l x + if lt_ p.k x = true then 1 else 0 := by
  unfold rnk
  rw [List.countP_cons]
theorem put_prs (e : En) : ∀ l : List En, RisE l → putL (prs l) e.k e = prs (setE e l)
  | [], _ => by simp [prs, putL, setE, rnk, has]
  | p :: l, h => by
    have h' := List.pairwise_cons.1 h
    have ih := put_prs e l h'.2
    have e1 : prs (p :: l) = ⟨p.k, p⟩ :: prs l := rfl
    unfold setE
    by_cases hp : lt_ p.k e.k = true
    · rw [if_pos hp, e1]
      have hr : rnk (⟨p.k, p⟩ :: prs l) e.k = rnk (prs l) e.k + 1 := by rw [rnk_cons]; simp [hp]
      have hh : has ((⟨p.k, p⟩ : Pr En) :: prs l) e.k = has (prs l) e.k := by
        unfold has
        rw [List.any_cons]
        simp [lt_ne hp]
      show _ = (⟨p.k, p⟩ : Pr En) :: prs (setE e l)
      rw [← ih]
      unfold putL
      rw [hr, hh]
      cases has (prs l) e.k <;> simp
    · have hpf : lt_ p.k e.k = false := by simpa using hp
      rw [if_neg hp, e1]
      have hall : ∀ y ∈ l, lt_ y.k e.k = false ∧ y.k ≠ e.k := by
        intro y hy
        have hxy := h'.1 y hy
        constructor
        · cases hz : lt_ y.k e.k with
          | false => rfl
          | true => have := lt_tr hxy hz; rw [hpf] at this; cases this
        · intro hz; rw [hz] at hxy; rw [hpf] at hxy; cases hxy
      have hr0 : rnk (prs l) e.k = 0 := by
        unfold rnk
        refine List.countP_eq_zero.2 fun y hy => ?_
        obtain ⟨z, hz, rfl⟩ := List.mem_map.1 hy
        simp [(hall z hz).1]
      have hr : rnk (⟨p.k, p⟩ :: prs l) e.k = 0 := by rw [rnk_cons, hr0]; simp [hpf]
      have hno : has (prs l) e.k = false := by
        rw [has_prs]
        cases hz : hasE l e.k with
        | false => rfl
        | true =>
          obtain ⟨i, hi, hk, _⟩ := hasE_get hz
          exact absurd hk (hall _ (List.getElem_mem hi)).2
      have hf : l.filter (fun y => !decide (y.k = e.k)) = l := List.filter_eq_self.2 fun y hy => by simp [(hall y hy).2]
      unfold putL
      rw [hr]
      by_cases hk : p.k = e.k
      · have hh : has ((⟨p.k, p⟩ : Pr En) :: prs l) e.k = true := by simp [has, hk]
        rw [if_pos hh, List.filter_cons_of_neg (by simp [hk]), hf]
        rfl
      · have hh : has ((⟨p.k, p⟩ : Pr En) :: prs l) e.k = false := by
          have : has ((⟨p.k, p⟩ : Pr En) :: prs l) e.k = (decide (p.k = e.k) || has (prs l) e.k) := rfl
          rw [this, hno]; simp [hk]
        rw [if_neg (by rw [hh]; simp), List.filter_cons_of_pos (by simp [hk]), hf]
        rfl
theorem get_prs {l : List En} (h : Ris (prs l)) (x : ByteArray) : Se.getL (prs l) x = (lookE l x).getD enZero := by
  unfold Se.getL
  by_cases hs : has (prs l) x = true
  · rw [if_pos hs]
    have hat := (has_at h x).symm
    rw [hs] at hat
    simp only [Bool.and_eq_true, decide_eq_true_eq] at hat
    obtain ⟨hlt, _, hk⟩ := hat
    rw [List.getElem?_eq_getElem hlt]
    rw [prs_get] at hk ⊢
    dsimp only at hk
    have := look_mem (ris_prs h) (List.getElem_mem (by rwa [prs_length] at hlt))
    rw [hk] at this
    rw [this]
    rfl
  · rw [if_neg hs]
    have : lookE l x = none := by
      refine List.find?_eq_none.2 fun y hy => ?_
      have hn : hasE l x = false := by rw [← has_prs]; simpa using hs
      simpa using hasE_not hn y hy
    rw [this]
    rfl
structure Sh (w : World) (s tb : Nat) : Prop where
  c0 : w.cell? ⟨s, 0, none⟩ = some (.pointer (some ⟨tb, 0, none⟩))
  c2 : w.cell? ⟨s, 2, none⟩ = some (.pointer none)
theorem Sh.keep {w w' : World} {s tb : Nat} {S : Nat → Prop} (h : Sh w s tb) (o : Only S w w') (hn : ¬ S s) : Sh w' s tb := by
  have hs : s < w.heap.size := by
    obtain ⟨b, hb⟩ : ∃ o, w.heap[s]? = some o := by
      have := h.c0
      unfold World.cell? at this
      cases ho : w.heap[s]? with
      | none => rw [ho] at this; cases this
      | some o => exact ⟨o, rfl⟩
    exact (Array.getElem?_eq_some_iff.1 hb).1
  exact ⟨(o.cell (p := ⟨s, 0, none⟩) hs hn).trans h.c0, (o.cell (p := ⟨s, 2, none⟩) hs hn).trans h.c2⟩
set_option maxHeartbeats 800000 in
theorem sh_of (s tb : Nat) (x : ByteArray) (w : World) (h : Sh w s tb) :
    Calls Tryz.prog 201 #[.pointer (some ⟨s, 0, none⟩), .string x] w fun e w' => e = .returned (.pointer (some ⟨s, 0, none⟩)) ∧ w = w' := by
  have c2 := h.c2
  clear h
  go_enter Tryz.func201, Tryz.ntmps201
  go_wp2_with fail
  refine wp_loop_rounds 1 ?_
  rw [rounds_succ]
  go_wp2_with fail
  go_ret
  exact ⟨rfl, rfl⟩
end Go.Proofs.YtoohpcomnhfgpaaGreat
end
section
namespace Go.Proofs.YtoohpcomnhfgpaaGreat
open Go.RowKit
set_option maxRecDepth 100000
set_option linter.all false
set_option maxHeartbeats 3200000 in
theorem sh_get (B : World) (s tb : Nat) (l : List En) (v : Value) (x : ByteArray) (e : En) (he : (lookE l x).getD enZero = e) (w : World) (h : Sh w s tb) (ht : Se.Tb B tb 4096 (prs l) v w) :
    Calls Tryz.prog 195 #[.pointer (some ⟨s, 0, none⟩), .string x] w fun E w' => E = .returned (.tuple #[.agg #[.string e.k, .string e.v, .bool e.d, .int .i64 e.s.c, .int .i64 e.s.s, .int .i64 e.a.c, .int .i64 e.a.s, .int .i64 e.p, .int .i64 e.g], .bool (hasE l x)]) ∧ Only none_ w w' := by
  have O0 := Lib.hid ((Only.refl none_ w).alloc (.cells #[.string ⟨#[]⟩, .string ⟨#[]⟩, .bool false, .int .i64 0, .int .i64 0, .int .i64 0, .int .i64 0, .int .i64 0, .int .i64 0] 82))
  have B0 := Lib.hid (Blk.new w 82 #[.string ⟨#[]⟩, .string ⟨#[]⟩, .bool false, .int .i64 0, .int .i64 0, .int .i64 0, .int .i64 0, .int .i64 0, .int .i64 0])
  have H1 := Lib.hid (h.keep O0.out (fun h => h))
  have c0 := H1.out.c0
  have HG := Se.tb_get B tb 4096 (prs l) v x _ (ht.keep O0.out)
  rw [get_prs ht.rs, he, has_prs] at HG
  generalize hasE l x = hs at HG ⊢
  have HGG := Lib.hid HG
  obtain ⟨k, vv, d, ⟨sc, ss⟩, ⟨ac, as_⟩, p, g⟩ := e
  dsimp only at HGG ⊢
  clear h ht HG he
  go_enter Tryz.func195, Tryz.ntmps195
  go_wp2_with (first
    | (go_at_call 201; refine (sh_of s tb x _ H1.out).mono ?_; rintro E w1 ⟨rfl, rfl⟩)
    | (go_at_call 76; refine HGG.out.mono ?_; rintro E w1 ⟨rfl, o1⟩
       have O1 := Lib.hid (O0.out.trans o1)
       have B1 : Hid (Blk w1 w.heap.size 82 #[.string ⟨#[]⟩, .string ⟨#[]⟩, .bool false, .int .i64 0, .int .i64 0, .int .i64 0, .int .i64 0, .int .i64 0, .int .i64 0]) := B0.out.only o1 (fun h => h)
       clear o1)
    | (refine wpList_store_row rfl 82 _ _ rfl w.heap.size #[.string (⟨k, vv, d, ⟨sc, ss⟩, ⟨ac, as_⟩, p, g⟩ : En).k, .string (⟨k, vv, d, ⟨sc, ss⟩, ⟨ac, as_⟩, p, g⟩ : En).v, .bool (⟨k, vv, d, ⟨sc, ss⟩, ⟨ac, as_⟩, p, g⟩ : En).d, .int .i64 (⟨k, vv, d, ⟨sc, ss⟩, ⟨ac, as_⟩, p, g⟩ : En).s.c, .int .i64 (⟨k, vv, d, ⟨sc, ss⟩, ⟨ac, as_⟩, p, g⟩ : En).s.s, .int .i64 (⟨k, vv, d, ⟨sc, ss⟩, ⟨ac, as_⟩, p, g⟩ : En).a.c, .int .i64 (⟨k, vv, d, ⟨sc, ss⟩, ⟨ac, as_⟩, p, g⟩ : En).a.s, .int .i64 (⟨k, vv, d, ⟨sc, ss⟩, ⟨ac, as_⟩, p, g⟩ : En).p, .int .i64 (⟨k, vv, d, ⟨sc, ss⟩, ⟨ac, as_⟩, p, g⟩ : En).g] rfl rfl _ _ B1.out (by kernel_rfl) rfl (en_cells_one _) ?_))
  refine bodyPost_ret (results_cell_tmp rfl _ _ w.heap.size 82 #[.string (⟨k, vv, d, ⟨sc, ss⟩, ⟨ac, as_⟩, p, g⟩ : En).k, .string (⟨k, vv, d, ⟨sc, ss⟩, ⟨ac, as_⟩, p, g⟩ : En).v, .bool (⟨k, vv, d, ⟨sc, ss⟩, ⟨ac, as_⟩, p, g⟩ : En).d, .int .i64 (⟨k, vv, d, ⟨sc, ss⟩, ⟨ac, as_⟩, p, g⟩ : En).s.c, .int .i64 (⟨k, vv, d, ⟨sc, ss⟩, ⟨ac, as_⟩, p, g⟩ : En).s.s, .int .i64 (⟨k, vv, d, ⟨sc, ss⟩, ⟨ac, as_⟩, p, g⟩ : En).a.c, .int .i64 (⟨k, vv, d, ⟨sc, ss⟩, ⟨ac, as_⟩, p, g⟩ : En).a.s, .int .i64 (⟨k, vv, d, ⟨sc, ss⟩, ⟨ac, as_⟩, p, g⟩ : En).p, .int .i64 (⟨k, vv, d, ⟨sc, ss⟩, ⟨ac, as_⟩, p, g⟩ : En).g] _ rfl (B1.out.setRow _) Tryz.underlying82 rfl (by kernel_rfl) (.bool hs) rfl) rfl ?_
  exact ⟨rfl, O1.out.setRow (.inr (Nat.le_refl _)) _⟩
theorem tb_put_ok (B : World) (g : Nat) (l : List En) (v : Value) (e : En) (w : World) (h : Se.Tb B g 4096 (prs l) v w) (hr : l.length < 4096) :
    Calls Tryz.prog 158 #[.pointer (some ⟨g, 0, none⟩), .string e.k, .agg #[.string e.k, .string e.v, .bool e.d, .int .i64 e.s.c, .int .i64 e.s.s, .int .i64 e.a.c, .int .i64 e.a.s, .int .i64 e.p, .int .i64 e.g]] w fun E w' => E = .returned (.int .i64 0) ∧ Se.LeftT B g 4096 v w (prs (setE e l)) w' := by
  rw [← put_prs e l (ris_prs h.rs)]
  by_cases hs : has (prs l) e.k = true
  · exact Se.tb_put_has B g 4096 (prs l) v e.k e w h hs
  · exact Se.tb_put_new B g 4096 (prs l) v e.k e w h (by simpa using hs) (by rw [prs_length]; omega)
set_option maxHeartbeats 3200000 in
theorem sh_put (B : World) (s tb : Nat) (l : List En) (v : Value) (e : En) (w : World) (h : Sh w s tb) (ht : Se.Tb B tb 4096 (prs l) v w) (hr : l.length < 4096) :
    Calls Tryz.prog 157 #[.pointer (some ⟨s, 0, none⟩), .agg #[.string e.k, .string e.v, .bool e.d, .int .i64 e.s.c, .int .i64 e.s.s, .int .i64 e.a.c, .int .i64 e.a.s, .int .i64 e.p, .int .i64 e.g]] w fun E w' => E = .returned (.tuple #[]) ∧ Se.LeftT B tb 4096 v w (prs (setE e l)) w' := by
  have O0 := Lib.hid ((Only.refl none_ w).alloc (.cells #[.string e.k, .string e.v, .bool e.d, .int .i64 e.s.c, .int .i64 e.s.s, .int .i64 e.a.c, .int .i64 e.a.s, .int .i64 e.p, .int .i64 e.g] 82))
  have B0 := Lib.hid (Blk.new w 82 #[.string e.k, .string e.v, .bool e.d, .int .i64 e.s.c, .int .i64 e.s.s, .int .i64 e.a.c, .int .i64 e.a.s, .int .i64 e.p, .int .i64 e.g])
  have H1 := Lib.hid (h.keep O0.out (fun h => h))
  have HP := Lib.hid (fun (w' : World) (o : Only none_ (w.alloc (.cells #[.string e.k, .string e.v, .bool e.d, .int .i64 e.s.c, .int .i64 e.s.s, .int .i64 e.a.c, .int .i64 e.a.s, .int .i64 e.p, .int .i64 e.g] 82)) w') => tb_put_ok B tb l v e w' ((ht.keep O0.out).keep o) hr)
  have HS := Lib.hid (fun (w' : World) (o : Only none_ (w.alloc (.cells #[.string e.k, .string e.v, .bool e.d, .int .i64 e.s.c, .int .i64 e.s.s, .int .i64 e.a.c, .int .i64 e.a.s, .int .i64 e.p, .int .i64 e.g] 82)) w') => (H1.out.keep o (fun h => h)).c0)
  have HLA := Lib.hid (fun (w' w2 : World) (l' : List (Pr En)) (o : Only none_ (w.alloc (.cells #[.string e.k, .string e.v, .bool e.d, .int .i64 e.s.c, .int .i64 e.s.s, .int .i64 e.a.c, .int .i64 e.a.s, .int .i64 e.p, .int .i64 e.g] 82)) w') (h : Se.LeftT B tb 4096 v w' l' w2) => Se.LeftT.after0 (O0.out.trans o) h)
  generalize setE e l = l2 at HP ⊢
  have S1 := Lib.hid (H1.out.c0)
  clear h ht hr
  go_enter Tryz.func157, Tryz.ntmps157
  go_wp2_with (first
    | (go_at_call 201; refine (sh_of s tb _ _ H1.out).mono ?_; rintro E w1 ⟨rfl, rfl⟩))
  (refine wp_region_free_tail (fun w' => Only none_ (w.alloc (.cells #[.string e.k, .string e.v, .bool e.d, .int .i64 e.s.c, .int .i64 e.s.s, .int .i64 e.a.c, .int .i64 e.a.s, .int .i64 e.p, .int .i64 e.g] 82)) w') (Only none_) (F := ?_) (by kernel_rfl) 7 23 (by rfl) (by kernel_rfl) (fun x => ?_) ((Only.refl none_ _).drew) ?_; rotate_left; (· (simp only [List.take_succ_cons, List.take_zero, putsL, Act.put, List.setIfInBounds_toArray, List.set_cons_zero, List.set_cons_succ, Nat.reduceAdd]; exact rfl)); simp only [List.take_succ_cons, List.take_zero, List.drop_succ_cons, List.drop_zero])
  repeat (first
    | ((first | refine fr_value (c := ?_) (by rfl) (fun w => Only.refl none_ w) (fun x w0 hS hk => ?_) ?_ | refine fr_value_if (c := ?_) (by rfl) (by rfl) (by rfl) (fun w => Only.refl none_ w) (fun x w0 hS hk => ?_) ?_); rotate_left; (· (have hk2 := hk; (try simp [knAll, Region.binds] at hk2); have hc := HS.out _ hS; obtain ⟨t0, t1, t2, t3, t4, t5, t6, t7, t8⟩ := nine_of (B0.out.only hS (fun h => h)); go_simp; try (with_reducible rfl))); try simp only [List.nil_append, List.cons_append]))
  (refine fr_end ?_; intro x w9 hS hk)
  have e3 := kn_end_at 3 hk (by rfl)
  have e5 := kn_end_at 5 hk (by rfl)
  have e6 := kn_end_at 6 hk (by rfl)
  rw [Nat.zero_add] at e3 e5 e6
  rw [e3, e5, e6]
  have O9 := Lib.hid hS
  clear hk hS e3 e5 e6
  go_wp2_with (first
    | (go_at_call 158; refine (HP.out _ O9.out).mono ?_; rintro E w2 ⟨rfl, hL⟩
       have HL2 := Lib.hid (HLA.out _ _ _ O9.out hL)
       clear hL))
  go_end0
  exact ⟨rfl, HL2.out⟩
set_option maxHeartbeats 1600000 in
theorem tb_filled (B : World) (w : World) (hB : Only none_ B w) :
    Calls Tryz.prog 199 #[.slice none 0 0] w fun E w' => ∃ g, E = .returned (.pointer (some ⟨g, 0, none⟩)) ∧ w.heap.size ≤ g ∧ Se.Tb B g 4096 (prs []) (.slice none 0 0) w' ∧ Only none_ w w' := by
  have HN := Lib.hid (Se.tb_new_yes B 4096 w hB (by decide) (by decide))
  clear hB
  go_enter Tryz.func199, Tryz.ntmps199
  go_wp2_with (first
    | (go_at_call 112; refine HN.out.mono ?_; rintro E w1 ⟨g, rfl, hg, ht, o1⟩
       have F := Lib.hid (And.intro hg (And.intro ht o1))
       clear hg ht o1))
  refine wp_loop_rounds 1 ?_
  rw [rounds_succ]
  go_wp2_with fail
  go_ret
  exact ⟨g, rfl, F.out.1, F.out.2.1, F.out.2.2⟩
set_option maxHeartbeats 1600000 in
theorem sh_new (B : World) (w : World) (hB : Only none_ B w) :
    Calls Tryz.prog 155 #[] w fun E w' => ∃ g, E = .returned (.agg #[.pointer (some ⟨g, 0, none⟩), .string ⟨#[]⟩, .pointer none]) ∧ w.heap.size ≤ g ∧ Se.Tb B g 4096 (prs []) (.slice none 0 0) w' ∧ Only none_ w w' := by
  have O0 := Lib.hid ((Only.refl none_ w).alloc (.cells #[.pointer none, .string ⟨#[]⟩, .pointer none] 260))
  have B0 := Lib.hid (Blk.new w 260 #[.pointer none, .string ⟨#[]⟩, .pointer none])
  have HF := Lib.hid (tb_filled B _ (hB.trans O0.out))
  have HBS := Lib.hid hB.size
  clear hB
  go_enter Tryz.func155, Tryz.ntmps155
  go_wp2_with (first
    | (go_at_call 199; refine HF.out.mono ?_; rintro E w1 ⟨g, rfl, hg, ht, o1⟩
       have O1 := Lib.hid (O0.out.trans o1)
       have B1 : Hid (Blk w1 w.heap.size 260 #[.pointer none, .string ⟨#[]⟩, .pointer none]) := B0.out.only o1 (fun h => h)
       have F := Lib.hid (And.intro hg ht)
       clear hg ht o1)
    | (refine wpList_store_row rfl 260 _ _ rfl w.heap.size #[.pointer (some ⟨g, 0, none⟩), .string ⟨#[]⟩, .pointer none] rfl rfl _ _ B1.out (by kernel_rfl) rfl (by simp [Value.oneCell']) ?_))
  have oS : Only (one w.heap.size) w1 (w1.setRow w.heap.size #[.pointer (some ⟨g, 0, none⟩), .string ⟨#[]⟩, .pointer none]) := only_row _ _
  have hgs : w.heap.size < g := by have h1 := F.out.1; simp only [World.size_alloc] at h1; omega
  have hbs := O0.out.size
  refine bodyPost_ret (results_cell_row rfl _ _ w.heap.size 260 _ (0, 0) _ rfl (B1.out.setRow _) Tryz.underlying260 rfl (by kernel_rfl)) rfl ?_
  refine ⟨g, rfl, by omega, ?_, O1.out.setRow (.inr (Nat.le_refl _)) _⟩
  have hB' : B.heap.size ≤ w.heap.size := HBS.out
  exact F.out.2.apart oS (fun k hk e => by
    have e' : k = w.heap.size := e
    rcases hk with h1 | h1
    · omega
    · cases h1) (fun k e => by have e' : k = w.heap.size := e; omega)
end Go.Proofs.YtoohpcomnhfgpaaGreat
end
section
namespace Go.Proofs.YtoohpcomnhfgpaaGreat
open Go.RowKit Go.Shelf
set_option maxRecDepth 100000
set_option linter.all false
structure Kc (T : World → Nat → Prop) (W W' : World) : Prop where
  size : W.heap.size ≤ W'.heap.size
  cells : ∀ b o, W.heap[b]? = some o → o.isCells = true → ¬ T W b → W'.heap[b]? = some o
  grows : ∀ b, T W' b → T W b ∨ W.heap.size ≤ b
def Stab (T : World → Nat → Prop) (B : Nat) : Prop := ∀ W W' : World, (∀ k, k < B → W'.heap[k]? = W.heap[k]?) → ∀ b, T W' b → T W b
section
variable {T : World → Nat → Prop} {A B C W W' : World} {N : Nat}
theorem lt_of_obj {k : Nat} {o : Obj} (h : W.heap[k]? = some o) : k < W.heap.size := (Array.getElem?_eq_some_iff.1 h).1
theorem Kc.refl (T : World → Nat → Prop) (W : World) : Kc T W W := ⟨Nat.le_refl _, fun _ _ h _ _ => h, fun _ h => .inl h⟩
theorem Kc.trans (h : Kc T A B) (k : Kc T B C) : Kc T A C where
  size := Nat.le_trans h.size k.size
  cells b o ho hc hn := k.cells b o (h.cells b o ho hc hn) hc fun ht => (h.grows b ht).elim hn fun hb => by have := lt_of_obj ho; omega
  grows b hb := (k.grows b hb).elim (h.grows b) fun hs => .inr (Nat.le_trans h.size hs)
theorem cell_obj {p : Addr} {v : Value} (h : W.cell? p = some v) : ∃ o, W.heap[p.block]? = some o ∧ o.isCells = true := by
  unfold World.cell? at h
  cases ho : W.heap[p.block]? with
  | none => rw [ho] at h; cases h
  | some o => exact ⟨o, rfl, by rw [ho] at h; cases o <;> first | rfl | cases h⟩
theorem Kc.cell (h : Kc T W W') {p : Addr} {v : Value} (hc : W.cell? p = some v) (hn : ¬ T W p.block) : W'.cell? p = some v := by
  obtain ⟨o, ho, ho'⟩ := cell_obj hc
  rw [World.cell?_of_block ((h.cells _ o ho ho' hn).trans ho.symm)]
  exact hc
theorem Kc.not (h : Kc T W W') {b : Nat} (hn : ¬ T W b) (hb : b < W.heap.size) : ¬ T W' b := fun ht => (h.grows b ht).elim hn fun hs => by omega
theorem Kc.blk (h : Kc T W W') {b : Nat} {t : TypeId} {cs : Array Value} (hb : Blk W b t cs) (hn : ¬ T W b) : Blk W' b t cs := h.cells b _ hb rfl hn
theorem Kc.cel (h : Kc T W W') {v : Value} {n k : Nat} {cs : List Value} (hc : Cel W (fun b => ¬ T W b) v n k cs) : Cel W' (fun b => ¬ T W' b) v n k cs := by
  obtain ⟨A, c, rfl, h0, h1, h2, h3, h4⟩ := hc
  refine ⟨A, c, rfl, h0, h1, h2, h3, fun hp => ?_⟩
  obtain ⟨b, off, rfl, hs, hlt, hc⟩ := h4 hp
  exact ⟨b, off, rfl, h.not hs hlt, Nat.lt_of_lt_of_le hlt h.size, fun j u hu => h.cell (p := ⟨b, off + j, none⟩) (hc j u hu) hs⟩
theorem Kc.of_grown (hT : Stab T N) {row : Option Nat} (hg : W.grownBy W' row) (hN : N ≤ W.heap.size) (hr : ∀ r, row = some r → N ≤ r ∧ ∃ o : Obj, W.heap[r]? = some o ∧ o.isCells = false) : Kc T W W' where
  size := hg.size
  cells b o ho hc _ := (hg.block b (lt_of_obj ho) (fun e => by
    obtain ⟨_, o', ho', hc'⟩ := hr b e.symm
    rw [ho] at ho'
    cases ho'
    rw [hc] at hc'
    cases hc')).trans ho
  grows b hb := .inl (hT W W' (fun k hk => hg.block k (by omega) (fun e => by have := (hr k e.symm).1; omega)) b hb)
theorem Kc.alloc (hT : Stab T N) (hN : N ≤ W.heap.size) (o : Obj) : Kc T W (W.alloc o) := Kc.of_grown hT (World.grownBy_alloc W o none) hN (fun r e => by cases e)
theorem Kc.putObj (hT : Stab T N) {l : Nat} {o : Obj} (o' : Obj) (hN : N ≤ l) (hl : W.heap[l]? = some o) (ho : o.isCells = false) : Kc T W (W.putObj l o') :=
  Kc.of_grown hT (grownBy_putObj' W l o') (by have := lt_of_obj hl; omega) (fun r e => by cases e; exact ⟨hN, o, hl, ho⟩)
theorem Kc.of_only {S : Nat → Prop} (o : Only S W W') (hS : ∀ b, b < W.heap.size → S b → T W b) (hg : ∀ b, T W' b → T W b ∨ W.heap.size ≤ b) : Kc T W W' :=
  ⟨o.size, fun b x hx _ hn => (o.block b (lt_of_obj hx) (fun hs => hn (hS b (lt_of_obj hx) hs))).trans hx, hg⟩
theorem Stab.only {S : Nat → Prop} (hT : Stab T N) (o : Only S W W') (hN : N ≤ W.heap.size) (hS : ∀ k, k < N → ¬ S k) (b : Nat) (hb : T W' b) : T W b := hT W W' (fun k hk => o.block k (by omega) (hS k hk)) b hb
theorem Kc.then {S : Nat → Prop} (h : Kc T A W) (o : Only S W W') (hS : ∀ b, b < A.heap.size → S b → T W b) (hg : ∀ b, T W' b → T W b ∨ A.heap.size ≤ b) : Kc T A W' :=
  ⟨Nat.le_trans h.size o.size, fun b x hx hc hn => (o.block b (lt_of_obj (h.cells b x hx hc hn)) (fun hs => h.not hn (lt_of_obj hx) (hS b (lt_of_obj hx) hs))).trans (h.cells b x hx hc hn),
    fun b hb => (hg b hb).elim (h.grows b) .inr⟩
def Ko (l : Nat) (W W' : World) : Prop := ∀ k o, k ≠ l → W.heap[k]? = some o → o.isCells = false → W'.heap[k]? = some o
end
def Goes {α : Type} (P : Program) (g : Nat) (lb : Array Value) (encs : α → Array Value) (Kp : Nat → World → World → Prop) (xs : List α) (w : World) : Prop :=
  ∀ (l : Nat) (J : List α → World → Prop) (W : World), Below w.heap.size w W → l < W.heap.size → OwnFrom W.heap.size J →
    (∀ pre x W1, J pre W1 → pre ++ [x] <+: xs → ∀ m, YieldAt Fence.wide m P l (encs x) W1 fun e W' => e = .returned (.bool true) ∧ J (pre ++ [x]) W' ∧ Kp l W1 W') →
    J [] W → ∀ n, CallsIn Fence.wide n P g (#[.func (.yield l) #[] #[]] ++ lb) W fun e W' => (∃ v, e = .returned v) ∧ J xs W'
theorem roundIn_any {n : Nat} {P : Program} {l : Nat} {f : FuncId} {tmps : Array Value} {assign body : Code} {w : World} {R : Ending → World → Prop} (m : Nat) (h : RoundIn Fence.wide n P l f tmps assign body w R) : RoundIn Fence.wide m P l f tmps assign body w R :=
  ⟨h.1, fun c cs _ => h.2 c cs (room_wide _)⟩
def onPost {α : Type} (B : Nat) (Kp : World → World → Prop) (I : List α → World → Prop) (xs : List α) (X W : World) : Exit → Act → World → Prop
  | .normal, _, W' => KeepsFrom B W W' ∧ Kp X W' ∧ I xs W'
  | _, _, _ => False
theorem range_goes {α : Type} {n : Nat} {P : Program} {g : Operand} {ps : Array Tmp} {assign body : Code} {Q : Exit → Act → World → Prop} {a : Act} {w : World} {gf : Nat} {lb : Array Value}
    (hg : a.eval g = .func (.func gf) #[] lb) (eg : ∀ args w, (callFunc gf args).run P w = .ok (.enter gf args) w)
    {encs : α → Array Value} {Kp : Nat → World → World → Prop} {xs : List α} {w0 : World} (hseq : Goes P gf lb encs Kp xs w0) (hb0 : Below w0.heap.size w0 w) (hps : ∀ x, (encs x).size = ps.size)
    (hKt : ∀ {A B C : World}, Kp (w.heap.size + 1) A B → Kp (w.heap.size + 1) B C → Kp (w.heap.size + 1) A C)
    (hKb : ∀ (W : World) (r r' : Loop), W.heap[w.heap.size + 1]? = some (.loop r) → Kp (w.heap.size + 1) W (W.putObj (w.heap.size + 1) (.loop r')))
    (I : List α → World → Prop) (hI : OwnFrom w.heap.size I) (h0 : I [] w)
    (hround : ∀ (pre : List α) (x : α) (W : World), w.heap.size + 1 < W.heap.size → I pre W → pre ++ [x] <+: xs →
      assign.wpIn (Fence.wide.inRound (w.heap.size + 1)) 5 P (Exit.then (fun a' W' => KeepsFrom w.heap.size W W' ∧ I pre W' ∧
        ∀ r : Loop, (∃ r0, W'.heap[w.heap.size + 1]? = some (.loop r0)) → I pre (W'.putObj (w.heap.size + 1) (.loop r)) → body.wpIn (Fence.wide.inRound (w.heap.size + 1)) 5 P (onPost w.heap.size (Kp (w.heap.size + 1)) I (pre ++ [x]) W (W'.putObj (w.heap.size + 1) (.loop r))) a' (W'.putObj (w.heap.size + 1) (.loop r))) (fun _ _ _ => False))
        { tmps := (ps.zip (encs x)).foldl (fun t (p, v) => t.setIfInBounds p v) a.tmps, defers := [] } W)
    (hdone : ∀ (D : Nat) (W : World), w.heap.size ≤ D → I xs W → W.heap[D]? = some (.deferred (some [])) → Q .normal { a with defers := { target := .collected D, args := #[] } :: a.defers } W) :
    (Code.rangeFunc g ps assign body).wpIn Fence.wide (n + 1) P Q a w := by
  refine wpIn_rangeFunc fun fn _ => ?_
  generalize hL : w.heap.size + 1 = L at *
  obtain ⟨rc, hrc⟩ : ∃ rc : LoopState → Option Code → Obj, rc = fun st pe => .loop { state := st, pending := pe, fn, tmps := a.tmps, params := ps, assign, body, defers := w.heap.size } := ⟨_, rfl⟩
  have hrl : ∀ st pe, (rc st pe).isCells = false := fun st pe => by rw [hrc]; rfl
  let W1 := (w.alloc (.deferred (some []))).alloc (rc .ready none)
  have h11 : W1.heap.size = w.heap.size + 2 := by show ((w.alloc _).alloc _).heap.size = _; rw [World.size_alloc, World.size_alloc]
  have hl1 : W1.heap[L]? = some (rc .ready none) := by
    have := World.alloc_heap_new (w.alloc (.deferred (some []))) (rc .ready none)
    rw [World.size_alloc, hL] at this
    exact this
  have hd1 : W1.heap[w.heap.size]? = some (.deferred (some [])) := (Below.heap_alloc _ _ _ (by rw [World.size_alloc]; omega)).trans (World.alloc_heap_new w _)
  have hent : (Instr.enterLoop fn a.tmps ps assign body none).run P w = .ok (L, [{ target := .collected w.heap.size, args := #[] }]) W1 := by
    rw [run_enterLoop_outer, hL]
    show _ = Result.ok _ ((w.alloc _).alloc (rc .ready none))
    rw [hrc]
  -- what holds between two rounds
  let J : List α → World → Prop := fun pre W => I pre W ∧ W.heap[L]? = some (rc .ready none) ∧ W.heap[w.heap.size]? = some (.deferred (some []))
  have hJ : OwnFrom W1.heap.size J := fun s A B row h hgr hr => by
    have far : ∀ k o, k < W1.heap.size → A.heap[k]? = some o → B.heap[k]? = some o := fun k o hk ho => (hgr.block k (lt_of_obj ho) (fun e => by have := (hr k e.symm).1; omega)).trans ho
    exact ⟨hI s A B row h.1 hgr (fun r e => ⟨by have := (hr r e).1; omega, (hr r e).2⟩), far _ _ (by omega) h.2.1, far _ _ (by omega) h.2.2⟩
  refine ⟨L, _, W1, { target := .fn (.func gf) lb, args := #[.func (.yield L) #[] #[]] }, W1, gf, #[.func (.yield L) #[] #[]] ++ lb, W1, hent, ?_, fun _ _ => trivial, ?_, fun _ => Nat.le_add_left 1 n, ?_⟩
  · simp only [resolve, hg]
    simp [go_sem]
  · simp [invoke, go_sem, eg]
  · refine (hseq L J W1 (hb0.trans ((((Below.refl _ w).alloc (Nat.le_refl _) _).alloc (by simp) _).mono hb0.size)) (by omega) hJ ?_ ⟨hI.alloc _ (hI.alloc _ h0), hl1, hd1⟩ n).mono ?_
    · rintro pre x W ⟨hi, hl, hd⟩ hlen m
      have hlr := hl
      rw [hrc] at hlr
      have hy := run_yield (P := P) (args := encs x) hlr (hps x)
      refine ⟨fn, _, assign, body, hy, roundIn_any m (roundIn_of_wpIn trivial (wpIn_mono (hround pre x W (lt_of_obj hl) hi hlen) ?_))⟩
      rintro e a' W' hp
      cases e with
      | normal =>
        obtain ⟨ko, hi', hbody⟩ := hp
        have hl' := ko.same _ _ (by omega) hl (hrl _ _)
        have hd' := ko.same _ _ (Nat.le_refl _) hd rfl
        have hlt' := lt_of_obj hl'
        have hlr' := hl'
        rw [hrc] at hlr'
        refine ⟨_, run_beginRound hlr' rfl, ?_⟩
        obtain ⟨r2, hr2⟩ : ∃ r2 : Loop, r2 = { state := .busy, pending := none, fn, tmps := a.tmps, params := ps, assign, body, defers := w.heap.size } := ⟨_, rfl⟩
        have hi2 : I pre (W'.putObj L (.loop r2)) := hI.putObj _ hi' (by omega) hl' (hrl _ _)
        have hb := hbody r2 ⟨_, hlr'⟩ hi2
        have hl2 : (W'.putObj L (.loop r2)).heap[L]? = some (.loop r2) := World.putObj_heap_same hlt'
        have hd2 : (W'.putObj L (.loop r2)).heap[w.heap.size]? = some (.deferred (some [])) := (World.putObj_heap_other (by omega)).trans hd'
        rw [hr2] at hb hl2 hd2
        refine wpIn_mono hb ?_
        rintro e3 a3 W3 hp3
        cases e3 with
        | normal =>
          obtain ⟨ko3, kp3, hi3⟩ := hp3
          have hl3 := ko3.same _ _ (by omega) hl2 rfl
          have hd3 := ko3.same _ _ (Nat.le_refl _) hd2 rfl
          have hend := run_endRound (P := P) none hl3
          simp only [Option.isNone_none, if_true] at hend
          refine ⟨_, _, hend, rfl, ⟨hI.putObj _ hi3 (by omega) hl3 rfl, ?_, (World.putObj_heap_other (by omega)).trans hd3⟩, hKt kp3 (hKb W3 _ _ hl3)⟩
          rw [World.putObj_heap_same (lt_of_obj hl3), hrc]
        | ret => exact hp3.elim
        | exit id => exact hp3.elim
        | goto t => exact hp3.elim
        | panic ch => exact hp3.elim
        | outgrown => exact hp3.elim
      | ret => exact hp.elim
      | exit id => exact hp.elim
      | goto t => exact hp.elim
      | panic ch => exact hp.elim
      | outgrown => exact hp.elim
    · rintro e W2 ⟨⟨v, rfl⟩, hi, hl, hd⟩
      have hlr := hl
      rw [hrc] at hlr
      exact ⟨none, _, run_endLoop hlr (by simp), hdone w.heap.size _ (Nat.le_refl _) (hI.putObj _ hi (by omega) hl (hrl _ _)) ((World.putObj_heap_other (by omega)).trans hd)⟩
end Go.Proofs.YtoohpcomnhfgpaaGreat
end
section
namespace Go.Proofs.YtoohpcomnhfgpaaGreat.Se
open Go.RowKit Go.Shelf
set_option maxRecDepth 100000
set_option linter.all false
attribute [local go_sem] Oper.semAt_some
abbrev encP (x : Pr En) : Array Value := #[.string x.k, .agg #[.string x.v.k, .string x.v.v, .bool x.v.d, .int .i64 x.v.s.c, .int .i64 x.v.s.s, .int .i64 x.v.a.c, .int .i64 x.v.a.s, .int .i64 x.v.p, .int .i64 x.v.g]]
theorem pr_ten {W : World} {b off : Nat} {x : Pr En} (hc : ∀ j u, (prI x)[j]? = some u → W.cell? ⟨b, off + j, none⟩ = some u) :
    W.cell? ⟨b, off, none⟩ = some (.string x.k) ∧ W.cell? ⟨b, off + 1, none⟩ = some (.string x.v.k) ∧ W.cell? ⟨b, off + 2, none⟩ = some (.string x.v.v) ∧ W.cell? ⟨b, off + 3, none⟩ = some (.bool x.v.d) ∧ W.cell? ⟨b, off + 4, none⟩ = some (.int .i64 x.v.s.c) ∧ W.cell? ⟨b, off + 5, none⟩ = some (.int .i64 x.v.s.s) ∧ W.cell? ⟨b, off + 6, none⟩ = some (.int .i64 x.v.a.c) ∧ W.cell? ⟨b, off + 7, none⟩ = some (.int .i64 x.v.a.s) ∧ W.cell? ⟨b, off + 8, none⟩ = some (.int .i64 x.v.p) ∧ W.cell? ⟨b, off + 9, none⟩ = some (.int .i64 x.v.g) :=
  ⟨hc 0 _ rfl, hc 1 _ rfl, hc 2 _ rfl, hc 3 _ rfl, hc 4 _ rfl, hc 5 _ rfl, hc 6 _ rfl, hc 7 _ rfl, hc 8 _ rfl, hc 9 _ rfl⟩
set_option maxHeartbeats 6400000 in
theorem all1_goes (T : World → Nat → Prop) (N : Nat) (hT : Stab T N) (Bs : Nat) (A : Option Addr) (c L : Nat) (t : List (Pr En)) (hL : L = t.length) (ht : L ≤ 4096) (w : World) (hN : N ≤ w.heap.size)
    (hBs : Blk w Bs 241 #[.slice A L c]) (hcel : Cel w (fun b => ¬ T w b) (.slice A L c) L 10 (t.flatMap prI)) :
    Goes Tryz.prog 134 #[.pointer (some ⟨Bs, 0, none⟩)] encP (fun _ => Kc T) t w := by
  intro l J W hW _ hJ hY h0 n
  refine callsIn_wide.2 ((callsIn_wide (n := 5)).1 ?_)
  refine callsIn_of_wp Tryz.func134 rfl trivial ?_ rfl
  simp only [Tryz.ntmps134, List.append_toArray, List.size_toArray, List.length_cons, List.length_nil, Nat.reduceAdd, Nat.reduceSub, Array.replicate_succ, Array.replicate_zero, List.push_toArray, List.append_toArray, List.nil_append, List.cons_append]
  have hsz := hW.size
  have hB : W.cell? ⟨Bs, 0, none⟩ = some (.slice A L c) := (hW.cell (p := ⟨Bs, 0, none⟩) hBs.lt).trans (hBs.cell_ (i := 0) rfl)
  have HC : Hid (Cel W (fun b => ¬ T W b) (.slice A L c) L 10 (t.flatMap prI)) := by
    have h1 : ∀ b, T W b → T w b := hT w W (fun k hk => hW.block k (by omega))
    exact (hcel.only (Only.of_below (S := none_) hW) (fun _ _ h => h)).mono (fun b _ hb hbt => hb (h1 b hbt))
  have HL := Lib.hid hL
  have HJ := Lib.hid hJ
  have HY := Lib.hid hY
  have H0 := Lib.hid h0
  have HT := Lib.hid hT
  have HN : Hid (N ≤ W.heap.size) := Nat.le_trans hN hsz
  clear hcel hL hJ hY h0 hBs hT hN hsz hW
  gi_wp2
  gi_loopw [7] (fun i wr => ∃ k : Nat, k ≤ L ∧ i = .int .i64 k ∧ J (t.take k) wr ∧ Cel wr (fun b => ¬ T wr b) (.slice A L c) L 10 (t.flatMap prI) ∧ W.heap.size ≤ wr.heap.size)
    (fun i _ => L - (intOf i).toNat)
  case atStart => exact ⟨0, Nat.zero_le _, rfl, H0.out, HC.out, Nat.le_refl _⟩
  case round =>
    obtain ⟨k, hk, rfl, hJs, hcl, hsz⟩ := hrel
    by_cases hlt : k < L
    · have hkt : k < t.length := by have := HL.out; omega
      obtain ⟨b, off, rfl, hb, _, hc⟩ := prI_at hcl k hkt HL.out
      have HS : Hid (t.take k ++ [t[k]] = t.take (k + 1)) := (List.take_succ_eq_append_getElem hkt).symm
      obtain ⟨x, hx⟩ : ∃ x, t[k] = x := ⟨_, rfl⟩
      rw [hx] at hc HS
      have hNr : N ≤ wr.heap.size := Nat.le_trans HN.out hsz
      have KA := Lib.hid (Kc.alloc HT.out hNr (.cells (prA x) 240))
      have CA := Lib.hid (KA.out.cel hcl)
      obtain ⟨fn, tmps, assign, body, hy, hR⟩ := HY.out _ x (wr.alloc (.cells (prA x) 240)) (HJ.out _ _ _ none hJs (World.grownBy_alloc wr _ none) (fun r e => by cases e)) (by rw [HS.out]; exact List.take_prefix _ _) (5 - 1)
      obtain ⟨h0, h1, h2, h3, h4, h5, h6, h7, h8, h9⟩ := pr_ten hc
      have SZ : Hid (W.heap.size ≤ (wr.alloc (.cells (prA x) 240)).heap.size) := by rw [Hid, World.size_alloc]; omega
      rw [HS.out] at hR
      have HRR := Lib.hid hR
      obtain ⟨kk, vk, vv, vd, ⟨sc, ss⟩, ⟨ac, as_⟩, vp, vg⟩ := x
      dsimp only [prA, encP] at hy h0 h1 h2 h3 h4 h5 h6 h7 h8 h9
      have hki : (k : Int) < (L : Int) := by omega
      clear hJs hc hR hcl hb
      gi_wp2
      refine HRR.out.mono ?_
      rintro e W3 ⟨rfl, hJ3, hk3⟩
      have C3 := Lib.hid (hk3.cel CA.out)
      have S3 : Hid (W.heap.size ≤ W3.heap.size) := Nat.le_trans SZ.out hk3.size
      have J3 := Lib.hid hJ3
      clear hJ3 hk3
      gi_wp2
      go_roundw
      case rel => exact ⟨k + 1, by omega, by simp, J3.out, C3.out, S3.out⟩
      case measure => simp [intOf]; omega
    · obtain rfl : L = k := by omega
      have HT2 : Hid (t.take L = t) := by rw [Hid, HL.out, List.take_length]
      rw [HT2.out] at hJs
      have JJ := Lib.hid hJs
      clear hJs hcl
      gi_wp2
      go_end0
      exact ⟨⟨_, rfl⟩, JJ.out⟩
end Go.Proofs.YtoohpcomnhfgpaaGreat.Se
end
section
namespace Go.Proofs.YtoohpcomnhfgpaaGreat
open Go.RowKit Go.Shelf
set_option maxRecDepth 100000
set_option linter.all false
attribute [local go_sem] Oper.semAt_some
def Kr (T : World → Nat → Prop) (l : Nat) (W W' : World) : Prop := Kc T W W' ∧ Ko l W W'
theorem Kr.trans {T : World → Nat → Prop} {l : Nat} {A B C : World} (h : Kr T l A B) (k : Kr T l B C) : Kr T l A C :=
  ⟨h.1.trans k.1, fun i o hi ho hc => k.2 i o hi (h.2 i o hi ho hc) hc⟩
theorem own_new {α : Type} {N : Nat} {J : α → World → Prop} {x : α} {A C : World} (hJ : OwnFrom N J) (o : Only none_ A C) (h : J x A) : J x C :=
  hJ x A C none h ⟨o.os, o.tape, o.output, o.size, fun k hk _ => o.block k hk (fun h => h)⟩ (fun r e => by cases e)
end Go.Proofs.YtoohpcomnhfgpaaGreat
end
section
namespace Go.Proofs.YtoohpcomnhfgpaaGreat
set_option linter.all false
theorem opIn_round {P : Program} {o : Oper} {a : Act} {w : World} {K : Act → World → Prop} {Q : Exit → Act → World → Prop} (l n : Nat) (hd : ∀ c, o.op ≠ .defer c) (h : o.wp P a w K Q) : o.wpIn (Fence.wide.inRound l) n P a w K Q := by
  refine ⟨fun _ _ => trivial, ?_⟩
  rw [Oper.semAt_plain _ _ _ hd]
  unfold Oper.wp at h
  generalize (execOp a.eval o).run P w = r at *
  cases r with
  | ok x w' =>
    cases x with
    | enter f args => exact ⟨(fun h => by cases h), CallsIn.inRound l (callsIn_wide.2 h)⟩
    | row row args => exact ⟨(fun h => by cases h), fun c cs _ => let ⟨v, w', r, s⟩ := h c cs; ⟨v, w', r, stepsIn_wide.2 s⟩⟩
    | round _ _ _ _ _ => exact h.elim
    | _ => exact h
  | halt x w' => cases x <;> exact h
theorem anyIn_round {P : Program} {md : Region.Mode} {ops : Array Oper} {Q : Exit → Act → World → Prop} (l n : Nat) (hd : ∀ (i : Nat) (o : Oper), ops[i]? = some o → ∀ c, o.op ≠ .defer c) (hQ : ¬ LetsOut Q) :
    ∀ (fuel : Nat) (listed : Array Bool) (a : Act) (w : World), wpAny P md ops Q fuel listed a w → wpAnyIn (Fence.wide.inRound l) n P md ops Q fuel listed a w
  | 0, _, _, _, h => h
  | fuel + 1, listed, a, w, h => by
    refine ⟨h.1, fun i hi => ?_⟩
    have h1 := h.2 i hi
    unfold wpOp at h1
    unfold wpOpIn
    cases ho : ops[i]? with
    | none => rw [ho] at h1; exact anyIn_round l n hd hQ fuel _ _ _ h1
    | some o =>
      rw [ho] at h1
      dsimp only at h1 ⊢
      split
      · rename_i hw
        rw [if_pos hw] at h1
        rcases h1 with h1 | ⟨_, h1⟩
        · exact Oper.wpIn_mono (fun a w => anyIn_round l n hd hQ fuel _ a w) (opIn_round l n (hd i o ho) h1)
        · exact absurd h1 hQ
      · rename_i hw
        rw [if_neg hw] at h1
        exact ⟨fun _ _ => trivial, anyIn_round l n hd hQ fuel _ _ _ h1⟩
def noDefer (o : Oper) : Bool := match o.op with | .defer _ => false | _ => true
theorem region_round {P : Program} {ops : Array Oper} {Q : Exit → Act → World → Prop} {id : Nat} {a : Act} {w : World} (l n : Nat) (hm : P.follows .mixedOrders = true) (hd : ops.all noDefer = true) (hQ : ¬ LetsOut Q)
    (h : wpAny P .any ops Q ops.size (Array.replicate ops.size false) a w.drew) : (Code.region id ops true).wpIn (Fence.wide.inRound l) n P Q a w :=
  wpIn_region_any hm (anyIn_round l n (fun i o ho c e => by
    have h1 := (Array.all_eq_true.1 hd) i (Array.getElem?_eq_some_iff.1 ho).1
    rw [(Array.getElem?_eq_some_iff.1 ho).2] at h1
    simp [noDefer, e] at h1) hQ _ _ _ _ h)
end Go.Proofs.YtoohpcomnhfgpaaGreat
end
section
namespace Go.Proofs.YtoohpcomnhfgpaaGreat
open Go.RowKit
set_option maxRecDepth 100000
set_option linter.all false
theorem wplIn_append_cel {P : Program} {w : World} {ops : Array Oper} {rest : List Oper} {o : Oper} {a : Act} {Q : Exit → Act → World → Prop} {l m0 : Nat} (hgd : o.guard = none) (s x : Operand) (t : TypeId)
    (ho : o.op = .call { callee := .builtin .append, args := #[s, x], argTypes := #[t, t] })
    (base : Nat) (e : TypeId) (i : TypeInfo) (z : Value) (size bytes : Nat) (ht : P.underlying t = some (.slice e)) (hi : P.info? e = some i) (hz : i.zero = some z)
    (hsize : i.size = size) (hby : i.bytes = bytes) (hzs : z.cells.size = size) (hsz : 0 < size) (v : Value) (n : Nat) (xs : List Value) (hs : a.eval s = v) (hown : w.ownsRow base e size v n xs)
    (S : Nat → Prop) (A : Value) (m : Nat) (ys : List Value) (hx : a.eval x = A) (hr : Cel w S A m size ys) (h1 : ∀ u ∈ ys, u.oneCell' = true) (h63 : n + m ≤ maxLen) (hbytes : (n + m) * bytes ≤ 140737488355328) (hbase : base ≤ w.heap.size)
    (h : ∀ A' n' c' w', w'.ownsRow base e size (.slice A' n' c') (n + m) (xs ++ ys) → w.grownBy w' v.ownBlock → Moved w v (.slice A' n' c') → wpListIn (Fence.wide.inRound l) m0 P ops Q rest (a.put o.dst (.slice A' n' c')) w') : wpListIn (Fence.wide.inRound l) m0 P ops Q (o :: rest) a w :=
  wpListIn_plain hgd fun _ hK => opIn_round l m0 (fun c e => by rw [ho] at e; cases e) (wp_append_cel w s x t ho base e i z size bytes ht hi hz hsize hby hzs hsz v n xs hs hown S A m ys hx hr h1 h63 hbytes hbase fun A' n' c' w' h2 h3 h4 => hK _ _ (h A' n' c' w' h2 h3 h4))
theorem blk_turn {W W' : World} {b : Nat} {t : TypeId} {cs : Array Value} {row : Option Nat} (h : Blk W b t cs) (hg : W.grownBy W' row) (hr : ∀ r, row = some r → ∃ o : Obj, W.heap[r]? = some o ∧ o.isCells = false) : Blk W' b t cs := by
  refine h.grown' hg ?_
  intro e
  obtain ⟨o, ho, hc⟩ := hr b e
  unfold Blk at h
  rw [h] at ho
  cases ho
  cases hc
theorem own_turn {W W' : World} {base : Nat} {e : TypeId} {size n : Nat} {v : Value} {xs : List Value} {row : Option Nat} (h : W.ownsRow base e size v n xs) (hg : W.grownBy W' row) (hr : ∀ r, row = some r → ∃ o : Obj, W.heap[r]? = some o ∧ o.isCells = false) : W'.ownsRow base e size v n xs := by
  rcases h.2 with ⟨rfl, _⟩ | ⟨g, cap, cur, rfl, _, hh, _⟩
  · exact h.kept hg (.inl rfl)
  · refine h.kept hg (.inr ?_)
    intro e'
    obtain ⟨o, ho, hc⟩ := hr g (by rw [← e']; rfl)
    rw [hh] at ho
    cases ho
    cases hc
theorem only_keeps {W W' : World} {S : Nat → Prop} (o : Only S W W') (hS : ∀ k x, S k → W.heap[k]? = some x → x.isCells = true) : KeepsOthers W W' :=
  ⟨o.size, fun k x hk hc => (o.block k (lt_of_obj hk) (fun hs => by rw [hS k x hs hk] at hc; cases hc)).trans hk⟩
theorem blk_is {W : World} {b : Nat} {t : TypeId} {cs : Array Value} (h : Blk W b t cs) {x : Obj} (hx : W.heap[b]? = some x) : x.isCells = true := by
  unfold Blk at h
  rw [h] at hx
  cases hx
  rfl
theorem own_is {W : World} {base : Nat} {e : TypeId} {size n : Nat} {v : Value} {xs : List Value} (h : W.ownsRow base e size v n xs) {k : Nat} (hk : v.ownBlock = some k) {x : Obj} (hx : W.heap[k]? = some x) : x.isCells = true := by
  rcases h.2 with ⟨rfl, _⟩ | ⟨g, cap, cur, rfl, _, hh, _⟩
  · cases hk
  · have : g = k := by simpa [Value.ownBlock] using hk
    subst this
    rw [hh] at hx
    cases hx
    rfl
theorem own_count {w : World} {base : Nat} {e : TypeId} {k n n' c : Nat} {A : Option Addr} {xs : List Value} (h : w.ownsRow base e k (.slice A n' c) n xs) : n' = n := by
  rcases h.2 with ⟨e1, h0⟩ | ⟨g, cap, cur, e1, _⟩
  · injection e1 with _ e2 _; omega
  · injection e1 with _ e2 _
def Tv (b i : Nat) (W : World) (k : Nat) : Prop := k = b ∨ ∃ u, W.cell? ⟨b, i, none⟩ = some u ∧ u.ownBlock = some k
theorem tv_stab {b i N : Nat} (h : b < N) : Stab (Tv b i) N := fun W W' hk k ht => by
  rcases ht with rfl | ⟨u, hu, ho⟩
  · exact .inl rfl
  · have e : W'.cell? ⟨b, i, none⟩ = W.cell? ⟨b, i, none⟩ := World.cell?_of_block (hk b h)
    exact .inr ⟨u, e.symm.trans hu, ho⟩
theorem tv_at {b i k : Nat} {W : World} {v : Value} (h : W.cell? ⟨b, i, none⟩ = some v) : Tv b i W k ↔ (k = b ∨ v.ownBlock = some k) := by
  constructor
  · rintro (h1 | ⟨u, hu, ho⟩)
    · exact .inl h1
    · rw [h] at hu; injection hu with hu; subst hu; exact .inr ho
  · rintro (h1 | h1)
    · exact .inl h1
    · exact .inr ⟨v, h, h1⟩
end Go.Proofs.YtoohpcomnhfgpaaGreat
end
section
namespace Go.Proofs.YtoohpcomnhfgpaaGreat
open Go.Joins Go.ChangeShapes Go.WideShapes Go.RowKit Go.Deep
set_option maxRecDepth 100000
def stRow (x : St) : List Value := [.int .i64 x.c, .int .i64 x.s]
theorem stamp_cells {H : Type} {enc : TypeId × Value → H} {W : World} (n : Nat) (r : List Value) (y : DataW H × List MemPlace) (hr : r.length = 2) (h : DataW.trod enc Tryz.prog W 0 (fun _ => true) true n 48 r = some y) :
    ∃ x : St, r = stRow x ∧ (-9223372036854775808 ≤ x.c ∧ x.c ≤ 9223372036854775807) := by
  obtain ⟨y0, y1, n', _, _, h0, h1⟩ := trod_struct2 Tryz.underlying48 h
  match r, hr with
  | [r0, r1], _ =>
    have e0 : Tryz.prog.cellsOf 3 = 1 := by kernel_rfl
    simp only [e0, List.drop_zero, List.drop_succ_cons, List.take_succ_cons, List.take_zero] at h0 h1
    obtain ⟨c, q0, _, w0⟩ := DataW.trod_int Tryz.underlying3 h0
    obtain ⟨s, q1, _, w1⟩ := DataW.trod_int Tryz.underlying3 h1
    simp only [List.cons.injEq, and_true] at q0 q1
    subst q0 q1
    exact ⟨⟨c, s⟩, rfl, bounds_i64 w0⟩
end Go.Proofs.YtoohpcomnhfgpaaGreat
end
section
namespace Go.Proofs.YtoohpcomnhfgpaaGreat
open Go.Joins Go.ChangeShapes Go.WideShapes Go.RowKit Go.Deep
set_option maxRecDepth 100000
theorem trod_struct7 {H : Type} {enc : TypeId × Value → H} {P : Program} {w : World} {base : Nat} {spare : Nat → Bool} {held : Bool} {t : TypeId} {f0 f1 f2 f3 f4 f5 f6 : Field} {fuel : Nat} {cs : List Value} {x : DataW H × List MemPlace} (ht : P.underlying t = some (.struct #[f0, f1, f2, f3, f4, f5, f6])) (h : DataW.trod enc P w base spare held fuel t cs = some x) :
    ∃ y0 y1 y2 y3 y4 y5 y6 n, DataW.trod enc P w base spare held n f0.type ((cs.drop f0.offset).take (P.cellsOf f0.type)) = some y0 ∧ DataW.trod enc P w base spare held n f1.type ((cs.drop f1.offset).take (P.cellsOf f1.type)) = some y1 ∧ DataW.trod enc P w base spare held n f2.type ((cs.drop f2.offset).take (P.cellsOf f2.type)) = some y2 ∧ DataW.trod enc P w base spare held n f3.type ((cs.drop f3.offset).take (P.cellsOf f3.type)) = some y3 ∧ DataW.trod enc P w base spare held n f4.type ((cs.drop f4.offset).take (P.cellsOf f4.type)) = some y4 ∧ DataW.trod enc P w base spare held n f5.type ((cs.drop f5.offset).take (P.cellsOf f5.type)) = some y5 ∧ DataW.trod enc P w base spare held n f6.type ((cs.drop f6.offset).take (P.cellsOf f6.type)) = some y6 := by
  obtain ⟨xs, n, _, _, _, hlen, hf⟩ := DataW.trod_struct ht h
  match xs, hlen with
  | [y0, y1, y2, y3, y4, y5, y6], _ => exact ⟨y0, y1, y2, y3, y4, y5, y6, n, by simpa using hf 0 f0 rfl, by simpa using hf 1 f1 rfl, by simpa using hf 2 f2 rfl, by simpa using hf 3 f3 rfl, by simpa using hf 4 f4 rfl, by simpa using hf 5 f5 rfl, by simpa using hf 6 f6 rfl⟩
end Go.Proofs.YtoohpcomnhfgpaaGreat
end
section
namespace Go.Proofs.YtoohpcomnhfgpaaGreat
open Go.Joins Go.ChangeShapes Go.WideShapes Go.RowKit Go.Deep
set_option maxRecDepth 100000
def enRow (e : En) : List Value := [.string e.k, .string e.v, .bool e.d, .int .i64 e.s.c, .int .i64 e.s.s, .int .i64 e.a.c, .int .i64 e.a.s, .int .i64 e.p, .int .i64 e.g]
theorem enRow_length (e : En) : (enRow e).length = 9 := rfl
theorem en_cells {H : Type} {enc : TypeId × Value → H} {W : World} (n : Nat) (r : List Value) (y : DataW H × List MemPlace) (hr : r.length = 9) (h : DataW.trod enc Tryz.prog W 0 (fun _ => true) true n 50 r = some y) :
    ∃ x : En, r = enRow x ∧ True := by
  obtain ⟨y0, y1, y2, y3, y4, y5, y6, n, g0, g1, g2, g3, g4, g5, g6⟩ := trod_struct7 Tryz.underlying50 h
  match r, hr with
  | [c0, c1, c2, c3, c4, c5, c6, c7, c8], _ =>
      have e9 : Tryz.prog.cellsOf 9 = 1 := by kernel_rfl
      have e4 : Tryz.prog.cellsOf 4 = 1 := by kernel_rfl
      have e3 : Tryz.prog.cellsOf 3 = 1 := by kernel_rfl
      have e2 : Tryz.prog.cellsOf 48 = 2 := by kernel_rfl
      simp only [e9, e4, e3, e2, List.drop_zero, List.drop_succ_cons, List.take_succ_cons, List.take_zero] at g0 g1 g2 g3 g4 g5 g6
      obtain ⟨s0, q0, _, _⟩ := DataW.trod_string Tryz.underlying9 g0
      obtain ⟨s1, q1, _, _⟩ := DataW.trod_string Tryz.underlying9 g1
      obtain ⟨b2, q2, _⟩ := DataW.trod_bool Tryz.underlying4 g2
      obtain ⟨t3, q3, _⟩ := stamp_cells n _ _ rfl g3
      obtain ⟨t4, q4, _⟩ := stamp_cells n _ _ rfl g4
      obtain ⟨n5, q5, _, _⟩ := DataW.trod_int Tryz.underlying3 g5
      obtain ⟨n6, q6, _, _⟩ := DataW.trod_int Tryz.underlying3 g6
      simp only [stRow, List.cons.injEq, and_true] at q0 q1 q2 q3 q4 q5 q6
      obtain ⟨q3, q3'⟩ := q3
      obtain ⟨q4, q4'⟩ := q4
      subst q0 q1 q2 q3 q3' q4 q4' q5 q6
      exact ⟨⟨s0, s1, b2, t3, t4, n5, n6⟩, rfl, trivial⟩
theorem entries_arg {H : Type} {enc : TypeId × Value → H} {W : World} {a : Option Addr} {len cap : Nat} {d : DataW H} {p : List MemPlace} (h : DataW.Trod enc Tryz.prog W 0 (fun _ => true) true 35 (.slice a len cap) d p) :
    ∃ l : List En, len = l.length ∧ Cel W (fun b => b < W.heap.size) (.slice a len cap) len 9 (l.flatMap enRow) := by
  obtain ⟨l, h1, h2, _⟩ := cel_in enRow _ Tryz.underlying35 (by kernel_rfl) enRow_length (by omega) (fun n r y hr ht => en_cells n r y hr ht) h
  exact ⟨l, h1, h2⟩
end Go.Proofs.YtoohpcomnhfgpaaGreat
end
section
namespace Go.Proofs.YtoohpcomnhfgpaaGreat
open Go.RowKit
set_option linter.all false
def SlO {α : Type} (f : α → List Value) (k B : Nat) (e : TypeId) (n : Nat) (l : List α) (v : Value) (w : World) : Prop := ∃ A c, v = .slice A n c ∧ w.ownsRow B e k (.slice A n c) n (l.flatMap f)
section
variable {α : Type} {f : α → List Value} {k B M n : Nat} {e : TypeId} {l : List α} {v : Value} {w w' : World}
theorem SlO.only {S : Nat → Prop} (h : SlO f k B e n l v w) (o : Only S w w') (hn : ∀ b, v.ownBlock = some b → ¬ S b) : SlO f k B e n l v w' := by
  obtain ⟨A, c, e1, h⟩ := h
  subst e1
  exact ⟨A, c, rfl, owns_only h o hn⟩
theorem SlO.keep (h : SlO f k B e n l v w) (o : Only none_ w w') : SlO f k B e n l v w' := h.only o (fun _ _ h => h)
theorem SlO.of (h : w.ownsRow B e k v l.length (l.flatMap f)) (hn : l.length = n) (hb : M ≤ B) : SlO f k M e n l v w := by
  subst hn
  have h := owns_base h hb
  rcases h.2 with ⟨rfl, h0⟩ | ⟨_, _, _, rfl, _⟩
  · exact ⟨none, 0, by rw [h0], by rw [h0]; rw [h0] at h; exact h⟩
  · exact ⟨_, _, rfl, h⟩
theorem in_elem {S : Nat → Prop} {A : Option Addr} {c : Nat} (hk : ∀ x, (f x).length = k) (h0 : 0 < k) (h : Cel w S (.slice A n c) n k (l.flatMap f)) (hn : l.length = n) {i : Nat} {m : α} (hm : l[i]? = some m) :
    ∃ b off, A = some ⟨b, off, none⟩ ∧ S b ∧ b < w.heap.size ∧ ∀ w', Only none_ w w' → ∀ j u, (f m)[j]? = some u → w'.cell? ⟨b, off + i * k + j, none⟩ = some u := by
  obtain ⟨hi, he⟩ := List.getElem?_eq_some_iff.1 hm
  obtain ⟨A', c', e1, _, _, _, _, h4⟩ := h
  injection e1 with e1 _ e3
  subst e1 e3
  obtain ⟨b, off, rfl, hs, hlt, hc⟩ := h4 (by omega)
  refine ⟨b, off, rfl, hs, hlt, fun w' o j u hu => ?_⟩
  have hj : j < k := by have := (List.getElem?_eq_some_iff.1 hu).1; rwa [hk] at this
  rw [Nat.add_assoc]
  exact (o.cell (p := ⟨b, off + (i * k + j), none⟩) hlt (fun h => h)).trans (hc _ _ (by rw [flat_at f hk l i m hm j hj]; exact hu))
end
end Go.Proofs.YtoohpcomnhfgpaaGreat
end
section
namespace Go.Proofs.YtoohpcomnhfgpaaGreat
open Go.RowKit Go.Shelf
set_option maxRecDepth 100000
set_option linter.all false
attribute [local go_sem] Oper.semAt_some
structure Gv (B : World) (g tb : Nat) (site t2 : Int) (l : List En) (v : Value) (w : World) : Prop where
  bk : Blk w g 263 #[.pointer (some ⟨tb, 0, none⟩), .string ⟨#[]⟩, .pointer none, .int .i64 site, .int .i64 t2]
  ge : B.heap.size ≤ g
  t : Se.Tb B tb 4096 (prs l) v w
def gfoot (g tb : Nat) (v : Value) : Nat → Prop := fun k => k = g ∨ foot tb v k
section
variable {B w w' : World} {g tb : Nat} {site t2 : Int} {l : List En} {v : Value}
theorem Gv.keep (s : Gv B g tb site t2 l v w) (o : Only none_ w w') : Gv B g tb site t2 l v w' := ⟨s.bk.only o (fun h => h), s.ge, s.t.keep o⟩
theorem Gv.apart {S : Nat → Prop} (s : Gv B g tb site t2 l v w) (o : Only S w w') (hn : ∀ k, gfoot g tb v k → ¬ S k) (hS : ∀ k, S k → B.heap.size ≤ k) : Gv B g tb site t2 l v w' :=
  ⟨s.bk.only o (hn g (.inl rfl)), s.ge, s.t.apart o (fun k hk => hn k (.inr hk)) hS⟩
theorem Gv.sh (s : Gv B g tb site t2 l v w) : Sh w g tb := ⟨s.bk.cell_ (i := 0) rfl, s.bk.cell_ (i := 2) rfl⟩
theorem Gv.ho (s : Gv B g tb site t2 l v w) : Only none_ B w := s.t.ho
theorem Gv.ml (s : Gv B g tb site t2 l v w) : l.length ≤ 4096 := by have := s.t.ml; rwa [prs_length] at this
theorem Gv.ris (s : Gv B g tb site t2 l v w) : RisE l := ris_prs s.t.rs
theorem Gv.foot_ge (s : Gv B g tb site t2 l v w) {k : Nat} (h : gfoot g tb v k) : B.heap.size ≤ k ∧ k < w.heap.size := by
  rcases h with rfl | h
  · exact ⟨s.ge, s.bk.lt⟩
  · exact s.t.foot_ge h
end
theorem prs_rows (l : List En) : (prs l).flatMap (fun p => enRow p.v) = l.flatMap enRow := by
  unfold prs
  rw [List.flatMap_map]
theorem api_info : (Tryz.prog.info? 82).map (fun i => (i.zero, i.size, i.bytes)) = some (some (.agg #[.string ⟨#[]⟩, .string ⟨#[]⟩, .bool false, .int .i64 0, .int .i64 0, .int .i64 0, .int .i64 0, .int .i64 0, .int .i64 0]), 9, 88) := by kernel_rfl
theorem row_one (e : En) : ∀ u ∈ enRow e, u.oneCell' = true := by
  intro u hu
  simp only [enRow, List.mem_cons, List.not_mem_nil, or_false] at hu
  rcases hu with rfl | rfl | rfl | rfl | rfl | rfl | rfl | rfl | rfl <;> rfl
structure Av (w : World) (M box : Nat) (pre : List (Pr En)) (W : World) : Prop where
  ex : ∃ v', Blk W box 96 #[v'] ∧ W.ownsRow M 82 9 v' pre.length (pre.flatMap fun p => enRow p.v)
  ho : Only none_ w W
  sz : M ≤ W.heap.size
theorem Av.own (w : World) (M box : Nat) (hs : w.heap.size ≤ M) : OwnFrom M (Av w M box) := by
  intro s W W' row h hg hr
  obtain ⟨v', b1, ow⟩ := h.ex
  have hr' := fun r e => (hr r e).2
  exact ⟨⟨v', blk_turn b1 hg hr', own_turn ow hg hr'⟩, h.ho.grown hg (fun k e => .inr (Nat.le_trans hs (hr k e).1)), Nat.le_trans h.sz hg.size⟩
end Go.Proofs.YtoohpcomnhfgpaaGreat
end
section
namespace Go.Proofs.YtoohpcomnhfgpaaGreat
open Go.RowKit
set_option linter.all false
set_option maxRecDepth 100000
def stCells : List St → List Value
  | [] => []
  | x :: l => .int .i64 x.c :: .int .i64 x.s :: stCells l
theorem stCells_at : ∀ (l : List St) (k : Nat) (y : St), l[k]? = some y → (stCells l)[k * 2]? = some (.int .i64 y.c) ∧ (stCells l)[k * 2 + 1]? = some (.int .i64 y.s)
  | [], k, y, h => by simp at h
  | x :: l, 0, y, h => by
    have : x = y := by simpa using h
    subst this
    exact ⟨rfl, rfl⟩
  | x :: l, k + 1, y, h => by
    obtain ⟨h1, h2⟩ := stCells_at l k y (by simpa using h)
    rw [show (k + 1) * 2 = k * 2 + 1 + 1 from by omega]
    exact ⟨h1, h2⟩
structure MaxAt (B : World) (g : Nat) (m : St) (w : World) : Prop where
  blk : Blk w g 80 #[.int .i64 m.c, .int .i64 m.s]
  ho : Only (one g) B w
structure MaxIn (B : World) (b o g : Nat) (y m : St) (w : World) : Prop where
  y0 : w.cell? ⟨b, o, none⟩ = some (.int .i64 y.c)
  y1 : w.cell? ⟨b, o + 1, none⟩ = some (.int .i64 y.s)
  blk : Blk w g 80 #[.int .i64 m.c, .int .i64 m.s]
  ho : Only none_ B w
  lt : b < B.heap.size
section
variable {B w w' : World} {b o g : Nat} {y m : St}
theorem MaxIn.keep (h : MaxIn B b o g y m w) (k : Only none_ w w') : MaxIn B b o g y m w' :=
  ⟨(k.cell (p := ⟨b, o, none⟩) (Nat.lt_of_lt_of_le h.lt h.ho.size) (fun x => x)).trans h.y0, (k.cell (p := ⟨b, o + 1, none⟩) (Nat.lt_of_lt_of_le h.lt h.ho.size) (fun x => x)).trans h.y1, h.blk.only k (fun x => x), h.ho.trans k, h.lt⟩
theorem MaxIn.cells (h : MaxIn B b o g y m w) : (w.cell? ⟨b, o, none⟩ = some (.int .i64 y.c) ∧ w.cell? ⟨b, o + 1, none⟩ = some (.int .i64 y.s)) ∧ w.cell? ⟨g, 0, none⟩ = some (.int .i64 m.c) ∧ w.cell? ⟨g, 1, none⟩ = some (.int .i64 m.s) :=
  ⟨⟨h.y0, h.y1⟩, h.blk.cell_ rfl, h.blk.cell_ rfl⟩
end
theorem fold_snoc {l : List St} {k : Nat} (h : k < l.length) (x : St) : (l.take (k + 1)).foldl stMax x = stMax ((l.take k).foldl stMax x) l[k] := by
  rw [List.take_succ_eq_append_getElem h, List.foldl_append]
  rfl
set_option maxHeartbeats 1600000 in
theorem maxFunc (x : St) (l : List St) (v : Value) (S : Nat → Prop) (w : World) (hx : Cel w S v (l.length + 1) 2 (stCells (x :: l))) (hS : ∀ b, S b → b < w.heap.size) (hl : l.length + 1 ≤ 9223372036854775807) :
    Calls Tryz.prog 281 #[v, .func (.func 140) #[] #[]] w fun e w' => e = .returned (.agg #[.int .i64 (stLatest (x :: l)).c, .int .i64 (stLatest (x :: l)).s]) ∧ Only none_ w w' := by
  obtain ⟨A, c, rfl, h0, h1, h2, h3, h4⟩ := hx
  obtain ⟨b, off, rfl, hb, hlt, hc⟩ := h4 (by omega)
  have c0 : w.cell? ⟨b, off, none⟩ = _ := hc 0 _ rfl
  have c1 := hc 1 _ rfl
  obtain ⟨L, hL⟩ : ∃ L, L = l.length + 1 := ⟨_, rfl⟩
  rw [← hL] at h1 hl ⊢
  have hL1 : decide ((L : Int) < 1) = false := by rw [hL]; simp; omega
  have hLp : (0 : Int) < (L : Int) := by rw [hL]; omega
  have hLn : 0 < L := by omega
  have HL := Lib.hid hL
  have HC := Lib.hid hc
  have HR := Lib.hid (Blk.new w 80 #[.int .i64 0, .int .i64 0])
  clear h3 h4 hc h0 hL
  go_enter Tryz.func281, Tryz.ntmps281
  go_wp2_with fail
  have M0 := Lib.hid (MaxAt.mk (B := (w.alloc (.cells #[.int .i64 0, .int .i64 0] 80)).alloc (.cells #[.int .i64 x.c, .int .i64 x.s] 80)) (Blk.new (w.alloc (.cells #[.int .i64 0, .int .i64 0] 80)) 80 #[.int .i64 x.c, .int .i64 x.s]) (Only.refl _ _))
  have O0 := Lib.hid (((Only.refl none_ w).alloc (.cells #[.int .i64 0, .int .i64 0] 80)).alloc (.cells #[.int .i64 x.c, .int .i64 x.s] 80))
  have R0 := Lib.hid (HR.out.alloc (.cells #[.int .i64 x.c, .int .i64 x.s] 80))
  have HG : Hid (w.heap.size + 1 = (w.alloc (.cells #[.int .i64 0, .int .i64 0] 80)).heap.size) := by simp [Hid]
  rw [← HG.out] at M0
  have HGB : Hid (b < w.heap.size) := hlt
  clear HR c0 c1 hlt
  generalize (w.alloc (.cells #[.int .i64 0, .int .i64 0] 80)).alloc (.cells #[.int .i64 x.c, .int .i64 x.s] 80) = W2 at *
  clear HG
  go_loopw [6] (fun i wr => ∃ k : Nat, k ≤ l.length ∧ i = .int .i64 ((k : Int) + 1) ∧ MaxAt W2 (w.heap.size + 1) ((l.take k).foldl stMax x) wr) (fun i _ => l.length + 1 - (intOf i).toNat)
  case atStart => exact ⟨0, Nat.zero_le _, rfl, M0.out⟩
  case round =>
    obtain ⟨k, hk, rfl, hm⟩ := hrel
    have HM := Lib.hid hm
    clear hm
    by_cases hlt : k < l.length
    · have hkL : decide ((k : Int) + 1 < (L : Int)) = true := by have := HL.out; simp; omega
      have hkn : k + 1 < L := by have := HL.out; omega
      have hkI : (k : Int) + 1 < (L : Int) := by omega
      have hk0 : (0 : Int) ≤ (k : Int) + 1 := by omega
      have HF := Lib.hid (fold_snoc hlt x)
      obtain ⟨y, hy⟩ : ∃ y, y = l[k] := ⟨_, rfl⟩
      rw [← hy] at HF
      have hyat : (x :: l)[k + 1]? = some y := by rw [hy]; simp [hlt]
      obtain ⟨ya, yb⟩ := stCells_at _ _ _ hyat
      obtain ⟨m, hmm⟩ : ∃ m, m = (l.take k).foldl stMax x := ⟨_, rfl⟩
      rw [← hmm] at HM HF
      have HI : Hid (MaxIn wr b (off + (k + 1) * 2) (w.heap.size + 1) y m wr) := by
        have o1 := (O0.out.of_none (S := one (w.heap.size + 1))).trans HM.out.ho
        have hne : ¬ one (w.heap.size + 1) b := fun e => by have : b = w.heap.size + 1 := e; have := HGB.out; omega
        exact ⟨(o1.cell (p := ⟨b, off + (k + 1) * 2, none⟩) HGB.out hne).trans (HC.out _ _ ya), (o1.cell (p := ⟨b, off + ((k + 1) * 2 + 1), none⟩) HGB.out hne).trans (HC.out _ _ yb), HM.out.blk, Only.refl _ _, Nat.lt_of_lt_of_le HGB.out o1.size⟩
      have HMo := Lib.hid HM.out.ho
      obtain ⟨r, hr⟩ : ∃ r, stCmp y m = r := ⟨_, rfl⟩
      have HR := Lib.hid hr
      clear HM hmm hy hyat ya yb
      have z0 := Lib.hid (HI.out.blk.frozen 0)
      have z1 := Lib.hid (HI.out.blk.frozen 1)
      by_cases hp : 0 < r
      · have hX : Hid (stMax m y = y) := by rw [Hid, stMax, hr, if_pos hp]
        clear hr
        go_wp2_with fail
        have t0 := HI.out.keep (Only.refl none_ wr).drew
        go_region_held3 (fun w' => (w'.cell? ⟨b, off + (k + 1) * 2, none⟩ = some (.int .i64 y.c) ∧ w'.cell? ⟨b, off + (k + 1) * 2 + 1, none⟩ = some (.int .i64 y.s)) ∧ w'.cell? ⟨w.heap.size + 1, 0, none⟩ = some (.int .i64 m.c) ∧ w'.cell? ⟨w.heap.size + 1, 1, none⟩ = some (.int .i64 m.s))
          (with_reducible exact MaxIn.cells (by assumption))
          (first
            | (go_at_call 140; refine (st_compare _ _ _ _ _).mono ?_; rintro e w5 ⟨rfl, o5⟩; rw [HR.out]; have t5 := MaxIn.keep (by assumption) o5; clear o5))
        obtain ⟨⟨y0, y1⟩, m0, m1⟩ := t5.cells
        have z0 := t5.blk.frozen 0
        have z1 := t5.blk.frozen 1
        have T5 := Lib.hid t5
        clear t0 t5
        go_wp2_with fail
        go_roundw
        case rel =>
          refine ⟨k + 1, by omega, by go_num, ?_, ?_⟩
          · rw [HF.out, hX.out]
            have := (T5.out.blk.set_ 0 (.int .i64 y.c)).set_ 1 (.int .i64 y.s)
            simpa using this
          · exact (((HMo.out).trans T5.out.ho.of_none).setCell (p := ⟨w.heap.size + 1, 0, none⟩) (.inl rfl) _).setCell (p := ⟨w.heap.size + 1, 1, none⟩) (.inl rfl) _
        case measure => simp [intOf]; omega
      · have hX : Hid (stMax m y = m) := by rw [Hid, stMax, hr, if_neg hp]
        clear hr
        go_wp2_with fail
        have t0 := HI.out.keep (Only.refl none_ wr).drew
        go_region_held3 (fun w' => (w'.cell? ⟨b, off + (k + 1) * 2, none⟩ = some (.int .i64 y.c) ∧ w'.cell? ⟨b, off + (k + 1) * 2 + 1, none⟩ = some (.int .i64 y.s)) ∧ w'.cell? ⟨w.heap.size + 1, 0, none⟩ = some (.int .i64 m.c) ∧ w'.cell? ⟨w.heap.size + 1, 1, none⟩ = some (.int .i64 m.s))
          (with_reducible exact MaxIn.cells (by assumption))
          (first
            | (go_at_call 140; refine (st_compare _ _ _ _ _).mono ?_; rintro e w5 ⟨rfl, o5⟩; rw [HR.out]; have t5 := MaxIn.keep (by assumption) o5; clear o5))
        have T5 := Lib.hid t5
        clear t0 t5
        go_wp2_with fail
        go_roundw
        case rel =>
          refine ⟨k + 1, by omega, by go_num, ?_, (HMo.out).trans T5.out.ho.of_none⟩
          rw [HF.out, hX.out]
          exact T5.out.blk
        case measure => simp [intOf]; omega
    · have hkL : decide ((k : Int) + 1 < (L : Int)) = false := by have := HL.out; simp; omega
      obtain ⟨m, hmm⟩ : ∃ m, m = (l.take k).foldl stMax x := ⟨_, rfl⟩
      rw [← hmm] at HM
      have m0 := HM.out.blk.cell_ (i := 0) rfl
      have m1 := HM.out.blk.cell_ (i := 1) rfl
      have HME : Hid (stLatest (x :: l) = m) := by rw [Hid, hmm, List.take_of_length_le (by omega)]; rfl
      have RR := Lib.hid (R0.out.only HM.out.ho (fun e => by have : w.heap.size = w.heap.size + 1 := e; omega))
      have r0 := RR.out.cell_ (i := 0) rfl
      have r1 := RR.out.cell_ (i := 1) rfl
      have z0 := RR.out.frozen 0
      have z1 := RR.out.frozen 1
      clear hmm
      go_wp2_with fail
      have q0 := (RR.out.set_ 0 (.int .i64 m.c)).cell_ (i := 0) (u := .int .i64 m.c) (by simp)
      have q1 := ((RR.out.set_ 0 (.int .i64 m.c)).set_ 1 (.int .i64 m.s)).cell_ (i := 1) (u := .int .i64 m.s) (by simp)
      have o1 := (O0.out.of_none (S := one (w.heap.size + 1))).trans HM.out.ho
      have o2 := (o1.setCell (p := ⟨w.heap.size, 0, none⟩) (.inr (Nat.le_refl _)) (.int .i64 m.c)).setCell (p := ⟨w.heap.size, 1, none⟩) (.inr (Nat.le_refl _)) (.int .i64 m.s)
      exact bodyPost_ret (v := .agg #[.int .i64 m.c, .int .i64 m.s]) (by simp [results, Tryz.results281, go_sem, q0, q1]) rfl
        ⟨by rw [HME.out], o2.mono (fun g hg e => by have : g = w.heap.size + 1 := e; omega)⟩
theorem st_latest (l : List St) (v : Value) (S : Nat → Prop) (w : World) (hx : Cel w S v l.length 2 (stCells l)) (hS : ∀ b, S b → b < w.heap.size) (hl : l.length ≤ 9223372036854775807) :
    Calls Tryz.prog 260 #[v] w fun e w' => e = .returned (.agg #[.int .i64 (stLatest l).c, .int .i64 (stLatest l).s]) ∧ Only none_ w w' := by
  have HR := Lib.hid (Blk.new w 80 #[.int .i64 0, .int .i64 0])
  have O := Lib.hid ((Only.refl none_ w).alloc (.cells #[.int .i64 0, .int .i64 0] 80))
  cases l with
  | nil =>
    obtain ⟨A, c, rfl, _⟩ := hx
    go_enter Tryz.func260, Tryz.ntmps260
    go_wp2_with fail
    exact bodyPost_ret (v := .agg #[.int .i64 0, .int .i64 0]) (by simp [results, Tryz.results260, go_sem]) rfl ⟨rfl, O.out⟩
  | cons x l =>
    have HX := Lib.hid (hx.alloc (.cells #[.int .i64 0, .int .i64 0] 80))
    have HS : Hid (∀ b, S b → b < (w.alloc (.cells #[.int .i64 0, .int .i64 0] 80)).heap.size) := fun b hb => by have := hS b hb; simp; omega
    obtain ⟨A, c, rfl, _⟩ := hx
    obtain ⟨L, hL⟩ : ∃ L, L = (x :: l).length := ⟨_, rfl⟩
    have hlen : l.length + 1 ≤ 9223372036854775807 := by simpa using hl
    have hLz : ((L : Int) == 0) = false := by rw [hL, beq_eq_false_iff_ne]; simp; omega
    have HX2 : Hid (Cel (w.alloc (.cells #[.int .i64 0, .int .i64 0] 80)) S (.slice A L c) (l.length + 1) 2 (stCells (x :: l))) := by rw [hL]; exact HX.out
    obtain ⟨m, hm⟩ : ∃ m, stLatest (x :: l) = m := ⟨_, rfl⟩
    have HM := Lib.hid hm
    rw [← hL, hm]
    clear hL hS hl HX hm
    go_enter Tryz.func260, Tryz.ntmps260
    go_wp2_with (go_at_call 281; refine (maxFunc x l _ S _ HX2.out HS.out hlen).mono ?_; rintro e w1 ⟨rfl, o1⟩; rw [HM.out]
                 have R1 := Lib.hid (HR.out.only o1 (fun h => h))
                 have O1 := Lib.hid (O.out.trans o1)
                 have r0 := R1.out.cell_ (i := 0) rfl
                 have r1 := R1.out.cell_ (i := 1) rfl
                 have z0 := R1.out.frozen 0
                 have z1 := R1.out.frozen 1
                 clear o1)
    have q0 := (R1.out.set_ 0 (.int .i64 m.c)).cell_ (i := 0) (u := .int .i64 m.c) (by simp)
    have q1 := ((R1.out.set_ 0 (.int .i64 m.c)).set_ 1 (.int .i64 m.s)).cell_ (i := 1) (u := .int .i64 m.s) (by simp)
    have o2 := (O1.out.setCell (p := ⟨w.heap.size, 0, none⟩) (.inr (Nat.le_refl _)) (.int .i64 m.c)).setCell (p := ⟨w.heap.size, 1, none⟩) (.inr (Nat.le_refl _)) (.int .i64 m.s)
    exact bodyPost_ret (v := .agg #[.int .i64 m.c, .int .i64 m.s]) (by simp [results, Tryz.results260, go_sem, q0, q1]) rfl ⟨rfl, o2⟩
end Go.Proofs.YtoohpcomnhfgpaaGreat
end
