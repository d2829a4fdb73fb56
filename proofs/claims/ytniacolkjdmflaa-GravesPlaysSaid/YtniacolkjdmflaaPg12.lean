/- Texts of mine, one behind the other: GvA, GvB, Rgo. No statement of the seat is proved here. -/
import Derived.Test.YtniacolkjdmflaaPg10
import Derived.Test.YtniacolkjdmflaaPg11
import Derived.RangeFuncBox
import Derived.RangeFuncNested
import Derived.RangeFuncBound
import Derived.RangeFuncCalls
import Derived.RangeFuncLeaves
import Derived.Shelf.Abstract
import Derived.Shelf.RegionOpen
import Derived.OwnWalkIn
import Derived.TacticsInMore
import Derived.LoopNIn
import Derived.LoopIn
import Derived.Test.YtniacolkjdmflaaPg2
section
namespace Go.Proofs.Ytniacolkjdmflaa
open Go.RowKit
set_option maxRecDepth 100000
set_option linter.all false

/-- Graves as a table's pairs. -/
def prs (l : List En) : List (Pr En) := l.map fun e => ⟨e.k, e⟩
theorem prs_length (l : List En) : (prs l).length = l.length := by simp [prs]
theorem prs_get (l : List En) (i : Nat) (hi : i < (prs l).length) : (prs l)[i] = ⟨(l[i]'(by rwa [prs_length] at hi)).k, l[i]'(by rwa [prs_length] at hi)⟩ := by simp [prs]
theorem ris_prs {l : List En} (h : Ris (prs l)) : RisE l := by
  refine List.pairwise_iff_getElem.2 fun i j hi hj hij => ?_
  have := h i j (by rwa [prs_length]) (by rwa [prs_length]) hij
  simpa [prs] using this
theorem has_prs (l : List En) (x : ByteArray) : has (prs l) x = hasE l x := by
  unfold has hasE prs
  rw [List.any_map]
  rfl
theorem rnk_cons (p : Pr En) (l : List (Pr En)) (x : ByteArray) : rnk (p :: l) x = rnk l x + if lt_ p.k x = true then 1 else 0 := by
  unfold rnk
  rw [List.countP_cons]
theorem put_prs (e : En) : ∀ l : List En, RisE l → putL (prs l) e.k e = prs (setE e l)
  | [], _ => by simp [prs, putL, setE, rnk, has]
  | p :: l, h => by
    have h' := List.pairwise_cons.1 h
    have ih := put_prs e l h'.2
    have e1 : prs (p :: l) = ⟨p.k, p⟩ :: prs l := rfl
    unfold setE
    by_cases hp : lt_ p.k e.k = true
    · rw [if_pos hp, e1]
      have hr : rnk (⟨p.k, p⟩ :: prs l) e.k = rnk (prs l) e.k + 1 := by rw [rnk_cons]; simp [hp]
      have hh : has ((⟨p.k, p⟩ : Pr En) :: prs l) e.k = has (prs l) e.k := by
        unfold has
        rw [List.any_cons]
        simp [lt_ne hp]
      show _ = (⟨p.k, p⟩ : Pr En) :: prs (setE e l)
      rw [← ih]
      unfold putL
      rw [hr, hh]
      cases has (prs l) e.k <;> simp
    · have hpf : lt_ p.k e.k = false := by simpa using hp
      rw [if_neg hp, e1]
      have hall : ∀ y ∈ l, lt_ y.k e.k = false ∧ y.k ≠ e.k := by
        intro y hy
        have hxy := h'.1 y hy
        constructor
        · cases hz : lt_ y.k e.k with
          | false => rfl
          | true => have := lt_tr hxy hz; rw [hpf] at this; cases this
        · intro hz; rw [hz] at hxy; rw [hpf] at hxy; cases hxy
      have hr0 : rnk (prs l) e.k = 0 := by
        unfold rnk
        refine List.countP_eq_zero.2 fun y hy => ?_
        obtain ⟨z, hz, rfl⟩ := List.mem_map.1 hy
        simp [(hall z hz).1]
      have hr : rnk (⟨p.k, p⟩ :: prs l) e.k = 0 := by rw [rnk_cons, hr0]; simp [hpf]
      have hno : has (prs l) e.k = false := by
        rw [has_prs]
        cases hz : hasE l e.k with
        | false => rfl
        | true =>
          obtain ⟨i, hi, hk, _⟩ := hasE_get hz
          exact absurd hk (hall _ (List.getElem_mem hi)).2
      have hf : l.filter (fun y => !decide (y.k = e.k)) = l := List.filter_eq_self.2 fun y hy => by simp [(hall y hy).2]
      unfold putL
      rw [hr]
      by_cases hk : p.k = e.k
      · have hh : has ((⟨p.k, p⟩ : Pr En) :: prs l) e.k = true := by simp [has, hk]
        rw [if_pos hh, List.filter_cons_of_neg (by simp [hk]), hf]
        rfl
      · have hh : has ((⟨p.k, p⟩ : Pr En) :: prs l) e.k = false := by
          have : has ((⟨p.k, p⟩ : Pr En) :: prs l) e.k = (decide (p.k = e.k) || has (prs l) e.k) := rfl
          rw [this, hno]; simp [hk]
        rw [if_neg (by rw [hh]; simp), List.filter_cons_of_pos (by simp [hk]), hf]
        rfl
theorem get_prs {l : List En} (h : Ris (prs l)) (x : ByteArray) : Se.getL (prs l) x = (lookE l x).getD enZero := by
  unfold Se.getL
  by_cases hs : has (prs l) x = true
  · rw [if_pos hs]
    have hat := (has_at h x).symm
    rw [hs] at hat
    simp only [Bool.and_eq_true, decide_eq_true_eq] at hat
    obtain ⟨hlt, _, hk⟩ := hat
    rw [List.getElem?_eq_getElem hlt]
    rw [prs_get] at hk ⊢
    dsimp only at hk
    have := look_mem (ris_prs h) (List.getElem_mem (by rwa [prs_length] at hlt))
    rw [hk] at this
    rw [this]
    rfl
  · rw [if_neg hs]
    have : lookE l x = none := by
      refine List.find?_eq_none.2 fun y hy => ?_
      have hn : hasE l x = false := by rw [← has_prs]; simpa using hs
      simpa using hasE_not hn y hy
    rw [this]
    rfl

/-- A shelf, the only one: where its table is. -/
structure Sh (w : World) (s tb : Nat) : Prop where
  c0 : w.cell? ⟨s, 0, none⟩ = some (.pointer (some ⟨tb, 0, none⟩))
  c2 : w.cell? ⟨s, 2, none⟩ = some (.pointer none)
theorem Sh.keep {w w' : World} {s tb : Nat} {S : Nat → Prop} (h : Sh w s tb) (o : Only S w w') (hn : ¬ S s) : Sh w' s tb := by
  have hs : s < w.heap.size := by
    obtain ⟨b, hb⟩ : ∃ o, w.heap[s]? = some o := by
      have := h.c0
      unfold World.cell? at this
      cases ho : w.heap[s]? with
      | none => rw [ho] at this; cases this
      | some o => exact ⟨o, rfl⟩
    exact (Array.getElem?_eq_some_iff.1 hb).1
  exact ⟨(o.cell (p := ⟨s, 0, none⟩) hs hn).trans h.c0, (o.cell (p := ⟨s, 2, none⟩) hs hn).trans h.c2⟩

set_option maxHeartbeats 800000 in
theorem sh_of (s tb : Nat) (x : ByteArray) (w : World) (h : Sh w s tb) :
    Calls Try.prog 54 #[.pointer (some ⟨s, 0, none⟩), .string x] w fun e w' => e = .returned (.pointer (some ⟨s, 0, none⟩)) ∧ w = w' := by
  have c2 := h.c2
  clear h
  go_enter Try.func54, Try.ntmps54
  go_wp2_with fail
  refine wp_loop_rounds 1 ?_
  rw [rounds_succ]
  go_wp2_with fail
  go_ret
  exact ⟨rfl, rfl⟩
set_option maxHeartbeats 800000 in
theorem sh_len (B : World) (s tb : Nat) (l : List En) (v : Value) (w : World) (h : Sh w s tb) (ht : Se.Tb B tb 4096 (prs l) v w) :
    Calls Try.prog 25 #[.pointer (some ⟨s, 0, none⟩)] w fun e w' => e = .returned (.int .i64 l.length) ∧ w = w' := by
  have c2 := h.c2
  have c0 := h.c0
  have hm := ht.ml
  have HL := Se.tb_len B tb 4096 (prs l) v w ht
  rw [prs_length] at HL hm
  generalize l.length = n at HL hm ⊢
  have HLL := Lib.hid HL
  have hw : IntKind.i64.wrap (0 + (n : Int)) = (n : Int) := by rw [Int.zero_add]; exact IntWalk.i64_in _ (by omega)
  clear h ht HL
  go_enter Try.func25, Try.ntmps25
  go_wp2_with fail
  refine wp_loop_rounds 2 ?_
  rw [rounds_succ]
  go_wp2_with (first
    | (go_at_call 58; refine HLL.out.mono ?_; rintro e w1 ⟨rfl, rfl⟩))
  rw [rounds_succ]
  go_wp2_with fail
  go_ret
  exact ⟨by simp, rfl⟩
set_option maxHeartbeats 800000 in
theorem sh_each (s : Nat) (w : World) :
    Calls Try.prog 47 #[.pointer (some ⟨s, 0, none⟩)] w fun e w' => e = .returned (.func (.func 75) #[] #[.pointer (some ⟨w.heap.size, 0, none⟩)]) ∧ w' = w.alloc (.cells #[.pointer (some ⟨s, 0, none⟩)] 56) := by
  have hmf : ∀ (fn : Fn) (first cap : Array Value) (w : World), (Instr.makeFunc fn first cap).run Try.prog w = .ok (.func fn first cap) w := fun _ _ _ _ => rfl
  go_enter Try.func47, Try.ntmps47
  go_wp2_with fail
  go_ret
  exact ⟨rfl, rfl⟩
end Go.Proofs.Ytniacolkjdmflaa
end
section
namespace Go.Proofs.Ytniacolkjdmflaa
open Go.RowKit
set_option maxRecDepth 100000
set_option linter.all false

set_option maxHeartbeats 3200000 in
theorem sh_get (B : World) (s tb : Nat) (l : List En) (v : Value) (x : ByteArray) (e : En) (he : (lookE l x).getD enZero = e) (w : World) (h : Sh w s tb) (ht : Se.Tb B tb 4096 (prs l) v w) :
    Calls Try.prog 20 #[.pointer (some ⟨s, 0, none⟩), .string x] w fun E w' => E = .returned (.tuple #[.agg #[.string e.k, .string e.v, .bool e.d, .int .i64 e.s.c, .int .i64 e.s.s, .int .i64 e.a.c, .int .i64 e.a.s, .int .i64 e.p, .int .i64 e.g], .bool (hasE l x)]) ∧ Only none_ w w' := by
  have O0 := Lib.hid ((Only.refl none_ w).alloc (.cells #[.string ⟨#[]⟩, .string ⟨#[]⟩, .bool false, .int .i64 0, .int .i64 0, .int .i64 0, .int .i64 0, .int .i64 0, .int .i64 0] 51))
  have B0 := Lib.hid (Blk.new w 51 #[.string ⟨#[]⟩, .string ⟨#[]⟩, .bool false, .int .i64 0, .int .i64 0, .int .i64 0, .int .i64 0, .int .i64 0, .int .i64 0])
  have H1 := Lib.hid (h.keep O0.out (fun h => h))
  have c0 := H1.out.c0
  have HG := Se.tb_get B tb 4096 (prs l) v x _ (ht.keep O0.out)
  rw [get_prs ht.rs, he, has_prs] at HG
  generalize hasE l x = hs at HG ⊢
  have HGG := Lib.hid HG
  obtain ⟨k, vv, d, ⟨sc, ss⟩, ⟨ac, as_⟩, p, g⟩ := e
  dsimp only at HGG ⊢
  clear h ht HG he
  go_enter Try.func20, Try.ntmps20
  go_wp2_with (first
    | (go_at_call 54; refine (sh_of s tb x _ H1.out).mono ?_; rintro E w1 ⟨rfl, rfl⟩)
    | (go_at_call 55; refine HGG.out.mono ?_; rintro E w1 ⟨rfl, o1⟩
       have O1 := Lib.hid (O0.out.trans o1)
       have B1 : Hid (Blk w1 w.heap.size 51 #[.string ⟨#[]⟩, .string ⟨#[]⟩, .bool false, .int .i64 0, .int .i64 0, .int .i64 0, .int .i64 0, .int .i64 0, .int .i64 0]) := B0.out.only o1 (fun h => h)
       clear o1)
    | (refine wpList_store_row rfl 51 _ _ rfl w.heap.size #[.string (⟨k, vv, d, ⟨sc, ss⟩, ⟨ac, as_⟩, p, g⟩ : En).k, .string (⟨k, vv, d, ⟨sc, ss⟩, ⟨ac, as_⟩, p, g⟩ : En).v, .bool (⟨k, vv, d, ⟨sc, ss⟩, ⟨ac, as_⟩, p, g⟩ : En).d, .int .i64 (⟨k, vv, d, ⟨sc, ss⟩, ⟨ac, as_⟩, p, g⟩ : En).s.c, .int .i64 (⟨k, vv, d, ⟨sc, ss⟩, ⟨ac, as_⟩, p, g⟩ : En).s.s, .int .i64 (⟨k, vv, d, ⟨sc, ss⟩, ⟨ac, as_⟩, p, g⟩ : En).a.c, .int .i64 (⟨k, vv, d, ⟨sc, ss⟩, ⟨ac, as_⟩, p, g⟩ : En).a.s, .int .i64 (⟨k, vv, d, ⟨sc, ss⟩, ⟨ac, as_⟩, p, g⟩ : En).p, .int .i64 (⟨k, vv, d, ⟨sc, ss⟩, ⟨ac, as_⟩, p, g⟩ : En).g] rfl rfl _ _ B1.out (by kernel_rfl) rfl (en_cells_one _) ?_))
  refine bodyPost_ret (results_cell_tmp rfl _ _ w.heap.size 51 #[.string (⟨k, vv, d, ⟨sc, ss⟩, ⟨ac, as_⟩, p, g⟩ : En).k, .string (⟨k, vv, d, ⟨sc, ss⟩, ⟨ac, as_⟩, p, g⟩ : En).v, .bool (⟨k, vv, d, ⟨sc, ss⟩, ⟨ac, as_⟩, p, g⟩ : En).d, .int .i64 (⟨k, vv, d, ⟨sc, ss⟩, ⟨ac, as_⟩, p, g⟩ : En).s.c, .int .i64 (⟨k, vv, d, ⟨sc, ss⟩, ⟨ac, as_⟩, p, g⟩ : En).s.s, .int .i64 (⟨k, vv, d, ⟨sc, ss⟩, ⟨ac, as_⟩, p, g⟩ : En).a.c, .int .i64 (⟨k, vv, d, ⟨sc, ss⟩, ⟨ac, as_⟩, p, g⟩ : En).a.s, .int .i64 (⟨k, vv, d, ⟨sc, ss⟩, ⟨ac, as_⟩, p, g⟩ : En).p, .int .i64 (⟨k, vv, d, ⟨sc, ss⟩, ⟨ac, as_⟩, p, g⟩ : En).g] _ rfl (B1.out.setRow _) Try.underlying51 rfl (by kernel_rfl) (.bool hs) rfl) rfl ?_
  exact ⟨rfl, O1.out.setRow (.inr (Nat.le_refl _)) _⟩

theorem tb_put_ok (B : World) (g : Nat) (l : List En) (v : Value) (e : En) (w : World) (h : Se.Tb B g 4096 (prs l) v w) (hr : l.length < 4096) :
    Calls Try.prog 77 #[.pointer (some ⟨g, 0, none⟩), .string e.k, .agg #[.string e.k, .string e.v, .bool e.d, .int .i64 e.s.c, .int .i64 e.s.s, .int .i64 e.a.c, .int .i64 e.a.s, .int .i64 e.p, .int .i64 e.g]] w fun E w' => E = .returned (.int .i64 0) ∧ Se.LeftT B g 4096 v w (prs (setE e l)) w' := by
  rw [← put_prs e l (ris_prs h.rs)]
  by_cases hs : has (prs l) e.k = true
  · exact Se.tb_put_has B g 4096 (prs l) v e.k e w h hs
  · exact Se.tb_put_new B g 4096 (prs l) v e.k e w h (by simpa using hs) (by rw [prs_length]; omega)

set_option maxHeartbeats 3200000 in
theorem sh_put (B : World) (s tb : Nat) (l : List En) (v : Value) (e : En) (w : World) (h : Sh w s tb) (ht : Se.Tb B tb 4096 (prs l) v w) (hr : l.length < 4096) :
    Calls Try.prog 48 #[.pointer (some ⟨s, 0, none⟩), .agg #[.string e.k, .string e.v, .bool e.d, .int .i64 e.s.c, .int .i64 e.s.s, .int .i64 e.a.c, .int .i64 e.a.s, .int .i64 e.p, .int .i64 e.g]] w fun E w' => E = .returned (.tuple #[]) ∧ Se.LeftT B tb 4096 v w (prs (setE e l)) w' := by
  have O0 := Lib.hid ((Only.refl none_ w).alloc (.cells #[.string e.k, .string e.v, .bool e.d, .int .i64 e.s.c, .int .i64 e.s.s, .int .i64 e.a.c, .int .i64 e.a.s, .int .i64 e.p, .int .i64 e.g] 51))
  have B0 := Lib.hid (Blk.new w 51 #[.string e.k, .string e.v, .bool e.d, .int .i64 e.s.c, .int .i64 e.s.s, .int .i64 e.a.c, .int .i64 e.a.s, .int .i64 e.p, .int .i64 e.g])
  have H1 := Lib.hid (h.keep O0.out (fun h => h))
  have HP := Lib.hid (fun (w' : World) (o : Only none_ (w.alloc (.cells #[.string e.k, .string e.v, .bool e.d, .int .i64 e.s.c, .int .i64 e.s.s, .int .i64 e.a.c, .int .i64 e.a.s, .int .i64 e.p, .int .i64 e.g] 51)) w') => tb_put_ok B tb l v e w' ((ht.keep O0.out).keep o) hr)
  have HS := Lib.hid (fun (w' : World) (o : Only none_ (w.alloc (.cells #[.string e.k, .string e.v, .bool e.d, .int .i64 e.s.c, .int .i64 e.s.s, .int .i64 e.a.c, .int .i64 e.a.s, .int .i64 e.p, .int .i64 e.g] 51)) w') => (H1.out.keep o (fun h => h)).c0)
  have HLA := Lib.hid (fun (w' w2 : World) (l' : List (Pr En)) (o : Only none_ (w.alloc (.cells #[.string e.k, .string e.v, .bool e.d, .int .i64 e.s.c, .int .i64 e.s.s, .int .i64 e.a.c, .int .i64 e.a.s, .int .i64 e.p, .int .i64 e.g] 51)) w') (h : Se.LeftT B tb 4096 v w' l' w2) => Se.LeftT.after0 (O0.out.trans o) h)
  generalize setE e l = l2 at HP ⊢
  have S1 := Lib.hid (H1.out.c0)
  clear h ht hr
  go_enter Try.func48, Try.ntmps48
  go_wp2_with (first
    | (go_at_call 54; refine (sh_of s tb _ _ H1.out).mono ?_; rintro E w1 ⟨rfl, rfl⟩))
  (refine wp_region_free_tail (fun w' => Only none_ (w.alloc (.cells #[.string e.k, .string e.v, .bool e.d, .int .i64 e.s.c, .int .i64 e.s.s, .int .i64 e.a.c, .int .i64 e.a.s, .int .i64 e.p, .int .i64 e.g] 51)) w') (Only none_) (F := ?_) (by kernel_rfl) 7 23 (by rfl) (by kernel_rfl) (fun x => ?_) ((Only.refl none_ _).drew) ?_; rotate_left; (· (simp only [List.take_succ_cons, List.take_zero, putsL, Act.put, List.setIfInBounds_toArray, List.set_cons_zero, List.set_cons_succ, Nat.reduceAdd]; exact rfl)); simp only [List.take_succ_cons, List.take_zero, List.drop_succ_cons, List.drop_zero])
  repeat (first
    | ((first | refine fr_value (c := ?_) (by rfl) (fun w => Only.refl none_ w) (fun x w0 hS hk => ?_) ?_ | refine fr_value_if (c := ?_) (by rfl) (by rfl) (by rfl) (fun w => Only.refl none_ w) (fun x w0 hS hk => ?_) ?_); rotate_left; (· (have hk2 := hk; (try simp [knAll, Region.binds] at hk2); have hc := HS.out _ hS; obtain ⟨t0, t1, t2, t3, t4, t5, t6, t7, t8⟩ := nine_of (B0.out.only hS (fun h => h)); go_simp; try (with_reducible rfl))); try simp only [List.nil_append, List.cons_append]))
  (refine fr_end ?_; intro x w9 hS hk)
  have e3 := kn_end_at 3 hk (by rfl)
  have e5 := kn_end_at 5 hk (by rfl)
  have e6 := kn_end_at 6 hk (by rfl)
  rw [Nat.zero_add] at e3 e5 e6
  rw [e3, e5, e6]
  have O9 := Lib.hid hS
  clear hk hS e3 e5 e6
  go_wp2_with (first
    | (go_at_call 77; refine (HP.out _ O9.out).mono ?_; rintro E w2 ⟨rfl, hL⟩
       have HL2 := Lib.hid (HLA.out _ _ _ O9.out hL)
       clear hL))
  go_end0
  exact ⟨rfl, HL2.out⟩

set_option maxHeartbeats 1600000 in
theorem tb_filled (B : World) (w : World) (hB : Only none_ B w) :
    Calls Try.prog 74 #[.slice none 0 0] w fun E w' => ∃ g, E = .returned (.pointer (some ⟨g, 0, none⟩)) ∧ w.heap.size ≤ g ∧ Se.Tb B g 4096 (prs []) (.slice none 0 0) w' ∧ Only none_ w w' := by
  have HN := Lib.hid (Se.tb_new_yes B 4096 w hB (by decide) (by decide))
  clear hB
  go_enter Try.func74, Try.ntmps74
  go_wp2_with (first
    | (go_at_call 103; refine HN.out.mono ?_; rintro E w1 ⟨g, rfl, hg, ht, o1⟩
       have F := Lib.hid (And.intro hg (And.intro ht o1))
       clear hg ht o1))
  refine wp_loop_rounds 1 ?_
  rw [rounds_succ]
  go_wp2_with fail
  go_ret
  exact ⟨g, rfl, F.out.1, F.out.2.1, F.out.2.2⟩
set_option maxHeartbeats 1600000 in
theorem sh_new (B : World) (w : World) (hB : Only none_ B w) :
    Calls Try.prog 45 #[] w fun E w' => ∃ g, E = .returned (.agg #[.pointer (some ⟨g, 0, none⟩), .string ⟨#[]⟩, .pointer none]) ∧ w.heap.size ≤ g ∧ Se.Tb B g 4096 (prs []) (.slice none 0 0) w' ∧ Only none_ w w' := by
  have O0 := Lib.hid ((Only.refl none_ w).alloc (.cells #[.pointer none, .string ⟨#[]⟩, .pointer none] 58))
  have B0 := Lib.hid (Blk.new w 58 #[.pointer none, .string ⟨#[]⟩, .pointer none])
  have HF := Lib.hid (tb_filled B _ (hB.trans O0.out))
  have HBS := Lib.hid hB.size
  clear hB
  go_enter Try.func45, Try.ntmps45
  go_wp2_with (first
    | (go_at_call 74; refine HF.out.mono ?_; rintro E w1 ⟨g, rfl, hg, ht, o1⟩
       have O1 := Lib.hid (O0.out.trans o1)
       have B1 : Hid (Blk w1 w.heap.size 58 #[.pointer none, .string ⟨#[]⟩, .pointer none]) := B0.out.only o1 (fun h => h)
       have F := Lib.hid (And.intro hg ht)
       clear hg ht o1)
    | (refine wpList_store_row rfl 58 _ _ rfl w.heap.size #[.pointer (some ⟨g, 0, none⟩), .string ⟨#[]⟩, .pointer none] rfl rfl _ _ B1.out (by kernel_rfl) rfl (by simp [Value.oneCell']) ?_))
  have oS : Only (one w.heap.size) w1 (w1.setRow w.heap.size #[.pointer (some ⟨g, 0, none⟩), .string ⟨#[]⟩, .pointer none]) := only_row _ _
  have hgs : w.heap.size < g := by have h1 := F.out.1; simp only [World.size_alloc] at h1; omega
  have hbs := O0.out.size
  refine bodyPost_ret (results_cell_row rfl _ _ w.heap.size 58 _ (0, 0) _ rfl (B1.out.setRow _) Try.underlying58 rfl (by kernel_rfl)) rfl ?_
  refine ⟨g, rfl, by omega, ?_, O1.out.setRow (.inr (Nat.le_refl _)) _⟩
  have hB' : B.heap.size ≤ w.heap.size := HBS.out
  exact F.out.2.apart oS (fun k hk e => by
    have e' : k = w.heap.size := e
    rcases hk with h1 | h1
    · omega
    · cases h1) (fun k e => by have e' : k = w.heap.size := e; omega)
end Go.Proofs.Ytniacolkjdmflaa
end
section
namespace Go.Proofs.Ytniacolkjdmflaa
open Go.RowKit Go.Shelf
set_option maxRecDepth 100000
set_option linter.all false

/-- Cells outside of what T tells are as they were; and T tells of nothing more that was there. -/
structure Kc (T : World → Nat → Prop) (W W' : World) : Prop where
  size : W.heap.size ≤ W'.heap.size
  cells : ∀ b o, W.heap[b]? = some o → o.isCells = true → ¬ T W b → W'.heap[b]? = some o
  grows : ∀ b, T W' b → T W b ∨ W.heap.size ≤ b
/-- T looks at blocks below B alone. -/
def Stab (T : World → Nat → Prop) (B : Nat) : Prop := ∀ W W' : World, (∀ k, k < B → W'.heap[k]? = W.heap[k]?) → ∀ b, T W' b → T W b
section
variable {T : World → Nat → Prop} {A B C W W' : World} {N : Nat}
theorem lt_of_obj {k : Nat} {o : Obj} (h : W.heap[k]? = some o) : k < W.heap.size := (Array.getElem?_eq_some_iff.1 h).1
theorem Kc.refl (T : World → Nat → Prop) (W : World) : Kc T W W := ⟨Nat.le_refl _, fun _ _ h _ _ => h, fun _ h => .inl h⟩
theorem Kc.trans (h : Kc T A B) (k : Kc T B C) : Kc T A C where
  size := Nat.le_trans h.size k.size
  cells b o ho hc hn := k.cells b o (h.cells b o ho hc hn) hc fun ht => (h.grows b ht).elim hn fun hb => by have := lt_of_obj ho; omega
  grows b hb := (k.grows b hb).elim (h.grows b) fun hs => .inr (Nat.le_trans h.size hs)
theorem cell_obj {p : Addr} {v : Value} (h : W.cell? p = some v) : ∃ o, W.heap[p.block]? = some o ∧ o.isCells = true := by
  unfold World.cell? at h
  cases ho : W.heap[p.block]? with
  | none => rw [ho] at h; cases h
  | some o => exact ⟨o, rfl, by rw [ho] at h; cases o <;> first | rfl | cases h⟩
theorem Kc.cell (h : Kc T W W') {p : Addr} {v : Value} (hc : W.cell? p = some v) (hn : ¬ T W p.block) : W'.cell? p = some v := by
  obtain ⟨o, ho, ho'⟩ := cell_obj hc
  rw [World.cell?_of_block ((h.cells _ o ho ho' hn).trans ho.symm)]
  exact hc
theorem Kc.not (h : Kc T W W') {b : Nat} (hn : ¬ T W b) (hb : b < W.heap.size) : ¬ T W' b := fun ht => (h.grows b ht).elim hn fun hs => by omega
theorem Kc.blk (h : Kc T W W') {b : Nat} {t : TypeId} {cs : Array Value} (hb : Blk W b t cs) (hn : ¬ T W b) : Blk W' b t cs := h.cells b _ hb rfl hn
theorem Kc.cel (h : Kc T W W') {v : Value} {n k : Nat} {cs : List Value} (hc : Cel W (fun b => ¬ T W b) v n k cs) : Cel W' (fun b => ¬ T W' b) v n k cs := by
  obtain ⟨A, c, rfl, h0, h1, h2, h3, h4⟩ := hc
  refine ⟨A, c, rfl, h0, h1, h2, h3, fun hp => ?_⟩
  obtain ⟨b, off, rfl, hs, hlt, hc⟩ := h4 hp
  exact ⟨b, off, rfl, h.not hs hlt, Nat.lt_of_lt_of_le hlt h.size, fun j u hu => h.cell (p := ⟨b, off + j, none⟩) (hc j u hu) hs⟩
/-- Steps that keep what was there below N, and turn no cells elsewhere. -/
theorem Kc.of_grown (hT : Stab T N) {row : Option Nat} (hg : W.grownBy W' row) (hN : N ≤ W.heap.size) (hr : ∀ r, row = some r → N ≤ r ∧ ∃ o : Obj, W.heap[r]? = some o ∧ o.isCells = false) : Kc T W W' where
  size := hg.size
  cells b o ho hc _ := (hg.block b (lt_of_obj ho) (fun e => by
    obtain ⟨_, o', ho', hc'⟩ := hr b e.symm
    rw [ho] at ho'
    cases ho'
    rw [hc] at hc'
    cases hc')).trans ho
  grows b hb := .inl (hT W W' (fun k hk => hg.block k (by omega) (fun e => by have := (hr k e.symm).1; omega)) b hb)
theorem Kc.alloc (hT : Stab T N) (hN : N ≤ W.heap.size) (o : Obj) : Kc T W (W.alloc o) := Kc.of_grown hT (World.grownBy_alloc W o none) hN (fun r e => by cases e)
theorem Kc.putObj (hT : Stab T N) {l : Nat} {o : Obj} (o' : Obj) (hN : N ≤ l) (hl : W.heap[l]? = some o) (ho : o.isCells = false) : Kc T W (W.putObj l o') :=
  Kc.of_grown hT (grownBy_putObj' W l o') (by have := lt_of_obj hl; omega) (fun r e => by cases e; exact ⟨hN, o, hl, ho⟩)
/-- All but what T tells, or none of it, is as it was. -/
theorem Kc.of_only {S : Nat → Prop} (o : Only S W W') (hS : ∀ b, b < W.heap.size → S b → T W b) (hg : ∀ b, T W' b → T W b ∨ W.heap.size ≤ b) : Kc T W W' :=
  ⟨o.size, fun b x hx _ hn => (o.block b (lt_of_obj hx) (fun hs => hn (hS b (lt_of_obj hx) hs))).trans hx, hg⟩
theorem Stab.only {S : Nat → Prop} (hT : Stab T N) (o : Only S W W') (hN : N ≤ W.heap.size) (hS : ∀ k, k < N → ¬ S k) (b : Nat) (hb : T W' b) : T W b := hT W W' (fun k hk => o.block k (by omega) (hS k hk)) b hb
/-- Further steps: what they change is told, or was made since. -/
theorem Kc.then {S : Nat → Prop} (h : Kc T A W) (o : Only S W W') (hS : ∀ b, b < A.heap.size → S b → T W b) (hg : ∀ b, T W' b → T W b ∨ A.heap.size ≤ b) : Kc T A W' :=
  ⟨Nat.le_trans h.size o.size, fun b x hx hc hn => (o.block b (lt_of_obj (h.cells b x hx hc hn)) (fun hs => h.not hn (lt_of_obj hx) (hS b (lt_of_obj hx) hs))).trans (h.cells b x hx hc hn),
    fun b hb => (hg b hb).elim (h.grows b) .inr⟩
/-- What is no cells is as it was, but for one. -/
def Ko (l : Nat) (W W' : World) : Prop := ∀ k o, k ≠ l → W.heap[k]? = some o → o.isCells = false → W'.heap[k]? = some o
end

/-- What a function that is ranged over does, if all rounds go on: it comes by all of xs, in order. Kp: what a round of loop l keeps. -/
def Goes {α : Type} (P : Program) (g : Nat) (lb : Array Value) (encs : α → Array Value) (Kp : Nat → World → World → Prop) (xs : List α) (w : World) : Prop :=
  ∀ (l : Nat) (J : List α → World → Prop) (W : World), Below w.heap.size w W → l < W.heap.size → OwnFrom W.heap.size J →
    (∀ pre x W1, J pre W1 → pre ++ [x] <+: xs → ∀ m, YieldAt Fence.wide m P l (encs x) W1 fun e W' => e = .returned (.bool true) ∧ J (pre ++ [x]) W' ∧ Kp l W1 W') →
    J [] W → ∀ n, CallsIn Fence.wide n P g (#[.func (.yield l) #[] #[]] ++ lb) W fun e W' => (∃ v, e = .returned v) ∧ J xs W'

/-- A round's contract goes into a round as it is. -/
theorem roundIn_in {F : Fence} {n : Nat} {P : Program} {l : Nat} {f : FuncId} {tmps : Array Value} {assign body : Code} {w : World} {R : Ending → World → Prop} (k : Nat) (h : RoundIn F n P l f tmps assign body w R) : RoundIn (F.inRound k) n P l f tmps assign body w R := h
/-- With no bound on the depth, at whatever depth. -/
theorem roundIn_any {n : Nat} {P : Program} {l : Nat} {f : FuncId} {tmps : Array Value} {assign body : Code} {w : World} {R : Ending → World → Prop} (m : Nat) (h : RoundIn Fence.wide n P l f tmps assign body w R) : RoundIn Fence.wide m P l f tmps assign body w R :=
  ⟨h.1, fun c cs _ => h.2 c cs (room_wide _)⟩
/-- How a round ends. -/
def onPost {α : Type} (B : Nat) (Kp : World → World → Prop) (I : List α → World → Prop) (xs : List α) (X W : World) : Exit → Act → World → Prop
  | .normal, _, W' => KeepsFrom B W W' ∧ Kp X W' ∧ I xs W'
  | _, _, _ => False

theorem range_goes {α : Type} {n : Nat} {P : Program} {g : Operand} {ps : Array Tmp} {assign body : Code} {Q : Exit → Act → World → Prop} {a : Act} {w : World} {gf : Nat} {lb : Array Value}
    (hg : a.eval g = .func (.func gf) #[] lb) (eg : ∀ args w, (callFunc gf args).run P w = .ok (.enter gf args) w)
    {encs : α → Array Value} {Kp : Nat → World → World → Prop} {xs : List α} {w0 : World} (hseq : Goes P gf lb encs Kp xs w0) (hb0 : Below w0.heap.size w0 w) (hps : ∀ x, (encs x).size = ps.size)
    (hKt : ∀ {A B C : World}, Kp (w.heap.size + 1) A B → Kp (w.heap.size + 1) B C → Kp (w.heap.size + 1) A C)
    (hKb : ∀ (W : World) (r r' : Loop), W.heap[w.heap.size + 1]? = some (.loop r) → Kp (w.heap.size + 1) W (W.putObj (w.heap.size + 1) (.loop r')))
    (I : List α → World → Prop) (hI : OwnFrom w.heap.size I) (h0 : I [] w)
    (hround : ∀ (pre : List α) (x : α) (W : World), w.heap.size + 1 < W.heap.size → I pre W → pre ++ [x] <+: xs →
      assign.wpIn (Fence.wide.inRound (w.heap.size + 1)) 5 P (Exit.then (fun a' W' => KeepsFrom w.heap.size W W' ∧ I pre W' ∧
        ∀ r : Loop, (∃ r0, W'.heap[w.heap.size + 1]? = some (.loop r0)) → I pre (W'.putObj (w.heap.size + 1) (.loop r)) → body.wpIn (Fence.wide.inRound (w.heap.size + 1)) 5 P (onPost w.heap.size (Kp (w.heap.size + 1)) I (pre ++ [x]) W (W'.putObj (w.heap.size + 1) (.loop r))) a' (W'.putObj (w.heap.size + 1) (.loop r))) (fun _ _ _ => False))
        { tmps := (ps.zip (encs x)).foldl (fun t (p, v) => t.setIfInBounds p v) a.tmps, defers := [] } W)
    (hdone : ∀ (D : Nat) (W : World), w.heap.size ≤ D → I xs W → W.heap[D]? = some (.deferred (some [])) → Q .normal { a with defers := { target := .collected D, args := #[] } :: a.defers } W) :
    (Code.rangeFunc g ps assign body).wpIn Fence.wide (n + 1) P Q a w := by
  refine wpIn_rangeFunc fun fn _ => ?_
  generalize hL : w.heap.size + 1 = L at *
  obtain ⟨rc, hrc⟩ : ∃ rc : LoopState → Option Code → Obj, rc = fun st pe => .loop { state := st, pending := pe, fn, tmps := a.tmps, params := ps, assign, body, defers := w.heap.size } := ⟨_, rfl⟩
  have hrl : ∀ st pe, (rc st pe).isCells = false := fun st pe => by rw [hrc]; rfl
  let W1 := (w.alloc (.deferred (some []))).alloc (rc .ready none)
  have h11 : W1.heap.size = w.heap.size + 2 := by show ((w.alloc _).alloc _).heap.size = _; rw [World.size_alloc, World.size_alloc]
  have hl1 : W1.heap[L]? = some (rc .ready none) := by
    have := World.alloc_heap_new (w.alloc (.deferred (some []))) (rc .ready none)
    rw [World.size_alloc, hL] at this
    exact this
  have hd1 : W1.heap[w.heap.size]? = some (.deferred (some [])) := (Below.heap_alloc _ _ _ (by rw [World.size_alloc]; omega)).trans (World.alloc_heap_new w _)
  have hent : (Instr.enterLoop fn a.tmps ps assign body none).run P w = .ok (L, [{ target := .collected w.heap.size, args := #[] }]) W1 := by
    rw [run_enterLoop_outer, hL]
    show _ = Result.ok _ ((w.alloc _).alloc (rc .ready none))
    rw [hrc]
  -- what holds between two rounds
  let J : List α → World → Prop := fun pre W => I pre W ∧ W.heap[L]? = some (rc .ready none) ∧ W.heap[w.heap.size]? = some (.deferred (some []))
  have hJ : OwnFrom W1.heap.size J := fun s A B row h hgr hr => by
    have far : ∀ k o, k < W1.heap.size → A.heap[k]? = some o → B.heap[k]? = some o := fun k o hk ho => (hgr.block k (lt_of_obj ho) (fun e => by have := (hr k e.symm).1; omega)).trans ho
    exact ⟨hI s A B row h.1 hgr (fun r e => ⟨by have := (hr r e).1; omega, (hr r e).2⟩), far _ _ (by omega) h.2.1, far _ _ (by omega) h.2.2⟩
  refine ⟨L, _, W1, { target := .fn (.func gf) lb, args := #[.func (.yield L) #[] #[]] }, W1, gf, #[.func (.yield L) #[] #[]] ++ lb, W1, hent, ?_, fun _ _ => trivial, ?_, fun _ => Nat.le_add_left 1 n, ?_⟩
  · simp only [resolve, hg]
    simp [go_sem]
  · simp [invoke, go_sem, eg]
  · refine (hseq L J W1 (hb0.trans ((((Below.refl _ w).alloc (Nat.le_refl _) _).alloc (by simp) _).mono hb0.size)) (by omega) hJ ?_ ⟨hI.alloc _ (hI.alloc _ h0), hl1, hd1⟩ n).mono ?_
    · rintro pre x W ⟨hi, hl, hd⟩ hlen m
      have hlr := hl
      rw [hrc] at hlr
      have hy := run_yield (P := P) (args := encs x) hlr (hps x)
      refine ⟨fn, _, assign, body, hy, roundIn_any m (roundIn_of_wpIn trivial (wpIn_mono (hround pre x W (lt_of_obj hl) hi hlen) ?_))⟩
      rintro e a' W' hp
      cases e with
      | normal =>
        obtain ⟨ko, hi', hbody⟩ := hp
        have hl' := ko.same _ _ (by omega) hl (hrl _ _)
        have hd' := ko.same _ _ (Nat.le_refl _) hd rfl
        have hlt' := lt_of_obj hl'
        have hlr' := hl'
        rw [hrc] at hlr'
        refine ⟨_, run_beginRound hlr' rfl, ?_⟩
        obtain ⟨r2, hr2⟩ : ∃ r2 : Loop, r2 = { state := .busy, pending := none, fn, tmps := a.tmps, params := ps, assign, body, defers := w.heap.size } := ⟨_, rfl⟩
        have hi2 : I pre (W'.putObj L (.loop r2)) := hI.putObj _ hi' (by omega) hl' (hrl _ _)
        have hb := hbody r2 ⟨_, hlr'⟩ hi2
        have hl2 : (W'.putObj L (.loop r2)).heap[L]? = some (.loop r2) := World.putObj_heap_same hlt'
        have hd2 : (W'.putObj L (.loop r2)).heap[w.heap.size]? = some (.deferred (some [])) := (World.putObj_heap_other (by omega)).trans hd'
        rw [hr2] at hb hl2 hd2
        refine wpIn_mono hb ?_
        rintro e3 a3 W3 hp3
        cases e3 with
        | normal =>
          obtain ⟨ko3, kp3, hi3⟩ := hp3
          have hl3 := ko3.same _ _ (by omega) hl2 rfl
          have hd3 := ko3.same _ _ (Nat.le_refl _) hd2 rfl
          have hend := run_endRound (P := P) none hl3
          simp only [Option.isNone_none, if_true] at hend
          refine ⟨_, _, hend, rfl, ⟨hI.putObj _ hi3 (by omega) hl3 rfl, ?_, (World.putObj_heap_other (by omega)).trans hd3⟩, hKt kp3 (hKb W3 _ _ hl3)⟩
          rw [World.putObj_heap_same (lt_of_obj hl3), hrc]
        | ret => exact hp3.elim
        | exit id => exact hp3.elim
        | goto t => exact hp3.elim
        | panic ch => exact hp3.elim
        | outgrown => exact hp3.elim
      | ret => exact hp.elim
      | exit id => exact hp.elim
      | goto t => exact hp.elim
      | panic ch => exact hp.elim
      | outgrown => exact hp.elim
    · rintro e W2 ⟨⟨v, rfl⟩, hi, hl, hd⟩
      have hlr := hl
      rw [hrc] at hlr
      exact ⟨none, _, run_endLoop hlr (by simp), hdone w.heap.size _ (Nat.le_refl _) (hI.putObj _ hi (by omega) hl (hrl _ _)) ((World.putObj_heap_other (by omega)).trans hd)⟩
end Go.Proofs.Ytniacolkjdmflaa
end
