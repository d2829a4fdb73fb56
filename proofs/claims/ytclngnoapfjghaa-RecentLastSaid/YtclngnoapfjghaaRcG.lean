/- What Put of an index does. No statement of the seat is proved here. -/
import Derived.Test.YtclngnoapfjghaaRcF
import Derived.Deep.RegionLaw
namespace Go.Proofs.Ytclngnoapfjghaa
open Go.RowKit
set_option maxRecDepth 100000
set_option linter.all false

theorem step_call {P : Program} {ops : Array Oper} {o : Oper} {a : Act} {w : World} {K : Act → World → Prop} {Q : Exit → Act → World → Prop} {E : Prop} (hwd : Region.wanted o (yielded ops a.tmps) = true) (f : FuncId) (args : Array Value)
    (hrun : (execOp a.eval o).run P w = .ok (.enter f args) w) (h : Calls P f args w fun e w' => ∃ v, e = .returned v ∧ K (a.put o.dst v) w') :
    if Region.wanted o (yielded ops a.tmps) = true then Oper.wp P o a w K Q else E := by
  rw [if_pos hwd]
  unfold Oper.wp
  rw [hrun]
  exact h.mono fun e w'' ⟨v, he, hk⟩ => by subst he; exact hk

/-- An insertion, wherever. -/
theorem insW (base : Nat) (A : Option Addr) (n c i vb : Nat) (xs ys : List Value) (w : World) (h : w.ownsRow base 39 3 (.slice A n c) n xs) (hi : i ≤ n) (hn : n ≤ 4096) (hb : base ≤ w.heap.size)
    (hv : Blk w vb 39 ys.toArray) (hne : (Value.slice A n c).ownBlock ≠ some vb) (hy : ys.length = 3) (h1x : ∀ u ∈ xs, u.oneCell' = true) (h1y : ∀ u ∈ ys, u.oneCell' = true) :
    Calls Try.prog 43 #[.slice A n c, .int .i64 i, .slice (some ⟨vb, 0, none⟩) 1 1] w fun e w' => ∃ v', e = .returned v' ∧ w'.ownsRow base 39 3 v' (n + 1) (xs.take (i * 3) ++ ys ++ xs.drop (i * 3)) ∧ Only (ownb (.slice A n c)) w w' ∧ Moved w (.slice A n c) v' := by
  have hxl : xs.length = n * 3 := h.1
  by_cases hin : i = n
  · subst hin
    refine (insM_end base A i c vb xs ys w h hn hb hv hy h1y).mono ?_
    rintro e w' ⟨v', rfl, h1, h2, h3⟩
    refine ⟨v', rfl, ?_, h2, h3⟩
    rw [List.take_of_length_le (by omega), List.drop_of_length_le (by omega), List.append_nil]
    exact h1
  · obtain ⟨g, cur, rfl, hr, hnc, hx⟩ := own_rw h (by omega)
    have hvg : vb ≠ g := fun e => hne (by rw [e]; rfl)
    refine (insM_mid base g n c i vb cur xs ys w hr hx (by omega) hnc hn hb hv hvg hy h1x h1y).mono ?_
    rintro e w' ⟨v', rfl, h1, h2, h3⟩
    refine ⟨v', rfl, h1, h2.mono (fun k _ e => by have e' : k = g := e; rw [e']; rfl), fun k hk => (h3 k hk).imp (fun e => by rw [e]; rfl) id⟩

/-- What an insertion into an index leaves, once it is stored. -/
theorem ins_step (N g mb : Nat) (l : List Mk) (A : Option Addr) (c : Nat) (m : Mk) (w4 w' : World) (vb : Nat) (h4 : Rc N g mb l (m :: l) (.slice A l.length c) w4) (hno : ∀ y ∈ l, y.k ≠ m.k) (hl : l.length + 1 ≤ 100)
    (o : Only none_ w4 w') (hv : Blk w' vb 39 #[.int .i64 m.a.c, .int .i64 m.a.s, .string m.k]) (hvb : w4.heap.size ≤ vb) :
    Calls Try.prog 43 #[.slice A l.length c, .int .i64 (bh l m), .slice (some ⟨vb, 0, none⟩) 1 1] w'
      fun e w'' => ∃ A' n' c', e = .returned (.slice A' n' c') ∧ w''.cell? ⟨g, 1, none⟩ = some (.slice A l.length c) ∧ w''.frozen? ⟨g, 1, none⟩ = false ∧ Only (ownb (.slice A l.length c)) w4 w'' ∧
        Rc N g mb (insM m l) (insM m l) (.slice A' n' c') (w''.setCell ⟨g, 1, none⟩ (.slice A' n' c')) ∧ Only (Ft g mb (.slice A l.length c)) w4 (w''.setCell ⟨g, 1, none⟩ (.slice A' n' c')) ∧ Moved w4 (.slice A l.length c) (.slice A' n' c') := by
  have h5 := h4.keep o
  have hbl := bh_le l m
  have hne : (Value.slice A l.length c).ownBlock ≠ some vb := fun e => by have := (h4.ow.lt _ e).2; omega
  refine (insW N A l.length c (bh l m) vb _ [.int .i64 m.a.c, .int .i64 m.a.s, .string m.k] w' h5.ow hbl (by have := h4.ml; omega) (by have := h5.gn; have := h5.bk.lt; omega) hv hne rfl (mkI_one l) (by simp [Value.oneCell'])).mono ?_
  rintro e w5 ⟨v5, rfl, own5, o5, m5⟩
  obtain ⟨A5, n5, c5, rfl⟩ := own_shape own5
  have b5 := h5.bk.only o5 (fun e => own_blk_ne h5.ow h5.bk (by decide) e)
  have hmo : ¬ ownb (.slice A l.length c) mb := fun e => by
    obtain ⟨es, clock, hb, _⟩ := h5.mp
    rcases h5.ow.2 with ⟨h2, _⟩ | ⟨b, cap, cur, h2, _, hh, _⟩
    · injection h2 with h2; rw [h2] at e; cases e
    · injection h2 with h2; rw [h2] at e; have e' : some b = some mb := e; injection e' with e'
      rw [e', hb] at hh; cases hh
  have hnew : (insM m l).length = l.length + 1 := ins_len m l
  have hflat : (insM m l).flatMap mkI = (l.flatMap mkI).take (bh l m * 3) ++ [.int .i64 m.a.c, .int .i64 m.a.s, .string m.k] ++ (l.flatMap mkI).drop (bh l m * 3) := by
    rw [ins_at h4.ix.ds, List.flatMap_append, List.flatMap_cons, flat_take mkI mkI_len l _ hbl, flat_drop mkI mkI_len l _ hbl, List.append_assoc]
    rfl
  have o6 : Only (one g) w5 (w5.setCell ⟨g, 1, none⟩ (.slice A5 n5 c5)) := (Only.refl (one g) w5).setCell (.inl (show one g g from rfl)) _
  have hvg : (Value.slice A5 n5 c5).ownBlock ≠ some g := own_blk_ne own5 b5 (by decide)
  have hmg : mb ≠ g := h5.mp.ne_blk h5.bk
  have hpm : (m :: l).Perm (insM m l) := by
    rw [ins_at h4.ix.ds]
    refine List.Perm.trans ?_ List.perm_middle.symm
    rw [List.take_append_drop]
  refine ⟨A5, n5, c5, rfl, b5.cell_ (i := 1) rfl, b5.frozen 1, o.of_none.trans' o5 (fun k _ e => e), ⟨b5.set_ 1 _, ?_, ((h5.mp.only o5 hmo).only o6 (fun e => hmg e)).perm hpm, h4.gn, h4.mn, h4.ix.ins m hno, by rw [hnew]; exact hl⟩, ?_, ?_⟩
  · rw [hflat, hnew]
    exact owns_only own5 o6 (fun k hk e => hvg (by rw [hk, show k = g from e]))
  · exact (o.of_none.trans' o5 (fun k _ e => .inr (.inr e))).trans' o6 (fun k _ e => .inl e)
  · exact fun k hk => (m5 k hk).imp id (fun h => by have := o.size; omega)

set_option maxHeartbeats 12800000 in
theorem rc_put (N g mb : Nat) (l : List Mk) (v : Value) (m : Mk) (w : World) (h : Rc N g mb l l v w) (hk : m.k.size ≤ maxLen) (hl : l.length + 1 ≤ 100) :
    Calls Try.prog 14 #[.pointer (some ⟨g, 0, none⟩), .agg #[.int .i64 m.a.c, .int .i64 m.a.s, .string m.k]] w fun e w' => e = .returned (.bool (hasM l m.k)) ∧ LeftR N g mb v w (putM l m) w' := by
  have o0 : Only none_ w (w.alloc (.cells #[.int .i64 m.a.c, .int .i64 m.a.s, .string m.k] 39)) := (Only.refl none_ w).alloc _
  have B0 := Blk.new w 39 #[.int .i64 m.a.c, .int .i64 m.a.s, .string m.k]
  have HD := Lib.hid (rc_drop N g mb l v m.k _ (h.keep o0) hk)
  have hno := drop_gone l m.k
  have hdl := mdrop_len l m.k
  obtain ⟨b0, hb0⟩ : ∃ b0, w.heap.size = b0 := ⟨_, rfl⟩
  have b00 := B0.cell_ (i := 2) rfl
  unfold putM
  obtain ⟨l1, hl1⟩ : ∃ l1, dropM l m.k = l1 := ⟨_, rfl⟩
  rw [hl1] at HD hno hdl ⊢
  -- behind the drop, and the store into the map
  have HW : Hid (∀ (v1 : Value) (w1 : World), Rc N g mb l1 l1 v1 w1 → Only (Ft g mb v) (w.alloc (.cells #[.int .i64 m.a.c, .int .i64 m.a.s, .string m.k] 39)) w1 →
      Blk w1 b0 39 #[.int .i64 m.a.c, .int .i64 m.a.s, .string m.k] ∧ w1.cell? ⟨g, 0, none⟩ = some (.map (some mb))) := fun v1 w1 h1 o1 => by
    refine ⟨?_, h1.bk.cell_ (i := 0) rfl⟩
    rw [hb0] at B0
    exact B0.only o1 (fun e => by have := (h.foot e).2; omega)
  have HU : Hid (∀ (v1 : Value) (w1 w3 : World), Rc N g mb l1 l1 v1 w1 → Only none_ w1 w3 → ∃ w4, (Instr.mapUpdate 88 (.map (some mb)) (.string m.k) (.agg #[.int .i64 m.a.c, .int .i64 m.a.s])).run Try.prog w3 = .ok () w4 ∧ Rc N g mb l1 (m :: l1) v1 w4 ∧ Only (one mb) w3 w4) := fun v1 w1 w3 h1 o3 => by
    have h3 := h1.keep o3
    obtain ⟨w4, hr, hmp, o4⟩ := mp_put (P := Try.prog) Try.underlying9 Try.underlying88 h3.mp m hk hno
    refine ⟨w4, hr, ⟨h3.bk.only o4 (fun e => h3.mp.ne_blk h3.bk (show mb = g from (show g = mb from e).symm)), owns_only h3.ow o4 (fun k hk e => ?_), hmp, h3.gn, h3.mn, h3.ix, h3.ml⟩, o4⟩
    have e' : k = mb := e
    obtain ⟨es, clock, hb, _⟩ := h3.mp
    rcases h3.ow.2 with ⟨h2, _⟩ | ⟨b, cap, cur, h2, _, hh, _⟩
    · rw [h2] at hk; cases hk
    · rw [h2] at hk; have hk' : some b = some k := hk; injection hk' with hk'
      rw [hk', e', hb] at hh; cases hh
  have HB : Hid (∀ (v1 : Value) (w4 w5 : World), Rc N g mb l1 (m :: l1) v1 w4 → Only none_ w4 w5 → Calls Try.prog 44 #[.pointer (some ⟨g, 0, none⟩), .agg #[.int .i64 m.a.c, .int .i64 m.a.s, .string m.k]] w5 fun e w' => e = .returned (.int .i64 (bh l1 m)) ∧ Only none_ w5 w') := fun v1 w4 w5 h4 o5 => rc_behind N g mb l1 (m :: l1) v1 m w5 (h4.keep o5)
  have HI := Lib.hid (fun (A : Option Addr) (c : Nat) (w4 w' : World) (vb : Nat) (h4 : Rc N g mb l1 (m :: l1) (.slice A l1.length c) w4) => ins_step N g mb l1 A c m w4 w' vb h4 hno (by omega))
  obtain ⟨l2, hl2⟩ : ∃ l2, insM m l1 = l2 := ⟨_, rfl⟩
  obtain ⟨n, hn⟩ : ∃ n, l1.length = n := ⟨_, rfl⟩
  have HN := Lib.hid hn
  rw [hn] at HI
  obtain ⟨r, hr⟩ : ∃ r, bh l1 m = r := ⟨_, rfl⟩
  rw [hl2] at HI ⊢
  rw [hr] at HB HI
  have HF : Hid (∀ (v1 : Value) (w1 w3 w4 w7 : World) (v7 : Value), Only (Ft g mb v) (w.alloc (.cells #[.int .i64 m.a.c, .int .i64 m.a.s, .string m.k] 39)) w1 → Moved (w.alloc (.cells #[.int .i64 m.a.c, .int .i64 m.a.s, .string m.k] 39)) v v1 → Only none_ w1 w3 → Only (one mb) w3 w4 → Only (Ft g mb v1) w4 w7 → Moved w4 v1 v7 → Only (Ft g mb v) w w7 ∧ Moved w v v7) :=
    fun v1 w1 w3 w4 w7 v7 o1 m1 o3 o4 o7 m7 => by
      have s1 := o1.size
      have s0 := o0.size
      have o14 := ((o0.of_none.trans o1).trans' o3 (fun k _ h => h.elim)).trans' o4 (fun k _ e => .inr (.inl e))
      refine ⟨o14.trans' o7 (fun k hk hf => mv_foot m1 k (by omega) hf), fun k hk => ?_⟩
      rcases m7 k hk with h7 | h7
      · rcases m1 k h7 with h1 | h1
        · exact .inl h1
        · exact .inr (by omega)
      · exact .inr (by have := o14.size; omega)
  obtain ⟨hh, hhh⟩ : ∃ hh, hasM l m.k = hh := ⟨_, rfl⟩
  rw [hhh] at HD ⊢
  obtain ⟨⟨mc, ms⟩, k⟩ := m
  simp only [] at HD HW HU HB HI HF b00 ⊢
  have HB0 := Lib.hid hb0
  clear h hk hl o0 B0 hno hdl hl1 hl2 hr hhh hb0 hn
  go_enter Try.func14, Try.ntmps14
  go_wp2_with (first
    | (go_at_call 17; refine HD.out.mono ?_; rintro E w1 ⟨rfl, v1, h1, o1, m1⟩
       have W1 := HW.out v1 w1 h1 o1
       have BX := Lib.hid W1.1
       have G0 := Lib.hid W1.2
       have R1 := Lib.hid h1
       have OM1 := Lib.hid (And.intro o1 m1)
       clear W1 h1 o1 m1))
  rw [HB0.out]
  (refine wp_region_steady (fun w' => Only none_ w1 w') 8 (by kernel_rfl) (by kernel_rfl) ((Only.refl none_ w1).drew) ?_; simp only [List.take_succ_cons, List.take_zero, List.drop_succ_cons, List.drop_zero])
  repeat (first
    | (refine sd_value (v := ?_) (by rfl) (fun w0 hS => ?_) ?_; rotate_left; (· (have hc := ((R1.out.keep hS).bk.cell_ (i := 0) rfl); have hx0 := ((BX.out.only hS (fun h => h)).cell_ (i := 0) rfl); have hx1 := ((BX.out.only hS (fun h => h)).cell_ (i := 1) rfl); have hx2 := ((BX.out.only hS (fun h => h)).cell_ (i := 2) rfl); go_simp; try (with_reducible rfl))); try simp only [Act.put, List.setIfInBounds_toArray, List.set_cons_zero, List.set_cons_succ]))
  refine sd_nil ?_
  intro w3 t3
  obtain ⟨w4, hup, r4, o4⟩ := HU.out v1 w1 w3 R1.out t3
  have O3 := Lib.hid (And.intro t3 o4)
  have R4 := Lib.hid r4
  have hmbl : mb < w1.heap.size := R1.out.mp.lt
  have BX4 : Hid (Blk w4 b0 39 #[.int .i64 mc, .int .i64 ms, .string k]) := (BX.out.only t3 (fun h => h)).only o4 (fun e => R1.out.mp.ne_blk BX.out (show mb = b0 from (show b0 = mb from e).symm))
  clear t3 r4 o4 hmbl
  go_wp2_with (first
    | (at_mapUpdate; refine wpList_upd _ rfl _ _ _ 88 rfl _ _ _ rfl rfl rfl hup ?_))
  obtain ⟨A, c, hv1⟩ := R4.out.shape
  rw [HN.out] at hv1
  subst hv1
  have X4 : Hid (Blk (w4.alloc (.cells #[.int .i64 mc, .int .i64 ms, .string k] 39)).drew w4.heap.size 39 #[.int .i64 mc, .int .i64 ms, .string k]) := Blk.new w4 _ _
  have p1 : w4.drew.cell? ⟨g, 1, none⟩ = some (.slice A n c) := R4.out.bk.cell_ (i := 1) rfl
  have p2 : w4.drew.cell? ⟨b0, 0, none⟩ = some (.int .i64 mc) := BX4.out.cell_ (i := 0) rfl
  have p3 : w4.drew.cell? ⟨b0, 1, none⟩ = some (.int .i64 ms) := BX4.out.cell_ (i := 1) rfl
  have p4 : w4.drew.cell? ⟨b0, 2, none⟩ = some (.string k) := BX4.out.cell_ (i := 2) rfl
  have q1 : (w4.alloc (.cells #[.int .i64 mc, .int .i64 ms, .string k] 39)).drew.cell? ⟨g, 1, none⟩ = some (.slice A n c) := (R4.out.bk.alloc _).cell_ (i := 1) rfl
  have q2 : (w4.alloc (.cells #[.int .i64 mc, .int .i64 ms, .string k] 39)).drew.cell? ⟨b0, 0, none⟩ = some (.int .i64 mc) := (BX4.out.alloc _).cell_ (i := 0) rfl
  have q3 : (w4.alloc (.cells #[.int .i64 mc, .int .i64 ms, .string k] 39)).drew.cell? ⟨b0, 1, none⟩ = some (.int .i64 ms) := (BX4.out.alloc _).cell_ (i := 1) rfl
  have q4 : (w4.alloc (.cells #[.int .i64 mc, .int .i64 ms, .string k] 39)).drew.cell? ⟨b0, 2, none⟩ = some (.string k) := (BX4.out.alloc _).cell_ (i := 2) rfl
  go_region_law (first
    | (refine step_call (by simp [Region.wanted]) 44 #[.pointer (some ⟨g, 0, none⟩), .agg #[.int .i64 mc, .int .i64 ms, .string k]] (by go_simp; try (with_reducible rfl)) ?_
       refine (HB.out _ w4 _ R4.out (by first | exact (Only.refl none_ w4).drew | exact ((Only.refl none_ w4).alloc _).drew)).mono ?_
       rintro E w5 ⟨rfl, o5⟩
       refine ⟨_, rfl, ?_⟩
       have O5 : Hid (Only none_ w4 w5) := by first | exact ((Only.refl none_ w4).drew).trans o5 | exact (((Only.refl none_ w4).alloc _).drew).trans o5
       try have X5 := Lib.hid (X4.out.only o5 (fun h => h))
       have r1 := (R4.out.keep O5.out).bk.cell_ (i := 1) rfl
       have r2 := (BX4.out.only O5.out (fun h => h)).cell_ (i := 0) rfl
       have r3 := (BX4.out.only O5.out (fun h => h)).cell_ (i := 1) rfl
       have r4 := (BX4.out.only O5.out (fun h => h)).cell_ (i := 2) rfl
       have s1 := ((R4.out.keep O5.out).bk.alloc (.cells #[.int .i64 mc, .int .i64 ms, .string k] 39)).cell_ (i := 1) rfl
       have s2 := ((BX4.out.only O5.out (fun h => h)).alloc (.cells #[.int .i64 mc, .int .i64 ms, .string k] 39)).cell_ (i := 0) rfl
       have s3 := ((BX4.out.only O5.out (fun h => h)).alloc (.cells #[.int .i64 mc, .int .i64 ms, .string k] 39)).cell_ (i := 1) rfl
       have s4 := ((BX4.out.only O5.out (fun h => h)).alloc (.cells #[.int .i64 mc, .int .i64 ms, .string k] 39)).cell_ (i := 2) rfl
       clear o5)
    | (refine step_call (by simp [Region.wanted]) 43 #[.slice A n c, .int .i64 r, .slice (some ⟨w5.heap.size, 0, none⟩) 1 1] (by go_simp; try (with_reducible rfl)) ?_
       refine (HI.out A c w4 _ w5.heap.size R4.out (O5.out.alloc _) (Blk.new w5 _ _) O5.out.size).mono ?_
       rintro E w6 ⟨A6, n6, c6, rfl, hk6, hf6, o6, r6, oo6, m6⟩
       refine ⟨_, rfl, ?_⟩
       have F6 := Lib.hid (And.intro r6 (And.intro oo6 m6))
       clear o6 r6 oo6 m6)
    | (refine step_call (by simp [Region.wanted]) 43 #[.slice A n c, .int .i64 r, .slice (some ⟨w4.heap.size, 0, none⟩) 1 1] (by go_simp; try (with_reducible rfl)) ?_
       refine (HI.out A c w4 _ w4.heap.size R4.out O5.out X5.out (Nat.le_refl _)).mono ?_
       rintro E w6 ⟨A6, n6, c6, rfl, hk6, hf6, o6, r6, oo6, m6⟩
       refine ⟨_, rfl, ?_⟩
       have F6 := Lib.hid (And.intro r6 (And.intro oo6 m6))
       clear o6 r6 oo6 m6))
  all_goals go_wp2_with fail
  all_goals go_ret
  all_goals exact ⟨rfl, _, F6.out.1, HF.out _ w1 w3 w4 _ _ OM1.out.1 OM1.out.2 O3.out.1 O3.out.2 F6.out.2.1 F6.out.2.2⟩
end Go.Proofs.Ytclngnoapfjghaa
