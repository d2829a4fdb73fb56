/- The document's indexes: Put, Below. No statement of the seat is proved here. -/
import Derived.Test.YtclngnoapfjghaaRcR
namespace Go.Proofs.Ytclngnoapfjghaa
open Go.RowKit
set_option maxRecDepth 100000
set_option linter.all false

/-- What a put has, looked through so far. -/
def insS (m : Mk) (l : List Mk) : List Mk := if (l.any fun y => mkLater m y) = true then insM m l else l
theorem insS_snoc (m x : Mk) (l : List Mk) : insS m (l ++ [x]) = if (l.any fun y => mkLater m y) = true then insS m l ++ [x] else if mkLater m x = true then insS m l ++ [m] ++ [x] else insS m l ++ [x] := by
  unfold insS
  rw [ins_snoc, List.any_append]
  by_cases h : (l.any fun y => mkLater m y) = true
  · simp [h]
  · have h' : (l.any fun y => mkLater m y) = false := by simpa using h
    rw [h']
    by_cases hx : mkLater m x = true <;> simp [hx]
theorem insS_len (m : Mk) (l : List Mk) : (insS m l).length ≤ l.length + 1 := by
  unfold insS; split
  · rw [ins_len]; exact Nat.le_refl _
  · omega
theorem any_snoc (m x : Mk) (l : List Mk) : ((l ++ [x]).any fun y => mkLater m y) = ((l.any fun y => mkLater m y) || mkLater m x) := by simp [List.any_append]

theorem own_len3 {w : World} {base : Nat} {e : TypeId} {A : Option Addr} {n c N k : Nat} {xs : List Value} (h : w.ownsRow base e k (.slice A n c) N xs) : N = n := by
  rcases h.2 with ⟨h1, h2⟩ | ⟨g, cap, cur, h1, _⟩
  · injection h1 with _ h1 _; omega
  · injection h1 with _ h1 _; exact h1.symm
/-- One mark appended to a list of the call's own. -/
theorem flat_one (d : List Mk) (p : Mk) : (d ++ [p]).flatMap mkI = d.flatMap mkI ++ [.int .i64 p.a.c, .int .i64 p.a.s, .string p.k] := by rw [List.flatMap_append]; simp [mkI]

/-- The list that a put makes: it lies in block h, or in one that was made since. -/
structure Ps (h : Nat) (w2 : World) (v : Value) (d : List Mk) (w : World) : Prop where
  ow : w.ownsRow h 31 3 v d.length (d.flatMap mkI)
  wh : ∀ k, v.ownBlock = some k → k = h ∨ w2.heap.size ≤ k
  o : Only (one h) w2 w
  hs : h ≤ w.heap.size
theorem Ps.keep {h : Nat} {w2 w w' : World} {v : Value} {d : List Mk} (t : Ps h w2 v d w) (o : Only none_ w w') : Ps h w2 v d w' := ⟨owns_only t.ow o (fun _ _ h => h), t.wh, t.o.trans' o (fun _ _ h => h.elim), Nat.le_trans t.hs o.size⟩
theorem Ps.app {h : Nat} {w2 w w' : World} {v v' : Value} {d d' : List Mk} {n : Nat} {p : List Value} (t : Ps h w2 v d w) (own : w'.ownsRow h 31 3 v' n p) (hn : n = d'.length) (hp : p = d'.flatMap mkI) (hg : w.grownBy w' v.ownBlock) (hm : Moved w v v') : Ps h w2 v' d' w' := by
  subst hn hp
  refine ⟨own, fun k hk => ?_, t.o.grown hg (fun k hk => (t.wh k hk).imp id id), Nat.le_trans t.hs hg.size⟩
  rcases hm k hk with h1 | h1
  · exact t.wh k h1
  · exact .inr (by have := t.o.size; omega)
theorem Ps.shape {h : Nat} {w2 w : World} {v : Value} {d : List Mk} (t : Ps h w2 v d w) : ∃ A c, v = .slice A d.length c := by
  rcases t.ow.2 with ⟨rfl, h0⟩ | ⟨_, _, _, rfl, _⟩
  · exact ⟨none, 0, by rw [h0]⟩
  · exact ⟨_, _, rfl⟩

set_option maxHeartbeats 12800000 in
theorem rm_put (S : Nat → Prop) (l : List Mk) (A : Option Addr) (n c : Nat) (m : Mk) (w : World) (h : Cel w S (.slice A n c) n 3 (l.flatMap mkI)) (hn : n = l.length) (hl : n ≤ 1000) :
    Calls Try.prog 13 #[.slice A n c, .agg #[.int .i64 m.a.c, .int .i64 m.a.s, .string m.k]] w fun e w' => ∃ v', e = .returned v' ∧ w'.ownsRow w.heap.size 31 3 v' (putM l m).length ((putM l m).flatMap mkI) ∧ Only none_ w w' := by
  obtain ⟨i0, hi0, hz0, hz1, hz2⟩ := rinfo_parts rmark_info
  have HDR := Lib.hid (fun (w' : World) (o : Only none_ w w') => rm_drop S l A n c m.k w' (h.only o (fun _ _ h => h)) hn (by omega))
  have hdl := mdrop_len l m.k
  obtain ⟨b0, hb0⟩ : ∃ b0, w.heap.size = b0 := ⟨_, rfl⟩
  have HB0 := Lib.hid hb0
  -- the box, and the list so far
  have B0 := Blk.new w 31 #[.int .i64 m.a.c, .int .i64 m.a.s, .string m.k]
  have o0 : Only none_ w (w.alloc (.cells #[.int .i64 m.a.c, .int .i64 m.a.s, .string m.k] 31)) := (Only.refl none_ w).alloc _
  have o1 : Only none_ (w.alloc (.cells #[.int .i64 m.a.c, .int .i64 m.a.s, .string m.k] 31)) ((w.alloc (.cells #[.int .i64 m.a.c, .int .i64 m.a.s, .string m.k] 31)).alloc (.cells #[] 31)) := (Only.refl none_ _).alloc _
  have BX : Hid (Blk ((w.alloc (.cells #[.int .i64 m.a.c, .int .i64 m.a.s, .string m.k] 31)).alloc (.cells #[] 31)) b0 31 #[.int .i64 m.a.c, .int .i64 m.a.s, .string m.k]) := by have := B0.only o1 (fun h => h); rwa [hb0] at this
  have b02 := BX.out.cell_ (i := 2) rfl
  have O1 := Lib.hid (o0.trans o1)
  have R0 := Lib.hid (Rm.made (w.alloc (.cells #[.int .i64 m.a.c, .int .i64 m.a.s, .string m.k] 31)))
  have HS0 : Hid ((w.alloc (.cells #[.int .i64 m.a.c, .int .i64 m.a.s, .string m.k] 31)).heap.size = b0 + 1) := by rw [Hid, World.size_alloc, hb0]
  -- the mark, appended
  unfold putM
  obtain ⟨q, hq⟩ : ∃ q, dropM l m.k = q := ⟨_, rfl⟩
  rw [hq] at HDR hdl ⊢
  have hlat := rm_later m
  have hno := Lib.hid (ins_none m q)
  have hsn := Lib.hid (fun x l => insS_snoc m x l)
  have hsl := Lib.hid (insS_len m)
  have hany := Lib.hid (fun x l => any_snoc m x l)
  have hin0 : Hid (∀ l : List Mk, (l.any fun y => mkLater m y) = true → insS m l = insM m l) := fun l h => by rw [insS, if_pos h]
  have hin1 : Hid (∀ l : List Mk, (l.any fun y => mkLater m y) = false → insS m l = l) := fun l h => by rw [insS, if_neg (by rw [h]; simp)]
  have hfo := Lib.hid (fun d => flat_one d m)
  obtain ⟨⟨mc, ms⟩, k⟩ := m
  simp only [] at HDR b02 BX O1 R0 HS0 hlat hfo
  have HLT := Lib.hid hlat
  have HQL : Hid (q.length ≤ 1000) := by rw [Hid]; omega
  clear h hn hl hdl hb0 B0 o0 o1 hq hlat
  go_enter Try.func13, Try.ntmps13
  go_wp2_with (first
    | (go_at_call 16; refine (HDR.out _ O1.out).mono ?_; rintro E w2 ⟨v2, rfl, r2⟩
       have R2 := Lib.hid r2
       clear r2))
  obtain ⟨A2, c2, hv2⟩ := R2.out.shape
  subst hv2
  obtain ⟨L, hL⟩ : ∃ L, q.length = L := ⟨_, rfl⟩
  have HLQ := Lib.hid hL
  rw [hL] at R2 HQL ⊢
  have C2 : Hid (Cel w2 (fun b => b ≠ b0 + 1 ∧ b < w2.heap.size) (.slice A2 L c2) L 3 (q.flatMap mkI)) := by
    have := (Cel.of_own R2.out.ow).mono (T := fun b => b ≠ b0 + 1 ∧ b < w2.heap.size) (fun b hb hv => ⟨fun e => by have := (R2.out.ow.lt b hv).1; rw [World.size_alloc, HS0.out] at this; omega, hb⟩)
    rw [hL] at this
    exact this
  have P2 : Hid (Ps (b0 + 1) w2 (.slice (some ⟨b0 + 1, 0, none⟩) 0 0) [] w2) := by
    have := R0.out.keep R2.out.ho
    rw [HS0.out] at this
    refine ⟨by have e := this.ow; rw [HS0.out] at e; exact e, fun k hk => .inl (by have e : some (b0 + 1) = some k := hk; injection e with e; exact e.symm), Only.refl _ _, ?_⟩
    have := R2.out.ho.size
    rw [World.size_alloc, HS0.out] at this
    omega
  have BX2 := Lib.hid (BX.out.only R2.out.ho (fun h => h))
  have OW2 : Hid (Only none_ w w2) := O1.out.trans R2.out.ho
  clear R2 R0 O1 BX HDR hL HS0 b02
  rw [HB0.out]
  go_loopw [5, 6, 8] (fun s5 s6 s8 wr => ∃ i : Nat, i ≤ L ∧ s8 = .int .i64 i ∧ s6 = .bool ((q.take i).any fun y => mkLater ⟨⟨mc, ms⟩, k⟩ y) ∧ Ps (b0 + 1) w2 s5 (insS ⟨⟨mc, ms⟩, k⟩ (q.take i)) wr) (fun _ _ s8 _ => L - (intOf s8).toNat)
  case atStart => exact ⟨0, by omega, rfl, by simp, by rw [List.take_zero, hin1.out [] rfl]; exact P2.out⟩
  case round =>
    obtain ⟨i, hi, rfl, rfl, r⟩ := hrel
    have HONEM : Hid (∀ u ∈ ([.int .i64 mc, .int .i64 ms, .string k] : List Value), u.oneCell' = true) := mkI_one' ⟨⟨mc, ms⟩, k⟩
    have HKB : Hid (∀ w', Only none_ wr w' → w'.cell? ⟨b0, 0, none⟩ = some (.int .i64 mc) ∧ w'.cell? ⟨b0, 1, none⟩ = some (.int .i64 ms) ∧ w'.cell? ⟨b0, 2, none⟩ = some (.string k)) := fun w' o => by
      have := (BX2.out.only r.o (fun e => by have e' : b0 = b0 + 1 := e; omega)).only o (fun h => h)
      exact ⟨this.cell_ (i := 0) rfl, this.cell_ (i := 1) rfl, this.cell_ (i := 2) rfl⟩
    have hle := insS_len ⟨⟨mc, ms⟩, k⟩ (q.take i)
    rw [List.length_take] at hle
    obtain ⟨A5, c5, hs5⟩ := r.shape
    subst hs5
    obtain ⟨d, hd⟩ : ∃ d, insS ⟨⟨mc, ms⟩, k⟩ (q.take i) = d := ⟨_, rfl⟩
    have HD := Lib.hid hd
    rw [hd] at r hle
    obtain ⟨D, hD⟩ : ∃ D, d.length = D := ⟨_, rfl⟩
    have HDL := Lib.hid hD
    rw [hD] at r hle
    rw [hd, hD]
    have RR := Lib.hid r
    have hD1 : D ≤ 1001 := by have := HQL.out; omega
    have HLN1 : Hid (D + 1 ≤ maxLen ∧ (D + 1) * 32 ≤ 140737488355328) := by simp only [Hid, maxLen]; omega
    have HLN2 : Hid (D + 1 + 1 ≤ maxLen ∧ (D + 1 + 1) * 32 ≤ 140737488355328) := by simp only [Hid, maxLen]; omega
    have hL4 : L ≤ 1000 := HQL.out
    by_cases hlt : i < L
    · have hiq : i < q.length := by have := HLQ.out; omega
      obtain ⟨b, off, hA, _⟩ := mkr_cell (C2.out.only r.o (fun b hb e => hb.1 e)) i hiq HLQ.out.symm
      subst hA
      have HK : Hid (∀ w', Only none_ wr w' → w'.cell? ⟨b, off + i * 3, none⟩ = some (.int .i64 q[i].a.c) ∧ w'.cell? ⟨b, off + i * 3 + 1, none⟩ = some (.int .i64 q[i].a.s) ∧ w'.cell? ⟨b, off + i * 3 + 2, none⟩ = some (.string q[i].k)) := fun w' o => by
        obtain ⟨a1, f1, e1, _, _, h0, h1, h2⟩ := mkr_cell ((C2.out.only r.o (fun b hb e => hb.1 e)).only o (fun _ _ h => h)) i hiq HLQ.out.symm
        injection e1 with e1; injection e1 with e3 e4; subst e3 e4
        exact ⟨h0, h1, h2⟩
      have HK2 : Hid (∀ w', Only (one (b0 + 1)) w2 w' → w'.cell? ⟨b, off + i * 3, none⟩ = some (.int .i64 q[i].a.c) ∧ w'.cell? ⟨b, off + i * 3 + 1, none⟩ = some (.int .i64 q[i].a.s) ∧ w'.cell? ⟨b, off + i * 3 + 2, none⟩ = some (.string q[i].k)) := fun w' o => by
        obtain ⟨a1, f1, e1, _, _, h0, h1, h2⟩ := mkr_cell (C2.out.only o (fun b hb e => hb.1 e)) i hiq HLQ.out.symm
        injection e1 with e1; injection e1 with e3 e4; subst e3 e4
        exact ⟨h0, h1, h2⟩
      have hty : q.take (i + 1) = q.take i ++ [q[i]] := List.take_succ_eq_append_getElem hiq
      have HSN : Hid (insS ⟨⟨mc, ms⟩, k⟩ (q.take (i + 1)) = if ((q.take i).any fun y => mkLater ⟨⟨mc, ms⟩, k⟩ y) = true then d ++ [q[i]] else if mkLater ⟨⟨mc, ms⟩, k⟩ q[i] = true then d ++ [⟨⟨mc, ms⟩, k⟩] ++ [q[i]] else d ++ [q[i]]) := by rw [Hid, hty, hsn.out, HD.out]
      have HAN : Hid (((q.take (i + 1)).any fun y => mkLater ⟨⟨mc, ms⟩, k⟩ y) = (((q.take i).any fun y => mkLater ⟨⟨mc, ms⟩, k⟩ y) || mkLater ⟨⟨mc, ms⟩, k⟩ q[i])) := by rw [Hid, hty, hany.out]
      have hltr := HLT.out q[i]
      have hfx := Lib.hid (fun d => flat_one d q[i])
      have HONE := Lib.hid (mkI_one' q[i])
      have HLATE := hltr
      generalize ((q.take i).any fun y => mkLater ⟨⟨mc, ms⟩, k⟩ y) = an at HSN HAN ⊢
      generalize mkLater ⟨⟨mc, ms⟩, k⟩ q[i] = la at hltr HSN HAN
      generalize q[i] = p at hltr HK HK2 HSN hfx HONE
      obtain ⟨⟨pc, ps⟩, pk⟩ := p
      simp only [mkI] at hltr HK HK2 HSN hfx HONE
      have HLR := Lib.hid hltr
      clear r hd hD hltr HLATE hty hle
      cases an with
      | true =>
        go_wp2_with fail
        (refine wp_region_steady (fun w' => Only none_ wr w') 10 (by kernel_rfl) (by kernel_rfl) ((Only.refl none_ wr).drew) ?_; simp only [List.take_succ_cons, List.take_zero, List.drop_succ_cons, List.drop_zero])
        repeat (first
          | (refine sd_skip (by rfl) ?_; try simp only [Act.put, List.setIfInBounds_toArray, List.set_cons_zero, List.set_cons_succ])
          | (refine sd_value (v := ?_) (by rfl) (fun w0 hS => ?_) ?_; rotate_left; (· (have kb := HKB.out _ hS; have kb0 := kb.1; have kb1 := kb.2.1; have kb2 := kb.2.2; have kk := HK.out _ hS; have kk0 := kk.1; have kk1 := kk.2.1; have kk2 := kk.2.2; go_simp; try (with_reducible rfl))); try simp only [Act.put, List.setIfInBounds_toArray, List.set_cons_zero, List.set_cons_succ])
          | (refine sd_call (v := ?_) (f := 27) (args := ?_) (by rfl) (fun w0 hS => ?_) (fun w0 hS => ?_) ?_; rotate_left 2; (· (skip; go_simp; try (with_reducible rfl))); (· (refine (HLR.out _).mono ?_; rintro E w9 ⟨rfl, o9⟩; refine ⟨?_, hS.trans o9⟩; rfl)); try simp only [Act.put, List.setIfInBounds_toArray, List.set_cons_zero, List.set_cons_succ]))
        refine sd_nil ?_
        intro w3 t3
        have R3 := Lib.hid (RR.out.keep t3)
        have kk := HK.out _ t3
        have kk0 := kk.1
        have kk1 := kk.2.1
        have kk2 := kk.2.2
        have C4 : Hid (Cel (w3.alloc (.cells #[.int .i64 pc, .int .i64 ps, .string pk] 31)) (fun b => b = w3.heap.size) (.slice (some ⟨w3.heap.size, 0, none⟩) 1 1) 1 3 [.int .i64 pc, .int .i64 ps, .string pk]) := cel_made w3 31 3 1 #[.int .i64 pc, .int .i64 ps, .string pk] rfl (by simp [maxLen])
        have R4 := Lib.hid (R3.out.keep ((Only.refl none_ w3).alloc (.cells #[.int .i64 pc, .int .i64 ps, .string pk] 31)))
        clear t3 kk
        go_wp2_with (first
          | (at_builtin; refine wpList_append_cel _ rfl (.tmp 34) (.tmp 39) 27 rfl (b0 + 1) 31 i0 _ 3 32 Try.underlying27 hi0 hz0 hz1 hz2 rfl (by omega) (.slice A5 D c5) D _ rfl (by have := R4.out.ow; rw [HDL.out] at this; exact this) _ _ 1 _ rfl C4.out HONE.out HLN1.out.1 HLN1.out.2 R4.out.hs ?_
             intro A6 n6 c6 w6 hown6 hgrow6 hmv6
             have R6 : Hid (Ps (b0 + 1) w2 (.slice A6 n6 c6) (d ++ [⟨⟨pc, ps⟩, pk⟩]) w6) := R4.out.app hown6 (by rw [List.length_append, HDL.out]; rfl) (by rw [hfx.out]) hgrow6 hmv6
             clear hown6 hgrow6 hmv6))
        go_roundw
        case rel => exact ⟨i + 1, by omega, by go_num, by rw [HAN.out]; rfl, by rw [HSN.out]; exact R6.out⟩
        case measure => simp [intOf]; omega
      | false =>
        cases la with
        | false =>
          go_wp2_with fail
          (refine wp_region_steady (fun w' => Only none_ wr w') 10 (by kernel_rfl) (by kernel_rfl) ((Only.refl none_ wr).drew) ?_; simp only [List.take_succ_cons, List.take_zero, List.drop_succ_cons, List.drop_zero])
          repeat (first
            | (refine sd_skip (by rfl) ?_; try simp only [Act.put, List.setIfInBounds_toArray, List.set_cons_zero, List.set_cons_succ])
            | (refine sd_value (v := ?_) (by rfl) (fun w0 hS => ?_) ?_; rotate_left; (· (have kb := HKB.out _ hS; have kb0 := kb.1; have kb1 := kb.2.1; have kb2 := kb.2.2; have kk := HK.out _ hS; have kk0 := kk.1; have kk1 := kk.2.1; have kk2 := kk.2.2; go_simp; try (with_reducible rfl))); try simp only [Act.put, List.setIfInBounds_toArray, List.set_cons_zero, List.set_cons_succ])
            | (refine sd_call (v := ?_) (f := 27) (args := ?_) (by rfl) (fun w0 hS => ?_) (fun w0 hS => ?_) ?_; rotate_left 2; (· (skip; go_simp; try (with_reducible rfl))); (· (refine (HLR.out _).mono ?_; rintro E w9 ⟨rfl, o9⟩; refine ⟨?_, hS.trans o9⟩; rfl)); try simp only [Act.put, List.setIfInBounds_toArray, List.set_cons_zero, List.set_cons_succ]))
          refine sd_nil ?_
          intro w3 t3
          have R3 := Lib.hid (RR.out.keep t3)
          have kk := HK.out _ t3
          have kk0 := kk.1
          have kk1 := kk.2.1
          have kk2 := kk.2.2
          have C4 : Hid (Cel (w3.alloc (.cells #[.int .i64 pc, .int .i64 ps, .string pk] 31)) (fun b => b = w3.heap.size) (.slice (some ⟨w3.heap.size, 0, none⟩) 1 1) 1 3 [.int .i64 pc, .int .i64 ps, .string pk]) := cel_made w3 31 3 1 #[.int .i64 pc, .int .i64 ps, .string pk] rfl (by simp [maxLen])
          have R4 := Lib.hid (R3.out.keep ((Only.refl none_ w3).alloc (.cells #[.int .i64 pc, .int .i64 ps, .string pk] 31)))
          clear t3 kk
          go_wp2_with (first
            | (at_builtin; refine wpList_append_cel _ rfl (.tmp 34) (.tmp 39) 27 rfl (b0 + 1) 31 i0 _ 3 32 Try.underlying27 hi0 hz0 hz1 hz2 rfl (by omega) (.slice A5 D c5) D _ rfl (by have := R4.out.ow; rw [HDL.out] at this; exact this) _ _ 1 _ rfl C4.out HONE.out HLN1.out.1 HLN1.out.2 R4.out.hs ?_
               intro A6 n6 c6 w6 hown6 hgrow6 hmv6
               have R6 : Hid (Ps (b0 + 1) w2 (.slice A6 n6 c6) (d ++ [⟨⟨pc, ps⟩, pk⟩]) w6) := R4.out.app hown6 (by rw [List.length_append, HDL.out]; rfl) (by rw [hfx.out]) hgrow6 hmv6
               clear hown6 hgrow6 hmv6))
          go_roundw
          case rel => exact ⟨i + 1, by omega, by go_num, by rw [HAN.out]; rfl, by rw [HSN.out]; exact R6.out⟩
          case measure => simp [intOf]; omega
        | true =>
          go_wp2_with fail
          (refine wp_region_steady (fun w' => Only none_ wr w') 10 (by kernel_rfl) (by kernel_rfl) ((Only.refl none_ wr).drew) ?_; simp only [List.take_succ_cons, List.take_zero, List.drop_succ_cons, List.drop_zero])
          repeat (first
            | (refine sd_skip (by rfl) ?_; try simp only [Act.put, List.setIfInBounds_toArray, List.set_cons_zero, List.set_cons_succ])
            | (refine sd_value (v := ?_) (by rfl) (fun w0 hS => ?_) ?_; rotate_left; (· (have kb := HKB.out _ hS; have kb0 := kb.1; have kb1 := kb.2.1; have kb2 := kb.2.2; have kk := HK.out _ hS; have kk0 := kk.1; have kk1 := kk.2.1; have kk2 := kk.2.2; go_simp; try (with_reducible rfl))); try simp only [Act.put, List.setIfInBounds_toArray, List.set_cons_zero, List.set_cons_succ])
            | (refine sd_call (v := ?_) (f := 27) (args := ?_) (by rfl) (fun w0 hS => ?_) (fun w0 hS => ?_) ?_; rotate_left 2; (· (skip; go_simp; try (with_reducible rfl))); (· (refine (HLR.out _).mono ?_; rintro E w9 ⟨rfl, o9⟩; refine ⟨?_, hS.trans o9⟩; rfl)); try simp only [Act.put, List.setIfInBounds_toArray, List.set_cons_zero, List.set_cons_succ]))
          refine sd_nil ?_
          intro w3 t3
          have R3 := Lib.hid (RR.out.keep t3)
          have kb := HKB.out _ t3
          have kb0 := kb.1
          have kb1 := kb.2.1
          have kb2 := kb.2.2
          have C3 : Hid (Cel (w3.alloc (.cells #[.int .i64 mc, .int .i64 ms, .string k] 31)) (fun b => b = w3.heap.size) (.slice (some ⟨w3.heap.size, 0, none⟩) 1 1) 1 3 [.int .i64 mc, .int .i64 ms, .string k]) := cel_made w3 31 3 1 #[.int .i64 mc, .int .i64 ms, .string k] rfl (by simp [maxLen])
          have R4 := Lib.hid (R3.out.keep ((Only.refl none_ w3).alloc (.cells #[.int .i64 mc, .int .i64 ms, .string k] 31)))
          clear t3 kb
          go_wp2_with (first
            | (at_builtin; refine wpList_append_cel _ rfl (.tmp 30) (.tmp 32) 27 rfl (b0 + 1) 31 i0 _ 3 32 Try.underlying27 hi0 hz0 hz1 hz2 rfl (by omega) (.slice A5 D c5) D _ rfl (by have := R4.out.ow; rw [HDL.out] at this; exact this) _ _ 1 _ rfl C3.out HONEM.out HLN1.out.1 HLN1.out.2 R4.out.hs ?_
               intro A6 n6 c6 w6 hown6 hgrow6 hmv6
               obtain rfl := own_len3 hown6
               have R6 : Hid (Ps (b0 + 1) w2 (.slice A6 (D + 1) c6) (d ++ [⟨⟨mc, ms⟩, k⟩]) w6) := R4.out.app hown6 (by rw [List.length_append, HDL.out]; rfl) (by rw [hfo.out]) hgrow6 hmv6
               have kk := HK2.out _ R6.out.o
               have kk0 := kk.1
               have kk1 := kk.2.1
               have kk2 := kk.2.2
               have C6 : Hid (Cel (w6.alloc (.cells #[.int .i64 pc, .int .i64 ps, .string pk] 31)) (fun b => b = w6.heap.size) (.slice (some ⟨w6.heap.size, 0, none⟩) 1 1) 1 3 [.int .i64 pc, .int .i64 ps, .string pk]) := cel_made w6 31 3 1 #[.int .i64 pc, .int .i64 ps, .string pk] rfl (by simp [maxLen])
               have R7 := Lib.hid (R6.out.keep ((Only.refl none_ w6).alloc (.cells #[.int .i64 pc, .int .i64 ps, .string pk] 31)))
               have DL2 : Hid ((d ++ [(⟨⟨mc, ms⟩, k⟩ : Mk)]).length = D + 1) := by rw [Hid, List.length_append, HDL.out]; rfl
               clear hown6 hgrow6 hmv6 kk)
            | (at_builtin; refine wpList_append_cel _ rfl (.tmp 34) (.tmp 39) 27 rfl (b0 + 1) 31 i0 _ 3 32 Try.underlying27 hi0 hz0 hz1 hz2 rfl (by omega) (.slice A6 (D + 1) c6) (D + 1) _ rfl (by have := R7.out.ow; rw [DL2.out] at this; exact this) _ _ 1 _ rfl C6.out HONE.out HLN2.out.1 HLN2.out.2 R7.out.hs ?_
               intro A8 n8 c8 w8 hown8 hgrow8 hmv8
               have R8 : Hid (Ps (b0 + 1) w2 (.slice A8 n8 c8) (d ++ [⟨⟨mc, ms⟩, k⟩] ++ [⟨⟨pc, ps⟩, pk⟩]) w8) := R7.out.app hown8 (by rw [List.length_append, DL2.out]; rfl) (by rw [hfx.out]) hgrow8 hmv8
               clear hown8 hgrow8 hmv8))
          go_roundw
          case rel => exact ⟨i + 1, by omega, by go_num, by rw [HAN.out]; rfl, by rw [HSN.out]; exact R8.out⟩
          case measure => simp [intOf]; omega
    · have hin : q.take i = q := List.take_of_length_le (by have := HLQ.out; omega)
      rw [hin] at HD ⊢
      clear r hd hD hle hin
      cases han : (q.any fun y => mkLater ⟨⟨mc, ms⟩, k⟩ y) with
      | true =>
        have e := hin0.out q han
        rw [HD.out] at e
        have HE := Lib.hid e
        clear e han
        go_wp2_with fail
        go_ret
        have ow := RR.out.ow
        rw [← HE.out]
        exact ⟨_, rfl, owns_base ow (by have := HB0.out; omega), OW2.out.trans' RR.out.o (fun k hk e => by have e' : k = b0 + 1 := e; have := HB0.out; omega)⟩
      | false =>
        have e := hin1.out q han
        rw [HD.out] at e
        have e2 := hno.out han
        have HE := Lib.hid e
        have HE2 := Lib.hid e2
        clear e e2 han
        have kb := HKB.out _ (Only.refl none_ wr)
        have kb0 := kb.1
        have kb1 := kb.2.1
        have kb2 := kb.2.2
        have C3 : Hid (Cel (wr.alloc (.cells #[.int .i64 mc, .int .i64 ms, .string k] 31)) (fun b => b = wr.heap.size) (.slice (some ⟨wr.heap.size, 0, none⟩) 1 1) 1 3 [.int .i64 mc, .int .i64 ms, .string k]) := cel_made wr 31 3 1 #[.int .i64 mc, .int .i64 ms, .string k] rfl (by simp [maxLen])
        have R4 := Lib.hid (RR.out.keep ((Only.refl none_ wr).alloc (.cells #[.int .i64 mc, .int .i64 ms, .string k] 31)))
        clear kb
        go_wp2_with (first
          | (at_builtin; refine wpList_append_cel _ rfl (.tmp 43) (.tmp 45) 27 rfl (b0 + 1) 31 i0 _ 3 32 Try.underlying27 hi0 hz0 hz1 hz2 rfl (by omega) (.slice A5 D c5) D _ rfl (by have := R4.out.ow; rw [HDL.out] at this; exact this) _ _ 1 _ rfl C3.out HONEM.out HLN1.out.1 HLN1.out.2 R4.out.hs ?_
             intro A6 n6 c6 w6 hown6 hgrow6 hmv6
             have R6 : Hid (Ps (b0 + 1) w2 (.slice A6 n6 c6) (d ++ [⟨⟨mc, ms⟩, k⟩]) w6) := R4.out.app hown6 (by rw [List.length_append, HDL.out]; rfl) (by rw [hfo.out]) hgrow6 hmv6
             clear hown6 hgrow6 hmv6))
        go_ret
        rw [HE2.out, ← HE.out]
        exact ⟨_, rfl, owns_base R6.out.ow (by have := HB0.out; omega), OW2.out.trans' R6.out.o (fun k hk e => by have e' : k = b0 + 1 := e; have := HB0.out; omega)⟩
end Go.Proofs.Ytclngnoapfjghaa
