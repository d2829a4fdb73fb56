/- The call of TablePlays. The statement itself is proved in another text. -/
import Derived.Test.YtkailngpmodfhaaTbO
import Derived.Deep.RegionHeld3
namespace Go.Proofs.Ytkailngpmodfhaa
open Go.RowKit
set_option maxRecDepth 100000
set_option linter.all false

/-- A table, and two boxes: the document's one, and an act. -/
structure Py (W : World) (g : Nat) (room : Int) (l : List (Pr Int)) (v : Value) (h7 h10 : Nat) (m : Array Value) (a : Ta) (w : World) : Prop where
  t : Tb W g room l v w
  b7 : Blk w h7 31 m
  b10 : Blk w h10 35 #[.int .i64 a.kind, .int .i64 a.v, .string a.key, .string a.fr, .int .i64 a.n]
theorem Py.keep {W w w' : World} {g : Nat} {room : Int} {l : List (Pr Int)} {v : Value} {h7 h10 : Nat} {m : Array Value} {a : Ta} (k : Py W g room l v h7 h10 m a w) (o : Only none_ w w') : Py W g room l v h7 h10 m a w' :=
  ⟨k.t.keep o, k.b7.only o (fun h => h), k.b10.only o (fun h => h)⟩
abbrev Py7 (w : World) (h7 h10 : Nat) (room : Int) (A : Option Addr) (L c : Nat) (a : Ta) : Prop :=
  (w.cell? ⟨h7, 0, none⟩ = some (.int .i64 room) ∧ w.cell? ⟨h7, 1, none⟩ = some (.slice A L c)) ∧ w.cell? ⟨h10, 0, none⟩ = some (.int .i64 a.kind) ∧ w.cell? ⟨h10, 1, none⟩ = some (.int .i64 a.v) ∧ w.cell? ⟨h10, 2, none⟩ = some (.string a.key) ∧ w.cell? ⟨h10, 3, none⟩ = some (.string a.fr) ∧ w.cell? ⟨h10, 4, none⟩ = some (.int .i64 a.n)
theorem Py.cells {W w : World} {g : Nat} {room : Int} {l : List (Pr Int)} {v : Value} {h7 h10 : Nat} {A : Option Addr} {L c : Nat} {a : Ta} (k : Py W g room l v h7 h10 #[.int .i64 room, .slice A L c] a w) : Py7 w h7 h10 room A L c a :=
  ⟨⟨Blk.cell_ (t := 31) k.b7 rfl, Blk.cell_ (t := 31) k.b7 rfl⟩, Blk.cell_ (t := 35) k.b10 rfl, Blk.cell_ (t := 35) k.b10 rfl, Blk.cell_ (t := 35) k.b10 rfl, Blk.cell_ (t := 35) k.b10 rfl, Blk.cell_ (t := 35) k.b10 rfl⟩
theorem has_lt {l : List (Pr Int)} {x : ByteArray} (hr : Ris l) (h : has l x = true) : rnk l x < l.length := by
  have := has_at hr x
  rw [h] at this
  have := this.symm
  simp only [Bool.and_eq_true, decide_eq_true_eq] at this
  exact this.1

set_option maxHeartbeats 51200000 in
theorem tp_plays (room : Int) (A0 : Option Addr) (c0 : Nat) (l : List Ta) (W : World) (hx : Cel W (fun b => b < W.heap.size) (.slice A0 l.length c0) l.length 5 (l.flatMap taRow)) (hl : (l.all taShort && decide (l.length ≤ 60)) = true) (h1 : ¬ room < 1) (h2 : ¬ 4096 < room) :
    Calls Try.prog 3 #[.int .i64 room, .slice A0 l.length c0] W fun e w' => e = .returned (.bool true) ∧ Below W.heap.size W w' := by
  have CX := Lib.hid (fun (w' : World) (o : Only none_ W w') => hx.only o (fun _ _ h => h))
  have FL := Lib.hid hl
  have hl60 : l.length ≤ 60 := by simp only [Bool.and_eq_true, decide_eq_true_eq] at hl; exact hl.2
  obtain ⟨N, hN⟩ : ∃ N, N = l.length := ⟨_, rfl⟩
  rw [← hN] at hx hl60 CX ⊢
  have HX : Hid (0 < N → ∃ b off, A0 = some ⟨b, off, none⟩ ∧ b < W.heap.size ∧ b < W.heap.size ∧ ∀ j u, (l.flatMap taRow)[j]? = some u → W.cell? ⟨b, off + j, none⟩ = some u) := by obtain ⟨_, _, e, _, _, _, _, h4⟩ := hx; injection e with e1; subst e1; exact h4
  have HN := Lib.hid hN
  have H1 := Lib.hid h1
  have H2 := Lib.hid h2
  clear hx hl hN h1 h2
  go_enter Try.func3, Try.ntmps3
  go_wp2_with (first
    | (go_at_call 10; refine (t_speaks _).mono ?_; rintro e w1 ⟨rfl, o1⟩; have O1 := Lib.hid o1; clear o1)
    | (go_at_call 11; refine (t_few _ l _ _ (by rw [← HN.out]; exact CX.out _ O1.out)).mono ?_; rw [FL.out]; rintro e w2 ⟨rfl, o2⟩; have O2 := Lib.hid (O1.out.trans o2); clear o2)
    | (go_at_call 12; refine (tb_new_yes W room _ O2.out (by have := H1.out; omega) (by have := H2.out; omega)).mono ?_; rintro e w3 ⟨g, rfl, hg3, t3, o3⟩; have T3 := Lib.hid t3; clear t3 o3 hg3)
    | (go_at_call 13; refine (rf_new_yes room _ (by have := H1.out; omega) (by have := H2.out; omega)).mono ?_; rintro e w4 ⟨rfl, o4⟩
       have HG7 := Lib.hid ((T3.out.keep o4).ho.size)
       have T4 := Lib.hid (T3.out.keep (o4.alloc (.cells #[.int .i64 room, .slice none 0 0] 31)))
       have B4 := Lib.hid (Blk.new w4 31 #[.int .i64 room, .slice none 0 0])
       clear o4))
  generalize w4.alloc (.cells #[.int .i64 room, .slice none 0 0] 31) = w5 at *
  generalize w4.heap.size = h7 at *
  clear O1 O2 T3
  go_loopw [52] (fun i wr => ∃ (k : Nat) (t : List (Pr Int)) (v : Value) (A : Option Addr) (L c : Nat), k ≤ N ∧ i = .int .i64 (k : Int) ∧ L = t.length ∧ Tb W g room t v wr ∧ Blk wr h7 31 #[.int .i64 room, .slice A L c] ∧ Cel wr (fun b => ¬ foot g v b ∧ b ≠ h7) (.slice A L c) L 2 (t.flatMap prI)) (fun i _ => N - (intOf i).toNat)
  case atStart => exact ⟨0, [], .slice none 0 0, none, 0, 0, Nat.zero_le _, rfl, rfl, T4.out, B4.out, Cel.nil _ _ _⟩
  case round =>
    clear T4 B4
    obtain ⟨k, t, v, A, L, c, hk, rfl, hL, ht, hb7, hr⟩ := hrel
    by_cases hlt : k < N
    · obtain ⟨b, off, rfl, hb, _, hc⟩ := HX.out (by omega)
      obtain ⟨a, ha⟩ : ∃ a, l[k]? = some a := ⟨l[k]'(by have := HN.out; omega), List.getElem?_eq_getElem _⟩
      have q := ta_at hc ht.ho hb ha
      have Y0 : Hid (Py W g room t v h7 wr.heap.size #[.int .i64 room, .slice A L c] a (wr.alloc (.cells #[.int .i64 a.kind, .int .i64 a.v, .string a.key, .string a.fr, .int .i64 a.n] 35))) := ⟨ht.keep ((Only.refl none_ wr).alloc _), hb7.alloc _, Blk.new wr _ _⟩
      have M0 : Hid (Rt (wr.alloc (.cells #[.int .i64 a.kind, .int .i64 a.v, .string a.key, .string a.fr, .int .i64 a.n] 35)) (fun b => ¬ foot g v b ∧ b ≠ h7) room t (.agg #[.int .i64 room, .slice A L c])) := ⟨A, c, by rw [hL], by rw [← hL]; exact hr.alloc _⟩
      have y0 := Y0.out.cells
      obtain ⟨t', ht'⟩ : ∃ t', taDo room t a = t' := ⟨_, rfl⟩
      have HDO := Lib.hid (t_do W (wr.alloc (.cells #[.int .i64 a.kind, .int .i64 a.v, .string a.key, .string a.fr, .int .i64 a.n] 35)) g room t v _ a h7 (by rw [World.size_alloc]; have := hb7.lt; omega) Y0.out.t M0.out)
      rw [ht'] at HDO
      clear ha hc ht hb7 hr hL ht' M0
      go_wp2_with (first
        | (go_at_call 14; refine HDO.out.mono ?_; rintro E w6 ⟨m6, v6, rfl, t6, ⟨A6, c6, rfl, hc6⟩, o6⟩
           have B7 := Y0.out.b7.only o6 (Y0.out.t.off Y0.out.b7 (by decide) (by decide))
           have B10 := Y0.out.b10.only o6 (Y0.out.t.off Y0.out.b10 (by decide) (by decide))
           obtain ⟨L6, hL6⟩ : ∃ L6, t'.length = L6 := ⟨_, rfl⟩
           rw [hL6] at hc6 ⊢
           have HL6 := Lib.hid hL6
           have Y6 : Hid (Py W g room t' v6 h7 wr.heap.size #[.int .i64 room, .slice A L c] a (w6.alloc (.cells #[.int .i64 room, .slice A6 L6 c6] 31))) := ⟨t6.keep ((Only.refl none_ w6).alloc _), B7.alloc _, B10.alloc _⟩
           have x60 := (Blk.new w6 31 #[.int .i64 room, .slice A6 L6 c6]).cell_ (i := 0) rfl
           have x61 := (Blk.new w6 31 #[.int .i64 room, .slice A6 L6 c6]).cell_ (i := 1) rfl
           have X6 := Lib.hid (Blk.new w6 31 #[.int .i64 room, .slice A6 L6 c6])
           have C6 := Lib.hid (hc6.alloc (.cells #[.int .i64 room, .slice A6 L6 c6] 31))
           clear hL6 t6 hc6 o6 B7 B10 y0 q)
        | (refine wpList_store_row rfl 31 _ _ rfl h7 #[.int .i64 room, .slice A6 L6 c6] rfl rfl 31 _ Y6.out.b7 (by kernel_rfl) rfl (by simp [Value.oneCell']) ?_
           have o7 : Only (one h7) (w6.alloc (.cells #[.int .i64 room, .slice A6 L6 c6] 31)) ((w6.alloc (.cells #[.int .i64 room, .slice A6 L6 c6] 31)).setRow h7 #[.int .i64 room, .slice A6 L6 c6]) := only_row h7 _
           have hnf := Y6.out.t.off Y6.out.b7 (by decide) (by decide)
           have Y7 : Hid (Py W g room t' v6 h7 wr.heap.size #[.int .i64 room, .slice A6 L6 c6] a ((w6.alloc (.cells #[.int .i64 room, .slice A6 L6 c6] 31)).setRow h7 #[.int .i64 room, .slice A6 L6 c6])) :=
             ⟨Y6.out.t.apart o7 (fun k hk e => hnf (by have e' : k = h7 := e; rwa [e'] at hk)) (fun k e => by have e' : k = h7 := e; have := HG7.out; omega), Blk.setRow (t := 31) Y6.out.b7 _, Y6.out.b10.only o7 (fun e => Blk.ne_ Y6.out.b10 Y6.out.b7 (by decide) e)⟩
           have C7 : Hid (Cel ((w6.alloc (.cells #[.int .i64 room, .slice A6 L6 c6] 31)).setRow h7 #[.int .i64 room, .slice A6 L6 c6]) (fun b => ¬ foot g v6 b ∧ b ≠ h7) (.slice A6 L6 c6) L6 2 (t'.flatMap prI)) := C6.out.only o7 (fun b hb e => hb.2 e)
           clear o7 hnf Y6 C6
           generalize (w6.alloc (.cells #[.int .i64 room, .slice A6 L6 c6] 31)).setRow h7 #[.int .i64 room, .slice A6 L6 c6] = w7 at *
           have y7 := Y7.out.cells))
      generalize wr.heap.size = h10 at *
      have Y8 := Y7.out.keep (Only.refl none_ w7).drew
      have C8 := C7.out.drew
      have HML := Lib.hid Y8.t.ml
      have hmm : Rt w7 (fun b => ¬ foot g v6 b) room t' (.agg #[.int .i64 room, .slice A6 L6 c6]) := ⟨A6, c6, by rw [HL6.out], by rw [HL6.out]; exact C7.out.mono (fun b _ hb => hb.1)⟩
      have HMM := Lib.hid hmm
      obtain ⟨r, hr⟩ : ∃ r, rnk t' a.fr = r := ⟨_, rfl⟩
      have HR := Lib.hid hr
      have HRL : Hid (r ≤ L6) := by rw [Hid, ← hr, ← HL6.out]; exact rnk_le _ _
      clear hmm hr y7
      (refine wp_region_steady (fun w' => Py W g room t' v6 h7 h10 #[.int .i64 room, .slice A6 L6 c6] a w' ∧ Only none_ w7 w') 19 (by kernel_rfl) (by kernel_rfl) (⟨Y8, (Only.refl none_ w7).drew⟩) ?_; simp only [List.take_succ_cons, List.take_zero, List.drop_succ_cons, List.drop_zero])
      repeat (first
        | (refine sd_value (v := ?_) (by rfl) (fun w0 hS => ?_) ?_; rotate_left; (· (skip; go_simp; try (with_reducible rfl))); try simp only [Act.put, List.setIfInBounds_toArray, List.set_cons_zero, List.set_cons_succ])
        | (refine sd_value (v := ?_) (by rfl) (fun w0 hS => ?_) ?_; rotate_left; (· (have hc := hS.1.cells; go_simp; try (with_reducible rfl))); try simp only [Act.put, List.setIfInBounds_toArray, List.set_cons_zero, List.set_cons_succ])
        | (refine sd_call (v := ?_) (f := 15) (args := ?_) (by rfl) (fun w0 hS => ?_) (fun w0 hS => ?_) ?_; rotate_left 2; (· (skip; go_simp; try (with_reducible rfl))); (· (refine (t_is W g room t' v6 _ _ hS.1.t (HMM.out.only hS.2 (fun _ _ h => h))).mono ?_; rintro E w8 ⟨rfl, o8⟩; refine ⟨?_, hS.1.keep o8, hS.2.trans o8⟩; rfl)); try simp only [Act.put, List.setIfInBounds_toArray, List.set_cons_zero, List.set_cons_succ])
        | (refine sd_call (v := ?_) (f := 16) (args := ?_) (by rfl) (fun w0 hS => ?_) (fun w0 hS => ?_) ?_; rotate_left 2; (· (skip; go_simp; try (with_reducible rfl))); (· (refine (tb_rank W g room t' v6 _ _ hS.1.t).mono ?_; rw [HR.out]; rintro E w8 ⟨rfl, o8⟩; refine ⟨?_, hS.1.keep o8, hS.2.trans o8⟩; rfl)); try simp only [Act.put, List.setIfInBounds_toArray, List.set_cons_zero, List.set_cons_succ])
        | (refine sd_call (v := ?_) (f := 17) (args := ?_) (by rfl) (fun w0 hS => ?_) (fun w0 hS => ?_) ?_; rotate_left 2; (· (skip; go_simp; try (with_reducible rfl))); (· (refine (rf_rank _ room t' _ _ _ (HMM.out.only hS.2 (fun _ _ h => h)) HML.out).mono ?_; rw [HR.out]; rintro E w8 ⟨rfl, o8⟩; refine ⟨?_, hS.1.keep o8, hS.2.trans o8⟩; rfl)); try simp only [Act.put, List.setIfInBounds_toArray, List.set_cons_zero, List.set_cons_succ])
        | (refine sd_skip (by rfl) ?_; try simp only [Act.put, List.setIfInBounds_toArray, List.set_cons_zero, List.set_cons_succ]))
      refine sd_nil ?_
      intro w9 t9
      have Y9 := Lib.hid t9.1
      have O9 := Lib.hid t9.2
      have y9 := Y9.out.cells
      have HRS := Lib.hid Y9.out.t.rs
      clear t9 Y8 C8
      have HMM13 : ∀ w13, Only none_ w7 w13 → Rt w13 (fun b => b < w13.heap.size) room t' (.agg #[.int .i64 room, .slice A6 L6 c6]) := fun w13 o => by
        obtain ⟨A', c', e, hc⟩ := HMM.out.only o (fun _ _ h => h)
        exact ⟨A', c', e, hc.mono (fun b hb _ => hb)⟩
      cases hs : has t' a.fr
      · have HF : Hid (fndL t' a.fr = -1) := by rw [Hid, fndL, if_neg (by rw [hs]; decide)]
        have HG : Hid (getL t' a.fr = 0) := by rw [Hid, getL, if_neg (by rw [hs]; decide)]
        have HS := Lib.hid hs
        clear hs
        go_wp2_with (first
        | (go_at_call 18; refine (tb_get W g room t' v6 _ _ Y9.out.t).mono ?_; rw [HG.out, HS.out]; rintro E w10 ⟨rfl, o10⟩
           have Y10 := Lib.hid (Y9.out.keep o10)
           have O10 := Lib.hid (O9.out.trans o10)
           have y10 := Y10.out.cells
           clear o10 y9)
        | (go_at_call 19; refine (rf_find _ room t' _ _ _ (HMM.out.only O10.out (fun _ _ h => h)) HRS.out HML.out).mono ?_; rw [HF.out]; rintro E w11 ⟨rfl, o11⟩
           have Y11 := Lib.hid (Y10.out.keep o11)
           have O11 := Lib.hid (O10.out.trans o11)
           have y11 := Y11.out.cells
           clear o11 y10))
        have h9 : (scanL t' a.fr a.n).length ≤ 4096 := by have := HML.out; have h8 : (scanL t' a.fr a.n).length ≤ t'.length := (by rw [scan_len]; omega); omega
        have HSL : Hid (∃ n, (scanL t' a.fr a.n).length = n ∧ n ≤ 4096) := ⟨_, rfl, h9⟩
        clear h9
        obtain ⟨n, hn, hn4⟩ := HSL.out
        have HNN := Lib.hid hn
        clear hn HSL
        have y12 := Y11.out.cells
        have z12 : Py7 w11.drew h7 h10 room A6 L6 c6 a := y12
        go_region_held3 (fun w' => Py7 w' h7 h10 room A6 L6 c6 a)
          (first | with_reducible exact z12 | with_reducible exact y13 | with_reducible exact y14)
          (first
            | (go_at_call 20; refine (tb_scan W g room t' v6 a.fr a.n _ (Y11.out.t.drew)).mono ?_; rw [HNN.out]; rintro E w13 ⟨q13, rfl, own13, o13⟩
               obtain ⟨A13, n13, c13, rfl⟩ := own_shape own13
               have Y13 := (Y11.out.keep (Only.refl none_ w11).drew).keep o13
               have P13 := (O11.out.drew).trans o13
               have y13 := Y13.cells
               have C13 := Cel.of_own own13
               clear own13 o13)
            | (go_at_call 21; refine (rf_scan (fun b => b < w13.heap.size) room t' _ a.fr a.n _ (HMM13 w13 P13) HRS.out HML.out (fun b hb => hb)).mono ?_; rw [HNN.out]; rintro E w14 ⟨q14, rfl, own14, o14⟩
               obtain ⟨A14, n14, c14, rfl⟩ := own_shape own14
               have Y14 := Y13.keep o14
               have P14 := P13.trans o14
               have y14 := Y14.cells
               have C14 := Cel.of_own own14
               have C13' := C13.only o14 (fun _ _ h => h)
               clear own14 o14))
        all_goals
          have E13 : n13 = n := by obtain ⟨_, _, e, _⟩ := C13'; injection e
          have E14 : n14 = n := by obtain ⟨_, _, e, _⟩ := C14; injection e
          subst E13
          subst E14
          have CA := Lib.hid (fun (w' : World) (o : Only none_ w14 w') => C13'.only o (fun _ _ h => h))
          have CB := Lib.hid (fun (w' : World) (o : Only none_ w14 w') => C14.only o (fun _ _ h => h))
          have Y15 := Lib.hid Y14
          have P15 := Lib.hid P14
          clear C13 C13' C14 Y13 Y14 P13 P14 y12 y13 y14 z12
          go_wp2_with fail
          go_loopw [138] (fun i wr => ∃ j : Nat, j ≤ n14 ∧ i = .int .i64 (j : Int) ∧ Only none_ w14 wr) (fun i _ => n14 - (intOf i).toNat)
          case atStart => exact ⟨0, Nat.zero_le _, rfl, Only.refl _ _⟩
          case round =>
            obtain ⟨j, hj, rfl, ho⟩ := hrel
            have HW := Lib.hid ho
            clear ho
            by_cases hlt2 : j < n14
            · have hkl : j < (scanL t' a.fr a.n).length := by have := HNN.out; omega
              obtain ⟨ba, offa, hA, hba, hlta, ha0, ha1⟩ := prI_cell (CA.out _ HW.out) j hkl HNN.out.symm
              obtain ⟨bb, offb, hB, _, hbb, hb0, hb1⟩ := prI_cell (CB.out _ HW.out) j hkl HNN.out.symm
              subst hA hB
              obtain ⟨pp, hpp⟩ : ∃ pp, (scanL t' a.fr a.n)[j] = pp := ⟨_, rfl⟩
              rw [hpp] at ha0 ha1 hb0 hb1
              obtain ⟨kk, vv⟩ := pp
              dsimp only at ha0 ha1 hb0 hb1
              have XA : Hid (∀ w', Only none_ wr w' → (w'.cell? ⟨ba, offa + j * 2, none⟩ = some (.string kk) ∧ w'.cell? ⟨ba, offa + j * 2 + 1, none⟩ = some (.int .i64 vv))) := fun w' o => ⟨(o.cell (p := ⟨ba, offa + j * 2, none⟩) hlta (fun h => h)).trans ha0, (o.cell (p := ⟨ba, offa + j * 2 + 1, none⟩) hlta (fun h => h)).trans ha1⟩
              have BX := Lib.hid (Blk.new wr 44 #[.string kk, .int .i64 vv])
              have O19 := Lib.hid ((Only.refl none_ wr).alloc (.cells #[.string kk, .int .i64 vv] 44))
              have hki : (j : Int) < (n14 : Int) := by omega
              clear hpp
              go_wp2_with fail
              (refine wp_region_steady (fun w' => Blk w' wr.heap.size 44 #[.string kk, .int .i64 vv] ∧ Only none_ wr w') 18 (by kernel_rfl) (by kernel_rfl) (⟨BX.out.drew, O19.out.drew⟩) ?_; simp only [List.take_succ_cons, List.take_zero, List.drop_succ_cons, List.drop_zero])
              repeat (first
                | (refine sd_value (v := ?_) (by rfl) (fun w0 hS => ?_) ?_; rotate_left; (· (skip; go_simp; try (with_reducible rfl))); try simp only [Act.put, List.setIfInBounds_toArray, List.set_cons_zero, List.set_cons_succ])
                | (refine sd_value (v := ?_) (by rfl) (fun w0 hS => ?_) ?_; rotate_left; (· (have hc0 := hS.1.cell_ (i := 0) rfl; have hc1 := hS.1.cell_ (i := 1) rfl; have hx := XA.out _ hS.2; go_simp; try (with_reducible rfl))); try simp only [Act.put, List.setIfInBounds_toArray, List.set_cons_zero, List.set_cons_succ])
                | (refine sd_skip (by rfl) ?_; try simp only [Act.put, List.setIfInBounds_toArray, List.set_cons_zero, List.set_cons_succ]))
              refine sd_nil ?_
              intro w20 t20
              have T20 := Lib.hid t20.2
              clear t20
              go_wp2_with fail
              go_roundw
              case rel => exact ⟨j + 1, by omega, by go_num, HW.out.trans T20.out⟩
              case measure => simp [intOf]; omega
            · obtain rfl : n14 = j := by omega
              have Y21 := Lib.hid (Y15.out.keep HW.out)
              have C21 := Lib.hid (C7.out.only (P15.out.trans HW.out) (fun _ _ h => h))
              clear HW hlt2 hj
              go_wp2_with fail
              go_roundw
              case rel => exact ⟨k + 1, t', v6, A6, L6, c6, by omega, by go_num, HL6.out.symm, Y21.out.t, Y21.out.b7, C21.out⟩
              case measure => simp [intOf]; omega
      · have hrlt : r < L6 := by have h9 := has_lt HRS.out hs; rw [HR.out, HL6.out] at h9; exact h9
        have HF : Hid (fndL t' a.fr = (r : Int)) := by rw [Hid, fndL, if_pos hs, HR.out]
        have hrt : r < t'.length := by rw [HL6.out]; exact hrlt
        obtain ⟨vr, hvr⟩ : ∃ vr, t'[r].v = vr := ⟨_, rfl⟩
        have HVR := Lib.hid hvr
        have HG : Hid (getL t' a.fr = vr) := by rw [Hid, getL, if_pos hs, HR.out, List.getElem?_eq_getElem hrt, ← hvr]; rfl
        have HS := Lib.hid hs
        have hr4 : r ≤ 4096 := by have := HML.out; omega
        have hri : (r : Int) < (L6 : Int) := by omega
        clear hs hvr
        go_wp2_with (first
        | (go_at_call 18; refine (tb_get W g room t' v6 _ _ Y9.out.t).mono ?_; rw [HG.out, HS.out]; rintro E w10 ⟨rfl, o10⟩
           have Y10 := Lib.hid (Y9.out.keep o10)
           have O10 := Lib.hid (O9.out.trans o10)
           have y10 := Y10.out.cells
           clear o10 y9)
        | (go_at_call 19; refine (rf_find _ room t' _ _ _ (HMM.out.only O10.out (fun _ _ h => h)) HRS.out HML.out).mono ?_; rw [HF.out]; rintro E w11 ⟨rfl, o11⟩
           have Y11 := Lib.hid (Y10.out.keep o11)
           have O11 := Lib.hid (O10.out.trans o11)
           have y11 := Y11.out.cells
           obtain ⟨bv, offv, hAv, _, _, _, hv1⟩ := prI_cell (C7.out.only O11.out (fun _ _ h => h)) r hrt HL6.out.symm
           rw [HVR.out] at hv1
           subst hAv
           clear o11 y10))
        have h9 : (scanL t' a.fr a.n).length ≤ 4096 := by have := HML.out; have h8 : (scanL t' a.fr a.n).length ≤ t'.length := (by rw [scan_len]; omega); omega
        have HSL : Hid (∃ n, (scanL t' a.fr a.n).length = n ∧ n ≤ 4096) := ⟨_, rfl, h9⟩
        clear h9
        obtain ⟨n, hn, hn4⟩ := HSL.out
        have HNN := Lib.hid hn
        clear hn HSL
        have y12 := Y11.out.cells
        have z12 : Py7 w11.drew h7 h10 room (some ⟨bv, offv, none⟩) L6 c6 a := y12
        go_region_held3 (fun w' => Py7 w' h7 h10 room (some ⟨bv, offv, none⟩) L6 c6 a)
          (first | with_reducible exact z12 | with_reducible exact y13 | with_reducible exact y14)
          (first
            | (go_at_call 20; refine (tb_scan W g room t' v6 a.fr a.n _ (Y11.out.t.drew)).mono ?_; rw [HNN.out]; rintro E w13 ⟨q13, rfl, own13, o13⟩
               obtain ⟨A13, n13, c13, rfl⟩ := own_shape own13
               have Y13 := (Y11.out.keep (Only.refl none_ w11).drew).keep o13
               have P13 := (O11.out.drew).trans o13
               have y13 := Y13.cells
               have C13 := Cel.of_own own13
               clear own13 o13)
            | (go_at_call 21; refine (rf_scan (fun b => b < w13.heap.size) room t' _ a.fr a.n _ (HMM13 w13 P13) HRS.out HML.out (fun b hb => hb)).mono ?_; rw [HNN.out]; rintro E w14 ⟨q14, rfl, own14, o14⟩
               obtain ⟨A14, n14, c14, rfl⟩ := own_shape own14
               have Y14 := Y13.keep o14
               have P14 := P13.trans o14
               have y14 := Y14.cells
               have C14 := Cel.of_own own14
               have C13' := C13.only o14 (fun _ _ h => h)
               clear own14 o14))
        all_goals
          have E13 : n13 = n := by obtain ⟨_, _, e, _⟩ := C13'; injection e
          have E14 : n14 = n := by obtain ⟨_, _, e, _⟩ := C14; injection e
          subst E13
          subst E14
          have CA := Lib.hid (fun (w' : World) (o : Only none_ w14 w') => C13'.only o (fun _ _ h => h))
          have CB := Lib.hid (fun (w' : World) (o : Only none_ w14 w') => C14.only o (fun _ _ h => h))
          have Y15 := Lib.hid Y14
          have P15 := Lib.hid P14
          clear C13 C13' C14 Y13 Y14 P13 P14 y12 y13 y14 z12
          go_wp2_with fail
          go_loopw [138] (fun i wr => ∃ j : Nat, j ≤ n14 ∧ i = .int .i64 (j : Int) ∧ Only none_ w14 wr) (fun i _ => n14 - (intOf i).toNat)
          case atStart => exact ⟨0, Nat.zero_le _, rfl, Only.refl _ _⟩
          case round =>
            obtain ⟨j, hj, rfl, ho⟩ := hrel
            have HW := Lib.hid ho
            clear ho
            by_cases hlt2 : j < n14
            · have hkl : j < (scanL t' a.fr a.n).length := by have := HNN.out; omega
              obtain ⟨ba, offa, hA, hba, hlta, ha0, ha1⟩ := prI_cell (CA.out _ HW.out) j hkl HNN.out.symm
              obtain ⟨bb, offb, hB, _, hbb, hb0, hb1⟩ := prI_cell (CB.out _ HW.out) j hkl HNN.out.symm
              subst hA hB
              obtain ⟨pp, hpp⟩ : ∃ pp, (scanL t' a.fr a.n)[j] = pp := ⟨_, rfl⟩
              rw [hpp] at ha0 ha1 hb0 hb1
              obtain ⟨kk, vv⟩ := pp
              dsimp only at ha0 ha1 hb0 hb1
              have XA : Hid (∀ w', Only none_ wr w' → (w'.cell? ⟨ba, offa + j * 2, none⟩ = some (.string kk) ∧ w'.cell? ⟨ba, offa + j * 2 + 1, none⟩ = some (.int .i64 vv))) := fun w' o => ⟨(o.cell (p := ⟨ba, offa + j * 2, none⟩) hlta (fun h => h)).trans ha0, (o.cell (p := ⟨ba, offa + j * 2 + 1, none⟩) hlta (fun h => h)).trans ha1⟩
              have BX := Lib.hid (Blk.new wr 44 #[.string kk, .int .i64 vv])
              have O19 := Lib.hid ((Only.refl none_ wr).alloc (.cells #[.string kk, .int .i64 vv] 44))
              have hki : (j : Int) < (n14 : Int) := by omega
              clear hpp
              go_wp2_with fail
              (refine wp_region_steady (fun w' => Blk w' wr.heap.size 44 #[.string kk, .int .i64 vv] ∧ Only none_ wr w') 18 (by kernel_rfl) (by kernel_rfl) (⟨BX.out.drew, O19.out.drew⟩) ?_; simp only [List.take_succ_cons, List.take_zero, List.drop_succ_cons, List.drop_zero])
              repeat (first
                | (refine sd_value (v := ?_) (by rfl) (fun w0 hS => ?_) ?_; rotate_left; (· (skip; go_simp; try (with_reducible rfl))); try simp only [Act.put, List.setIfInBounds_toArray, List.set_cons_zero, List.set_cons_succ])
                | (refine sd_value (v := ?_) (by rfl) (fun w0 hS => ?_) ?_; rotate_left; (· (have hc0 := hS.1.cell_ (i := 0) rfl; have hc1 := hS.1.cell_ (i := 1) rfl; have hx := XA.out _ hS.2; go_simp; try (with_reducible rfl))); try simp only [Act.put, List.setIfInBounds_toArray, List.set_cons_zero, List.set_cons_succ])
                | (refine sd_skip (by rfl) ?_; try simp only [Act.put, List.setIfInBounds_toArray, List.set_cons_zero, List.set_cons_succ]))
              refine sd_nil ?_
              intro w20 t20
              have T20 := Lib.hid t20.2
              clear t20
              go_wp2_with fail
              go_roundw
              case rel => exact ⟨j + 1, by omega, by go_num, HW.out.trans T20.out⟩
              case measure => simp [intOf]; omega
            · obtain rfl : n14 = j := by omega
              have Y21 := Lib.hid (Y15.out.keep HW.out)
              have C21 := Lib.hid (C7.out.only (P15.out.trans HW.out) (fun _ _ h => h))
              clear HW hlt2 hj
              go_wp2_with fail
              go_roundw
              case rel => exact ⟨k + 1, t', v6, (some ⟨bv, offv, none⟩), L6, c6, by omega, by go_num, HL6.out.symm, Y21.out.t, Y21.out.b7, C21.out⟩
              case measure => simp [intOf]; omega
    · obtain rfl : N = k := by omega
      have OE := Lib.hid ht.ho
      clear hr hb7 ht
      go_wp2_with fail
      go_ret
      exact ⟨rfl, OE.out.below (Nat.le_refl _) (fun k hk => hk.elim)⟩
end Go.Proofs.Ytkailngpmodfhaa
