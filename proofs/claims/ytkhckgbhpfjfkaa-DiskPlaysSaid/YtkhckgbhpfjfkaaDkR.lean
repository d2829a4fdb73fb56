/- The call of DiskPlays. The statement itself is proved in another text. -/
import Derived.Test.YtkhckgbhpfjfkaaDkQ
import Derived.Test.YtkhckgbhpfjfkaaDkE
namespace Go.Proofs.Ytkhckgbhpfjfkaa
open Go.RowKit
set_option maxRecDepth 100000

set_option maxHeartbeats 1600000 in
theorem plays_long (A : Option Addr) (L c : Nat) (l : List Da) (W : World) (h : Cel W (fun b => b < W.heap.size) (.slice A L c) L 3 (l.flatMap daRow)) (hl : L = l.length) (ok : ∀ x ∈ l, daOk W x) (hf : fewB l = false) :
    Calls Try.prog 5 #[.slice A L c] W fun e w' => e = .returned (.bool true) ∧ Below W.heap.size W w' := by
  have F := fun w o => few_any W A L c l w h hl o ok
  rw [hf] at F
  have KF := Lib.hid F
  clear h hl ok hf F
  have tok1 : True := trivial
  go_enter Try.func5, Try.ntmps5
  go_wp2_with (first
    | (go_at_call 32; have _t := tok1; clear tok1; refine (dk_speaks W).mono ?_; rintro e w1 ⟨rfl, o1⟩; have O1 := Lib.hid o1; clear o1; have tok2 : True := trivial)
    | (go_at_call 33; refine (KF.out w1 O1.out).mono ?_; rintro e w2 ⟨rfl, o2⟩; have O2 := Lib.hid (O1.out.trans o2); clear o2)
    | (go_at_call 32; have _t := tok2; clear tok2; refine (dk_speaks w2).mono ?_; rintro e w3 ⟨rfl, o3⟩; have O3 := Lib.hid (O2.out.trans o3); clear o3))
  go_ret
  exact ⟨rfl, O3.out.below (Nat.le_refl _) (fun _ h => h.elim)⟩

set_option maxHeartbeats 3200000 in
theorem plays_short (A : Option Addr) (L c : Nat) (l : List Da) (W : World) (h : Cel W (fun b => b < W.heap.size) (.slice A L c) L 3 (l.flatMap daRow)) (hl : L = l.length) (ok : ∀ x ∈ l, daOk W x) (hf : fewB l = true) :
    Calls Try.prog 5 #[.slice A L c] W fun e w' => e = .returned (.bool true) ∧ Below W.heap.size W w' := by
  have F := fun w o => few_any W A L c l w h hl o ok
  rw [hf] at F
  have KF := Lib.hid F
  have hL60 : L ≤ 60 := by
    simp only [fewB, Bool.and_eq_true, decide_eq_true_eq] at hf
    omega
  have H := Lib.hid h
  have HL := Lib.hid hl
  have OK := Lib.hid ok
  clear h hl ok hf F
  go_enter Try.func5, Try.ntmps5
  go_wp2_with (first
    | (go_at_call 32; refine (dk_speaks W).mono ?_; rintro e w1 ⟨rfl, o1⟩; have O1 := Lib.hid o1; clear o1)
    | (go_at_call 33; refine (KF.out w1 O1.out).mono ?_; rintro e w2 ⟨rfl, o2⟩; have O2 := Lib.hid (O1.out.trans o2); clear o2)
    | (go_at_call 34; refine (disk_new W w2 O2.out).mono ?_; rintro e w3 ⟨g, rfl, hg, h3, o3⟩
       have H3 := Lib.hid h3
       have O3 := Lib.hid (O2.out.trans o3)
       clear h3 o3 hg)
    | (go_at_call 35; refine (ref_new w3).mono ?_; rintro e w4 ⟨rfl, o4⟩
       have P4 : Hid (Pl W g w4.heap.size ⟨true, -1, [], 0⟩ (.slice none 0 0) none 0 0 (w4.alloc (.cells #[.slice none 0 0, .int .i64 0, .bool false, .int .i64 (-1)] 74))) :=
         ⟨H3.out.keep (o4.alloc _), Blk.new w4 _ _, Byt.nil _ _, Nat.le_trans O3.out.size o4.size⟩
       clear o4))
  generalize w4.heap.size = gm at *
  go_loopw [23] (fun k wr => ∃ j : Nat, j ≤ L ∧ k = .int .i64 j ∧ ∃ d v A n c, Pl W g gm d v A n c wr) (fun k _ => L - (intOf k).toNat)
  case atStart => exact ⟨0, by omega, rfl, _, _, _, _, _, P4.out⟩
  case round =>
    obtain ⟨j, hj, rfl, d, v, A1, n1, c1, hp⟩ := hrel
    by_cases hlb : j < L
    · have hjl : j < l.length := by have := HL.out; omega
      obtain ⟨b, off, X, n, e, eA, k0, k1, k2, hn, hb, hr1, hr2⟩ := da_at H.out HL.out hjl hp.ds.ho OK.out
      subst eA
      obtain ⟨kj, hkj⟩ : ∃ x, l[j].k = x := ⟨_, rfl⟩
      obtain ⟨nj, hnj⟩ : ∃ x, l[j].n = x := ⟨_, rfl⟩
      obtain ⟨ys, hys⟩ : ∃ x, l[j].bs = x := ⟨_, rfl⟩
      rw [hkj] at k0
      rw [hnj] at k1 hr1 hr2
      rw [hys] at hb
      have P0 := Lib.hid (hp.keep ((Only.refl none_ wr).alloc (.cells #[.int .i64 kj, .int .i64 nj, .slice X n e] 77)))
      have C := do_any W _ g v d A1 X n1 c1 n e kj nj ys P0.out.ds P0.out.bm (hb.alloc _) hr1 hr2
      obtain ⟨d', hd'⟩ : ∃ d', acD kj nj ys d = d' := ⟨_, rfl⟩
      rw [hd'] at C
      obtain ⟨s', hs'⟩ : ∃ s', (nf d').safe = s' := ⟨_, rfl⟩
      obtain ⟨o', ho'⟩ : ∃ o', (!(nf d').on) = o' := ⟨_, rfl⟩
      obtain ⟨f', hf'⟩ : ∃ f', (nf d').fuse = f' := ⟨_, rfl⟩
      have q0 := four_of P0.out.bk
      have KC := Lib.hid C
      have HS := Lib.hid hs'
      have HO := Lib.hid ho'
      have HF := Lib.hid hf'
      clear hp C hb hn hkj hnj hys hd' hs' ho' hf' hr1 hr2
      cases o'
      · go_wp2_with (first
          | (go_at_call 36; refine KC.out.mono ?_; rintro e5 w5 r5
             obtain ⟨A6, n6, c6, v6, rfl, b5, o5, p5⟩ := P0.out.next r5 HS.out HO.out HF.out
             have B5 := Lib.hid (b5.alloc (.cells #[.slice A6 n6 c6, .int .i64 s', .bool false, .int .i64 f'] 74))
             have P6 := Lib.hid (p5 _ ((Only.refl none_ w5).alloc (.cells #[.slice A6 n6 c6, .int .i64 s', .bool false, .int .i64 f'] 74)))
             clear r5 b5 o5 p5)
          | (refine wpList_store_row rfl 74 _ _ rfl gm #[.slice A6 n6 c6, .int .i64 s', .bool false, .int .i64 f'] rfl rfl 74 _ B5.out (by kernel_rfl) rfl (by simp [Value.oneCell']) ?_
             generalize (w5.alloc (.cells #[.slice A6 n6 c6, .int .i64 s', .bool false, .int .i64 f'] 74)).setRow gm #[.slice A6 n6 c6, .int .i64 s', .bool false, .int .i64 f'] = w6 at *))
        have q6 := four_of P6.out.bk
        rw [HS.out, HO.out, HF.out] at q6
        go_quiet ((first
          | (go_at_call 37; exact Calls.quiet_of_same ((Pl.keep P6.out ((Only.refl none_ w6).drewN _)).on HO.out))
          | (go_at_call 38; exact Calls.quiet_of_same (Pl.keep P6.out ((Only.refl none_ w6).drewN _)).len)
          | (go_at_call 39; exact Calls.quiet_of_same ((Pl.keep P6.out ((Only.refl none_ w6).drewN _)).safe HS.out))))
        go_wp2_with (first
          | (go_at_call 40; refine ((Pl.keep P6.out ((Only.refl none_ w6).drewN _)).read HO.out).mono ?_; rintro e w7 ⟨A7, n7, c7, rfl, own7, o7⟩
             have P7 := Lib.hid ((Pl.keep P6.out ((Only.refl none_ w6).drewN _)).keep o7)
             have q7 := four_of P7.out.bk
             rw [HS.out, HO.out, HF.out] at q7
             have s7 := run_bytes_string w7 _ _ _ (Byt.of_own own7)
             have t7 := run_bytes_string w7 _ _ _ P7.out.bm
             clear own7 o7))
        go_roundw
        case rel => exact ⟨j + 1, by omega, by go_num, _, _, _, _, _, P7.out⟩
        case measure => simp [intOf]; omega
      · go_wp2_with (first
          | (go_at_call 36; refine KC.out.mono ?_; rintro e5 w5 r5
             obtain ⟨A6, n6, c6, v6, rfl, b5, o5, p5⟩ := P0.out.next r5 HS.out HO.out HF.out
             have B5 := Lib.hid (b5.alloc (.cells #[.slice A6 n6 c6, .int .i64 s', .bool true, .int .i64 f'] 74))
             have P6 := Lib.hid (p5 _ ((Only.refl none_ w5).alloc (.cells #[.slice A6 n6 c6, .int .i64 s', .bool true, .int .i64 f'] 74)))
             clear r5 b5 o5 p5)
          | (refine wpList_store_row rfl 74 _ _ rfl gm #[.slice A6 n6 c6, .int .i64 s', .bool true, .int .i64 f'] rfl rfl 74 _ B5.out (by kernel_rfl) rfl (by simp [Value.oneCell']) ?_
             generalize (w5.alloc (.cells #[.slice A6 n6 c6, .int .i64 s', .bool true, .int .i64 f'] 74)).setRow gm #[.slice A6 n6 c6, .int .i64 s', .bool true, .int .i64 f'] = w6 at *))
        have q6 := four_of P6.out.bk
        rw [HS.out, HO.out, HF.out] at q6
        go_quiet ((first
          | (go_at_call 37; exact Calls.quiet_of_same ((Pl.keep P6.out ((Only.refl none_ w6).drewN _)).on HO.out))
          | (go_at_call 38; exact Calls.quiet_of_same (Pl.keep P6.out ((Only.refl none_ w6).drewN _)).len)
          | (go_at_call 39; exact Calls.quiet_of_same ((Pl.keep P6.out ((Only.refl none_ w6).drewN _)).safe HS.out))))
        go_wp2_with (first
          | (go_at_call 40; refine ((Pl.keep P6.out ((Only.refl none_ w6).drewN _)).dark HO.out).mono ?_; rintro e w7 ⟨A7, c7, rfl, o7⟩
             have P7 := Lib.hid ((Pl.keep P6.out ((Only.refl none_ w6).drewN _)).keep o7)
             have q7 := four_of P7.out.bk
             rw [HS.out, HO.out, HF.out] at q7
             clear o7))
        go_roundw
        case rel => exact ⟨j + 1, by omega, by go_num, _, _, _, _, _, P7.out⟩
        case measure => simp [intOf]; omega
    · go_wp2_with fail
      go_ret
      exact ⟨rfl, hp.ds.ho.below (Nat.le_refl _) (fun _ h => h.elim)⟩
end Go.Proofs.Ytkhckgbhpfjfkaa
