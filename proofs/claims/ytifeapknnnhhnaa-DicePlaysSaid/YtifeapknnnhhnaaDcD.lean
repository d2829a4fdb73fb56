/- What Some of dice does. No statement of the seat is proved here. -/
import Derived.Test.YtifeapknnnhhnaaDcC
namespace Go.Proofs.Ytifeapknnnhhnaa
open Go.RowKit
set_option linter.all false
set_option maxRecDepth 100000

theorem front_take (cur X Y : List Value) (n i : Nat) (x : Value) (hc : cur.take n = X ++ Y) (hn : n = X.length + Y.length) (hi : Y[i]? = some x) :
    (cur.take X.length ++ x :: (cur.drop X.length).eraseIdx i).take n = (X ++ [x]) ++ Y.eraseIdx i := by
  have hiY : i < Y.length := (List.getElem?_eq_some_iff.1 hi).1
  have e : cur = X ++ (Y ++ cur.drop n) := by rw [← List.append_assoc, ← hc, List.take_append_drop]
  have h1 : cur.take X.length = X := by rw [e, List.take_left]
  have h2 : cur.drop X.length = Y ++ cur.drop n := by conv => lhs; rw [e, List.drop_left]
  rw [h1, h2, List.eraseIdx_append_of_lt_length hiY]
  have h3 : X ++ x :: (Y.eraseIdx i ++ cur.drop n) = ((X ++ [x]) ++ Y.eraseIdx i) ++ cur.drop n := by simp
  rw [h3, List.take_append_of_le_length (by simp [List.length_eraseIdx_of_lt hiY]; omega), List.take_of_length_le (by simp [List.length_eraseIdx_of_lt hiY]; omega)]
theorem take_at {cur X Y : List Value} {n i : Nat} {x : Value} (hc : cur.take n = X ++ Y) (hi : Y[i]? = some x) : cur[X.length + i]? = some x := by
  have h1 : (cur.take n)[X.length + i]? = some x := by
    rw [hc, List.getElem?_append_right (by omega)]
    simpa using hi
  rw [List.getElem?_take] at h1
  split at h1
  · exact h1
  · cases h1
theorem take_mem {cur X Y : List Value} {n i : Nat} (hc : cur.take n = X ++ Y) (hi : i ≤ Y.length) (hn : n = X.length + Y.length) (hl : n ≤ cur.length) : (cur.drop X.length).take i = Y.take i := by
  have e : cur = X ++ (Y ++ cur.drop n) := by rw [← List.append_assoc, ← hc, List.take_append_drop]
  have h2 : cur.drop X.length = Y ++ cur.drop n := by conv => lhs; rw [e, List.drop_left]
  rw [h2, List.take_append_of_le_length hi]

/-- What holds ahead of a round. -/
structure So (w : World) (B d : Nat) (v : Value) (zs ys : List Int) (A1 : Option Addr) (n c1 j : Nat) (wr : World) : Prop where
  dc : ∃ v', Dc wr B d v' (sqN zs ys j).l ∧ ∀ k, v'.ownBlock = some k → v.ownBlock = some k
  ow : wr.ownsRow w.heap.size 3 1 (.slice A1 n c1) n (nums ((sqN zs ys j).out ++ (sqN zs ys j).rest))
  ho : Only (one d) w wr

set_option maxHeartbeats 6400000 in
theorem dc_some (B d : Nat) (v X : Value) (zs ys : List Int) (k : Int) (S : Nat → Prop) (w : World) (h : Dc w B d v zs) (hX : Nm w S X ys) (hl : ys.length ≤ 4096) :
    Calls Try.prog 14 #[.pointer (some ⟨d, 0, none⟩), X, .int .i64 k] w fun e w' => ∃ v1 v', e = .returned v1 ∧ Nm w' (fun b => w.heap.size ≤ b) v1 (sqN zs ys (clampK k ys.length)).out ∧ Dc w' B d v' (sqN zs ys (clampK k ys.length)).l ∧ Only (one d) w w' ∧ ∀ k, v'.ownBlock = some k → v.ownBlock = some k := by
  obtain ⟨i0, hi0, hz0, hz1, hz2⟩ := info_parts int_info
  obtain ⟨A, c, hv⟩ := hX.shape
  obtain ⟨n, hn⟩ : ∃ n, ys.length = n := ⟨_, rfl⟩
  rw [hn] at hv
  subst hv
  obtain ⟨kk, hkk⟩ : ∃ kk, clampK k n = kk := ⟨_, rfl⟩
  have hkn : kk ≤ n := by rw [← hkk]; exact clamp_le k n
  have hmn : ∃ y : Int, (∀ ts t w, (Builtin.min_ ts t #[.int .i64 k, .int .i64 (n : Int)]).run Try.prog w = .ok (.int .i64 y) w) ∧ ∀ ts t w, (Builtin.max_ ts t #[.int .i64 0, .int .i64 y]).run Try.prog w = .ok (.int .i64 (kk : Int)) w := by
    by_cases h1 : (n : Int) < k
    · refine ⟨n, fun ts t w => by rw [run_min_int2, if_pos h1], fun ts t w => ?_⟩
      rw [run_max_int2, show kk = n from by rw [← hkk, clampK]; omega]
      by_cases h2 : (0 : Int) < (n : Int)
      · rw [if_pos h2]
      · rw [if_neg h2, show (n : Int) = 0 from by omega]
    · refine ⟨k, fun ts t w => by rw [run_min_int2, if_neg h1], fun ts t w => ?_⟩
      rw [run_max_int2]
      by_cases h2 : (0 : Int) < k
      · rw [if_pos h2, show (kk : Int) = k from by rw [← hkk, clampK]; omega]
      · rw [if_neg h2, show (kk : Int) = 0 from by rw [← hkk, clampK]; omega]
  obtain ⟨y, hmn1, hmx1⟩ := hmn
  have HCL := Lib.hid (cloZ A n c S ys w hX (by omega))
  have F : Hid (Dc w B d v zs) := h
  have HN := Lib.hid hn
  have HSL := Lib.hid (sq_len zs ys)
  rw [hn] at HSL ⊢
  rw [hkk]
  have hn6 : n ≤ 4096 := by omega
  clear h hX hn hl hkk
  go_enter Try.func14, Try.ntmps14
  go_wp2_with (first
    | (go_at_call 19; refine HCL.out.mono ?_; rintro E w1 ⟨v1, rfl, own1, o1⟩
       obtain ⟨A1, n1, c1, rfl⟩ := own_sl own1
       obtain rfl : n = n1 := (own_len own1).symm
       have S0 : Hid (So w B d v zs ys A1 n c1 0 w1) := ⟨⟨v, F.out.keep o1, fun k hk => hk⟩, own1, o1.of_none⟩
       clear own1 o1))
  go_loopw [16] (fun i wr => ∃ j : Nat, j ≤ kk ∧ i = .int .i64 (j : Int) ∧ So w B d v zs ys A1 n c1 j wr) (fun i _ => kk - (intOf i).toNat)
  case atStart => exact ⟨0, Nat.zero_le _, rfl, S0.out⟩
  case round =>
    obtain ⟨j, hj, rfl, hs⟩ := hrel
    have HS := Lib.hid hs
    clear hs
    by_cases hlt : j < kk
    · obtain ⟨hol, hrl⟩ := HSL.out j (by omega)
      obtain ⟨v2, d2, m2⟩ := HS.out.dc
      obtain ⟨g, cur, rfl, hrw, hnc, htk⟩ := own_rw HS.out.ow (by omega)
      rw [Nat.mul_one, nums_append] at htk
      obtain ⟨M, hM⟩ : ∃ M, n - j = M := ⟨_, rfl⟩
      have hM0 : 0 < M := by omega
      rw [hM] at hrl
      have hil := sqI_lt (s := sqN zs ys j) (by omega)
      have hii := sqI_int (s := sqN zs ys j) (by omega)
      obtain ⟨i, hi⟩ : ∃ i, sqI (sqN zs ys j) = i := ⟨_, rfl⟩
      rw [hi] at hil hii
      obtain ⟨x, hx⟩ : ∃ x, (sqN zs ys j).rest[i]? = some x := ⟨_, List.getElem?_eq_getElem hil⟩
      have hxn := nums_at hx
      have hsl : ∀ w', (Instr.sliceAt 22 (.slice (some ⟨g, 0, none⟩) n c1) (some (.int .i64 (j : Int))) none none).run Try.prog w' = .ok (.slice (some ⟨g, j, none⟩) M (c1 - j)) w' := fun w' => by
        have := sl_lo0 Try.underlying22 hi0 hz1 g n c1 j (by omega) (by omega) (j : Int) rfl w'
        rwa [Nat.mul_one, hM] at this
      have hw1 : IntKind.i64.wrap ((n : Int) - (j : Int)) = (M : Int) := by rw [IntWalk.i64_in _ (by omega)]; omega
      have hdg : d ≠ g := by
        have := hrw.ge
        have := F.out.bk.lt
        omega
      have hol2 : (nums (sqN zs ys j).out).length = j := by simp [hol]
      have hrl2 : (nums (sqN zs ys j).rest).length = M := by simp [hrl]
      have HD : Hid (∀ w', Dc w' B d v2 (sqN zs ys j).l → Calls Try.prog 16 #[.pointer (some ⟨d, 0, none⟩), .int .i64 M] w' fun e w'' => e = .returned (.int .i64 (i : Int)) ∧ ∃ v', Dc w'' B d v' (sqN zs ys (j + 1)).l ∧ Only (one d) w' w'' ∧ ∀ k, v'.ownBlock = some k → v2.ownBlock = some k) := fun w' h' => by
        refine (dc_draw B d v2 _ (M : Int) w' h' ⟨by omega, by omega⟩).mono ?_
        rintro E w'' ⟨rfl, v', d', o', m'⟩
        rw [hrl] at hii
        refine ⟨by rw [hii], v', ?_, o', m'⟩
        show Dc w'' B d v' (drL (sqN zs ys j).l (sqN zs ys j).rest.length)
        rw [hrl]; exact d'
      have HT : Hid (∀ w', Rw_ w' w.heap.size g 3 1 c1 cur → Calls Try.prog 20 #[.slice (some ⟨g, j, none⟩) M (c1 - j), .int .i64 (i : Int)] w' fun e w'' => e = .returned (.tuple #[]) ∧ w''.ownsRow w.heap.size 3 1 (.slice (some ⟨g, 0, none⟩) n c1) n (nums ((sqN zs ys (j + 1)).out ++ (sqN zs ys (j + 1)).rest)) ∧ Only (one g) w' w'') := fun w' h' => by
        have hcl := h'.cs
        have hx2 := take_at htk hxn
        rw [hol2] at hx2
        refine (to_front w.heap.size g j M (c1 - j) i c1 cur x w' h' (by omega) (by omega) (by omega) hx2 (fun u hu => ?_) (by omega)).mono ?_
        · have e1 := take_mem htk (i := i) (by omega) (by omega) (by omega)
          rw [hol2] at e1
          rw [e1] at hu
          exact nums_one _ u (List.mem_of_mem_take hu)
        · rintro E w'' ⟨rfl, r', o'⟩
          refine ⟨rfl, r'.own n _ hnc ?_, o'⟩
          have e2 := front_take cur _ _ n i (.int .i64 x) htk (by omega) hxn
          rw [hol2] at e2
          rw [Nat.mul_one, e2, nums_append]
          show _ = nums ((sqN zs ys j).out ++ [(sqN zs ys j).rest.getD (sqI (sqN zs ys j)) 0]) ++ nums ((sqN zs ys j).rest.eraseIdx (sqI (sqN zs ys j)))
          rw [hi, List.getD_eq_getElem?_getD, hx, nums_append, nums_erase]
          rfl
      have DD : Hid (Dc wr.drew B d v2 (sqN zs ys j).l ∧ Rw_ wr.drew w.heap.size g 3 1 c1 cur) := ⟨d2.keep (Only.refl none_ wr).drew, hrw.drew⟩
      have HM := Lib.hid m2
      have HDG := Lib.hid hdg
      clear hol hrl d2 m2 hrw htk hM hil hii hi hx hxn hdg hol2 hrl2
      go_wp2_with fail
      have tokD : True := trivial
      go_region_law (first
        | (have _t := tokD
           refine step_callz (by simp [Region.wanted]) 16 #[.pointer (some ⟨d, 0, none⟩), .int .i64 M] (by go_simp; try (with_reducible rfl)) ?_
           refine (HD.out _ DD.out.1).mono ?_
           rintro E w4 ⟨rfl, v4, d4, o4, m4⟩
           refine ⟨_, rfl, ?_⟩
           have D4 : Hid (Dc w4 B d v4 (sqN zs ys (j + 1)).l ∧ Only (one d) w w4 ∧ (∀ k, v4.ownBlock = some k → v.ownBlock = some k) ∧ Rw_ w4 w.heap.size g 3 1 c1 cur) := ⟨d4, HS.out.ho.drew.trans o4, fun k hk => HM.out k (m4 k hk), DD.out.2.only o4 (fun e => HDG.out e.symm)⟩
           clear d4 o4 m4 tokD
           have tokT : True := trivial)
        | (have _t := tokT
           refine step_callz (by simp [Region.wanted]) 20 #[.slice (some ⟨g, j, none⟩) M (c1 - j), .int .i64 (i : Int)] (by go_simp; try (with_reducible rfl)) ?_
           refine (HT.out _ D4.out.2.2.2).mono ?_
           rintro E w5 ⟨rfl, r5, o5⟩
           refine ⟨_, rfl, ?_⟩
           have S5 : Hid (So w B d v zs ys (some ⟨g, 0, none⟩) n c1 (j + 1) w5) := by
             have hge := D4.out.2.2.2.ge
             refine ⟨⟨v4, D4.out.1.only o5 (fun k hk e => ?_), D4.out.2.2.1⟩, r5, D4.out.2.1.trans' o5 (fun k hk e => by have e' : k = g := e; omega)⟩
             have e' : k = g := e
             rcases hk with hk | hk
             · exact HDG.out (by omega)
             · have := (F.out.nn.ge (D4.out.2.2.1 k hk)).2
               omega
           clear r5 o5))
      all_goals go_wp2_with fail
      all_goals go_roundw
      case rel => exact ⟨j + 1, by omega, by go_num, S5.out⟩
      case measure => simp [intOf]; omega
    · obtain rfl : j = kk := by omega
      obtain ⟨hol, hrl⟩ := HSL.out j (by omega)
      have hnm : Nm wr (fun b => w.heap.size ≤ b) (.slice A1 n c1) ((sqN zs ys j).out ++ (sqN zs ys j).rest) := by
        have h1 := (Cel.of_own HS.out.ow).mono (T := fun b => w.heap.size ≤ b) (fun b _ hb => (HS.out.ow.lt b hb).1)
        have e : ((sqN zs ys j).out ++ (sqN zs ys j).rest).length = n := by rw [List.length_append]; omega
        unfold Nm
        rw [e]; exact h1
      obtain ⟨A2, hcut, hn2⟩ := nm_cut Try.underlying22 hi0 hnm j hkn (j : Int) rfl
      have e2 : ((sqN zs ys j).out ++ (sqN zs ys j).rest).take (sqN zs ys j).out.length = (sqN zs ys j).out := List.take_left
      rw [hol] at e2
      rw [e2] at hn2
      have R := Lib.hid hn2
      clear hnm hn2 e2 hol hrl
      go_wp2_with fail
      go_ret
      obtain ⟨v2, d2, m2⟩ := HS.out.dc
      exact ⟨_, v2, rfl, R.out, d2, HS.out.ho, m2⟩
end Go.Proofs.Ytifeapknnnhhnaa
