/- What the call of DiceFeed comes to. No statement of the seat is proved here. -/
import Derived.Test.YtifeapknnnhhnaaDcG
namespace Go.Proofs.Ytifeapknnnhhnaa
open Go.RowKit
set_option linter.all false
set_option maxRecDepth 100000

/-- Two dice that are alike. -/
structure Fd (W : World) (x y : Nat) (vx vy : Value) (zs : List Int) (w : World) : Prop where
  dx : Dc w W.heap.size x vx zs
  dy : Dc w W.heap.size y vy zs
  ne : x ≠ y
  ho : Only none_ W w
theorem Fd.keep {W w w' : World} {x y : Nat} {vx vy : Value} {zs : List Int} (h : Fd W x y vx vy zs w) (o : Only none_ w w') : Fd W x y vx vy zs w' := ⟨h.dx.keep o, h.dy.keep o, h.ne, h.ho.trans o⟩

set_option maxHeartbeats 3200000 in
theorem feed_long (X Y Z : Value) (a b l : List Int) (W : World) (hX : Nm W (fun b => b < W.heap.size) X a) (hY : Nm W (fun b => b < W.heap.size) Y b) (hZ : Nm W (fun b => b < W.heap.size) Z l) (hl : ¬ (a.length ≤ 40 ∧ b.length ≤ 40 ∧ l.length ≤ 80)) :
    Calls Try.prog 5 #[X, Y, Z] W fun e w' => e = .returned (.bool true) ∧ Only none_ W w' := by
  obtain ⟨A, c, rfl⟩ := hX.shape
  obtain ⟨A2, c2, rfl⟩ := hY.shape
  obtain ⟨A3, c3, rfl⟩ := hZ.shape
  generalize a.length = La at hl ⊢
  generalize b.length = Lb at hl ⊢
  generalize l.length = Ll at hl ⊢
  clear hX hY hZ
  have tok1 : True := trivial
  by_cases h1 : La ≤ 40
  · have g1 : ¬ ((40 : Int) < (La : Int)) := by omega
    by_cases h2 : Lb ≤ 40
    · have g2 : ¬ ((40 : Int) < (Lb : Int)) := by omega
      have g3 : ((80 : Int) < (Ll : Int)) := by omega
      clear hl
      go_enter Try.func5, Try.ntmps5
      go_wp2_with (first
        | (go_at_call 6; have _t := tok1; clear tok1; refine (dc_speaks _).mono ?_; rintro E w1 ⟨rfl, o1⟩; have O1 := Lib.hid o1; clear o1)
        | (go_at_call 6; refine (dc_speaks _).mono ?_; rintro E w2 ⟨rfl, o2⟩; have O2 := Lib.hid (O1.out.trans o2); clear o2))
      go_ret
      exact ⟨rfl, O2.out⟩
    · have g2 : ((40 : Int) < (Lb : Int)) := by omega
      clear hl
      go_enter Try.func5, Try.ntmps5
      go_wp2_with (first
        | (go_at_call 6; have _t := tok1; clear tok1; refine (dc_speaks _).mono ?_; rintro E w1 ⟨rfl, o1⟩; have O1 := Lib.hid o1; clear o1)
        | (go_at_call 6; refine (dc_speaks _).mono ?_; rintro E w2 ⟨rfl, o2⟩; have O2 := Lib.hid (O1.out.trans o2); clear o2))
      go_ret
      exact ⟨rfl, O2.out⟩
  · have g1 : ((40 : Int) < (La : Int)) := by omega
    clear hl
    go_enter Try.func5, Try.ntmps5
    go_wp2_with (first
      | (go_at_call 6; have _t := tok1; clear tok1; refine (dc_speaks _).mono ?_; rintro E w1 ⟨rfl, o1⟩; have O1 := Lib.hid o1; clear o1)
      | (go_at_call 6; refine (dc_speaks _).mono ?_; rintro E w2 ⟨rfl, o2⟩; have O2 := Lib.hid (O1.out.trans o2); clear o2))
    go_ret
    exact ⟨rfl, O2.out⟩

set_option maxHeartbeats 6400000 in
theorem feed_short (X Y Z : Value) (a b l : List Int) (W : World) (hX : Nm W (fun b => b < W.heap.size) X a) (hY : Nm W (fun b => b < W.heap.size) Y b) (hZ : Nm W (fun b => b < W.heap.size) Z l) (h64 : ∀ z ∈ l, I64 z)
    (ha : a.length ≤ 40) (hb : b.length ≤ 40) (hl : l.length ≤ 80) :
    Calls Try.prog 5 #[X, Y, Z] W fun e w' => e = .returned (.bool true) ∧ Only none_ W w' := by
  obtain ⟨i0, hi0, hz0, hz1, hz2⟩ := info_parts int_info
  obtain ⟨A, c, rfl⟩ := hX.shape
  obtain ⟨A2, c2, rfl⟩ := hY.shape
  obtain ⟨A3, c3, rfl⟩ := hZ.shape
  obtain ⟨La, hLa⟩ : ∃ L, a.length = L := ⟨_, rfl⟩
  obtain ⟨Lb, hLb⟩ : ∃ L, b.length = L := ⟨_, rfl⟩
  obtain ⟨Ll, hLl⟩ : ∃ L, l.length = L := ⟨_, rfl⟩
  rw [hLa] at ha hX ⊢
  rw [hLb] at hb hY ⊢
  rw [hLl] at hl hZ ⊢
  have HX := Lib.hid hX
  have HY := Lib.hid hY
  have HZ := Lib.hid hZ
  have HLa := Lib.hid hLa
  have HLb := Lib.hid hLb
  have HLl := Lib.hid hLl
  have H64 := Lib.hid h64
  have g1 : ¬ ((40 : Int) < (La : Int)) := by omega
  have g2 : ¬ ((40 : Int) < (Lb : Int)) := by omega
  have g3 : ¬ ((80 : Int) < (Ll : Int)) := by omega
  have hp1 := nums_one a
  have hp2 := nums_one b
  have HLL : Hid (0 + La ≤ maxLen ∧ (0 + La) * 8 ≤ 140737488355328 ∧ La + Lb ≤ maxLen ∧ (La + Lb) * 8 ≤ 140737488355328) := by simp only [Hid, maxLen]; omega
  have tokN : True := trivial
  clear hX hY hZ hLa hLb hLl h64
  go_enter Try.func5, Try.ntmps5
  go_wp2_with (first
    | (go_at_call 6; refine (dc_speaks _).mono ?_; rintro E w1 ⟨rfl, o1⟩
       have O1 := Lib.hid o1
       have X1 : Hid (Cel (w1.alloc (.cells #[] 3)) (fun b => b < W.heap.size) (.slice A La c) La 1 (nums a)) := by
         have := (HX.out.keep o1).keep ((Only.refl none_ w1).alloc (.cells #[] 3))
         unfold Nm at this
         rwa [HLa.out] at this
       have M1 : Hid ((w1.alloc (.cells #[] 3)).ownsRow w1.heap.size 3 1 (.slice (some ⟨w1.heap.size, 0, none⟩) 0 0) 0 []) := own_made w1 w1.heap.size _ 1 0 #[] (by simp) (by simp [maxLen]) (Nat.le_refl _)
       clear o1)
    | (at_builtin; refine wpList_append_cel _ rfl (.tmp 30) (.tmp 31) 22 rfl w1.heap.size 3 i0 _ 1 8 Try.underlying22 hi0 hz0 hz1 hz2 rfl (by omega) _ 0 [] rfl M1.out _ _ La (nums a) rfl X1.out hp1 HLL.out.1 HLL.out.2.1 (by simp) ?_
       intro A5 n5 c5 w5 hown5 hgrow5 hmv5
       have R5 : Hid (w5.ownsRow w1.heap.size 3 1 (.slice A5 n5 c5) La (nums a) ∧ Only none_ w1 w5) := ⟨by simpa using hown5, (((Only.refl none_ w1).alloc _).of_none.grown hgrow5 (fun k hk => .inr (by have e : some w1.heap.size = some k := hk; injection e with e; omega)))⟩
       have Y5 : Hid (Cel w5 (fun b => b < W.heap.size) (.slice A2 Lb c2) Lb 1 (nums b)) := by
         have := (HY.out.keep O1.out).keep R5.out.2
         unfold Nm at this
         rwa [HLb.out] at this
       clear hown5 hgrow5 hmv5)
    | (at_builtin; refine wpList_append_cel _ rfl (.tmp 32) (.tmp 33) 22 rfl w1.heap.size 3 i0 _ 1 8 Try.underlying22 hi0 hz0 hz1 hz2 rfl (by omega) _ La (nums a) rfl R5.out.1 _ _ Lb (nums b) rfl Y5.out hp2 HLL.out.2.2.1 HLL.out.2.2.2 R5.out.2.size ?_
       intro A6 n6 c6 w6 hown6 hgrow6 hmv6
       have R6 : Hid (Nm w6 (fun b => w1.heap.size ≤ b) (.slice A6 n6 c6) (a ++ b) ∧ Only none_ W w6) := by
         refine ⟨?_, O1.out.trans (R5.out.2.of_none.grown hgrow6 (fun k hk => .inr (R5.out.1.lt k hk).1))⟩
         have h1 := (Cel.of_own hown6).mono (T := fun b => w1.heap.size ≤ b) (fun b _ hb => (hown6.lt b hb).1)
         rw [← nums_append] at h1
         unfold Nm
         rw [List.length_append, HLa.out, HLb.out]
         exact h1
       clear hown6 hgrow6 hmv6)
    | (go_at_call 8; have _t := tokN; refine (dc_new _ (a ++ b) _ _ R6.out.1 (by rw [List.length_append, HLa.out, HLb.out]; omega)).mono ?_; clear tokN; rintro E w7 ⟨x, vx, rfl, d7, o7⟩
       have D7 := Lib.hid (d7.base R6.out.2.size)
       have O7 := Lib.hid (R6.out.2.trans o7)
       clear d7 o7)
    | (go_at_call 8; refine (dc_new _ a _ _ (HX.out.keep O7.out) (by rw [HLa.out]; omega)).mono ?_; rintro E w8 ⟨y, vy, rfl, d8, o8⟩
       have D8 : Hid (Dc w8 W.heap.size x vx (a ++ b) ∧ Dc w8 w7.heap.size y vy a ∧ Only none_ W w8 ∧ ∀ k, dcb x vx k → k < w7.heap.size) := ⟨D7.out.keep o8, d8, O7.out.trans o8, fun k hk => (D7.out.foot hk).2⟩
       have hO7 := Lib.hid O7.out.size
       clear d8 o8)
    | (go_at_call 9; refine (dc_feed w7.heap.size y vy _ a b _ _ D8.out.2.1 (HY.out.keep D8.out.2.2.1) (by rw [HLa.out, HLb.out]; omega) (by have := D8.out.2.1.bk.lt; have := D8.out.2.1.ge; omega)).mono ?_
       rintro E w9 ⟨rfl, vy9, d9, o9, m9⟩
       have F9 : Hid (Fd W x y vx vy9 (a ++ b) w9) := by
         refine ⟨D8.out.1.only o9 (fun k hk e => ?_), d9.base hO7.out, fun e => ?_, D8.out.2.2.1.trans' o9 (fun k hk e => ?_)⟩
         · have h1 := D8.out.2.2.2 k hk
           have h2 := (D8.out.2.1.foot e).1
           omega
         · have h1 := D8.out.2.2.2 x (.inl rfl)
           have h2 := D8.out.2.1.ge
           omega
         · have h2 := (D8.out.2.1.foot e).1
           have := hO7.out
           omega
       clear d9 o9 m9))
  go_loopw [49] (fun i wr => ∃ (j : Nat) (zs : List Int) (v1 v2 : Value), j ≤ Ll ∧ i = .int .i64 (j : Int) ∧ Fd W x y v1 v2 zs wr) (fun i _ => Ll - (intOf i).toNat)
  case atStart => exact ⟨0, _, _, _, Nat.zero_le _, rfl, F9.out⟩
  case round =>
    obtain ⟨j, zs, v1, v2, hj, rfl, hs⟩ := hrel
    have HS := Lib.hid hs
    clear hs
    by_cases hlt : j < Ll
    · obtain ⟨n, hn⟩ : ∃ n, l[j]? = some n := ⟨_, List.getElem?_eq_getElem (by have := HLl.out; omega)⟩
      obtain ⟨bb, off, hA, _, _, hc⟩ := nm_at (HZ.out.keep HS.out.ho) hn
      subst hA
      have hn64 := H64.out n (List.mem_of_getElem? hn)
      have HN64 := Lib.hid hn64
      have hji : (j : Int) < (Ll : Int) := by omega
      have HK0 : Hid (0 < n → 0 ≤ drN zs n ∧ drN zs n < n) := drN_pos
      have HK1 : Hid (n < 1 → drN zs n = 0) := drN_low
      obtain ⟨K, hK⟩ : ∃ K, drN zs n = K := ⟨_, rfl⟩
      obtain ⟨M, hM⟩ : ∃ M, (drL zs n).length = M := ⟨_, rfl⟩
      have HM := Lib.hid hM
      have HK := Lib.hid hK
      rw [hK] at HK0 HK1
      have tokX : True := trivial
      have tokL : True := trivial
      clear hn hn64 hK hM
      by_cases hp : 0 < n
      · have k1 : ¬ K < 0 := by have := HK0.out hp; omega
        have k2 : ¬ n ≤ K := by have := HK0.out hp; omega
        clear HK0 HK1
        go_wp2_with (first
          | (go_at_call 16; have _t := tokX; refine (dc_draw W.heap.size x v1 zs n _ HS.out.dx HN64.out).mono ?_; clear tokX; rintro E w4 ⟨rfl, v4, d4, o4, m4⟩
             rw [HK.out]
             have F4 : Hid (Dc w4 W.heap.size x v4 (drL zs n) ∧ Dc w4 W.heap.size y v2 zs ∧ Only none_ W w4) := ⟨d4, HS.out.dy.only o4 (fun k hk e => by
               have e' : k = x := e
               rcases hk with hk | hk
               · exact HS.out.ne (by omega)
               · exact HS.out.dy.nn.blk_ne HS.out.dx.bk (by decide) (by rw [hk, e'])), HS.out.ho.trans' o4 (fun k hk e => by have e' : k = x := e; have := HS.out.dx.ge; omega)⟩
             clear d4 o4 m4)
          | (go_at_call 16; refine (dc_draw W.heap.size y v2 zs n _ F4.out.2.1 HN64.out).mono ?_; rintro E w5 ⟨rfl, v5, d5, o5, m5⟩
             rw [HK.out]
             have F5 : Hid (Fd W x y v4 v5 (drL zs n) w5) := ⟨F4.out.1.only o5 (fun k hk e => by
               have e' : k = y := e
               rcases hk with hk | hk
               · exact HS.out.ne (by omega)
               · exact F4.out.1.nn.blk_ne F4.out.2.1.bk (by decide) (by rw [hk, e'])), d5, HS.out.ne, F4.out.2.2.trans' o5 (fun k hk e => by have e' : k = y := e; have := F4.out.2.1.ge; omega)⟩
             clear d5 o5 m5)
          | (go_at_call 17; have _t := tokL; refine (dc_left W.heap.size x v4 (drL zs n) _ F5.out.dx).mono ?_; clear tokL; rw [HM.out]; rintro E w6 ⟨rfl, rfl⟩)
          | (go_at_call 17; refine (dc_left W.heap.size y v5 (drL zs n) _ F5.out.dy).mono ?_; rw [HM.out]; rintro E w6 ⟨rfl, rfl⟩))
        go_roundw
        case rel => exact ⟨j + 1, _, _, _, by omega, by go_num, F5.out⟩
        case measure => simp [intOf]; omega
      · have k1 : ¬ K < 0 := by have := HK1.out (by omega); omega
        have k2 : decide (0 < n) = false := by simpa using hp
        clear HK0 HK1
        go_wp2_with (first
          | (go_at_call 16; have _t := tokX; refine (dc_draw W.heap.size x v1 zs n _ HS.out.dx HN64.out).mono ?_; clear tokX; rintro E w4 ⟨rfl, v4, d4, o4, m4⟩
             rw [HK.out]
             have F4 : Hid (Dc w4 W.heap.size x v4 (drL zs n) ∧ Dc w4 W.heap.size y v2 zs ∧ Only none_ W w4) := ⟨d4, HS.out.dy.only o4 (fun k hk e => by
               have e' : k = x := e
               rcases hk with hk | hk
               · exact HS.out.ne (by omega)
               · exact HS.out.dy.nn.blk_ne HS.out.dx.bk (by decide) (by rw [hk, e'])), HS.out.ho.trans' o4 (fun k hk e => by have e' : k = x := e; have := HS.out.dx.ge; omega)⟩
             clear d4 o4 m4)
          | (go_at_call 16; refine (dc_draw W.heap.size y v2 zs n _ F4.out.2.1 HN64.out).mono ?_; rintro E w5 ⟨rfl, v5, d5, o5, m5⟩
             rw [HK.out]
             have F5 : Hid (Fd W x y v4 v5 (drL zs n) w5) := ⟨F4.out.1.only o5 (fun k hk e => by
               have e' : k = y := e
               rcases hk with hk | hk
               · exact HS.out.ne (by omega)
               · exact F4.out.1.nn.blk_ne F4.out.2.1.bk (by decide) (by rw [hk, e'])), d5, HS.out.ne, F4.out.2.2.trans' o5 (fun k hk e => by have e' : k = y := e; have := F4.out.2.1.ge; omega)⟩
             clear d5 o5 m5)
          | (go_at_call 17; have _t := tokL; refine (dc_left W.heap.size x v4 (drL zs n) _ F5.out.dx).mono ?_; clear tokL; rw [HM.out]; rintro E w6 ⟨rfl, rfl⟩)
          | (go_at_call 17; refine (dc_left W.heap.size y v5 (drL zs n) _ F5.out.dy).mono ?_; rw [HM.out]; rintro E w6 ⟨rfl, rfl⟩))
        go_roundw
        case rel => exact ⟨j + 1, _, _, _, by omega, by go_num, F5.out⟩
        case measure => simp [intOf]; omega
    · obtain rfl : j = Ll := by omega
      go_wp2_with fail
      go_ret
      exact ⟨rfl, HS.out.ho⟩
end Go.Proofs.Ytifeapknnnhhnaa
