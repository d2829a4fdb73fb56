/- The document's Same and Some of dice. No statement of the seat is proved here. -/
import Derived.Test.YtifeapknnnhhnaaDcE
namespace Go.Proofs.Ytifeapknnnhhnaa
open Go.RowKit
set_option linter.all false
set_option maxRecDepth 100000

set_option maxHeartbeats 3200000 in
theorem rf_same (X Y : Value) (xs ys : List Int) (S T : Nat → Prop) (w : World) (hX : Nm w S X xs) (hY : Nm w T Y ys) :
    Calls Try.prog 13 #[X, Y] w fun e w' => e = .returned (.bool (decide (xs = ys))) ∧ Only none_ w w' := by
  obtain ⟨A, c, rfl⟩ := hX.shape
  obtain ⟨A2, c2, rfl⟩ := hY.shape
  have hmx : xs.length ≤ maxLen := by obtain ⟨A', c', e, _, h1, h2, _⟩ := hX; omega
  by_cases hl : xs.length = ys.length
  · obtain ⟨L, hL⟩ : ∃ L, xs.length = L := ⟨_, rfl⟩
    have hL2 : ys.length = L := by omega
    rw [hL] at hmx
    have HX : Hid (Nm w S (.slice A L c) xs) := by rw [← hL]; exact hX
    have HY : Hid (Nm w T (.slice A2 L c2) ys) := by rw [← hL2]; exact hY
    have HL := Lib.hid hL
    have HL2 := Lib.hid hL2
    have hLm : L ≤ 9223372036854775807 := by simp only [maxLen] at hmx; omega
    rw [hL, hL2]
    have O0 := Lib.hid (Only.refl none_ w)
    clear hX hY hl hL hL2 hmx
    go_enter Try.func13, Try.ntmps13
    go_wp2_with fail
    go_loopw [5] (fun i wr => ∃ k : Nat, k ≤ L ∧ i = .int .i64 (k : Int) ∧ xs.take k = ys.take k ∧ Only none_ w wr) (fun i _ => L - (intOf i).toNat)
    case atStart => exact ⟨0, Nat.zero_le _, rfl, rfl, O0.out⟩
    case round =>
      obtain ⟨k, hk, rfl, htk, ho⟩ := hrel
      have HW := Lib.hid ho
      have HT := Lib.hid htk
      clear ho htk
      by_cases hlt : k < L
      · obtain ⟨x, hx⟩ : ∃ x, xs[k]? = some x := ⟨_, List.getElem?_eq_getElem (by have := HL.out; omega)⟩
        obtain ⟨y, hy⟩ : ∃ y, ys[k]? = some y := ⟨_, List.getElem?_eq_getElem (by have := HL2.out; omega)⟩
        obtain ⟨b, off, hA, _, _, hcx⟩ := nm_at (HX.out.keep HW.out) hx
        obtain ⟨b2, off2, hA2, _, _, hcy⟩ := nm_at (HY.out.keep HW.out) hy
        subst hA hA2
        have hki : (k : Int) < (L : Int) := by omega
        by_cases hxy : x = y
        · subst hxy
          have HS : Hid (xs.take (k + 1) = ys.take (k + 1)) := by
            rw [Hid, List.take_add_one, List.take_add_one, HT.out, hx, hy]
          clear hx hy
          go_wp2_with fail
          go_quiet (fail)
          go_wp2_with fail
          go_roundw
          case rel => exact ⟨k + 1, by omega, by go_num, HS.out, by first | exact HW.out | exact HW.out.drew | exact HW.out.drewN _⟩
          case measure => simp [intOf]; omega
        · have HF : Hid (decide (xs = ys) = false) := by
            rw [Hid, decide_eq_false_iff_not]
            intro e
            rw [e, hy] at hx
            injection hx with hx
            exact hxy hx.symm
          have hne : decide (x = y) = false := by simpa using hxy
          have hne2 : ¬ (x = y) := hxy
          clear hx hy
          go_wp2_with fail
          go_quiet (fail)
          go_wp2_with fail
          go_ret
          exact ⟨by rw [HF.out]; rfl, by first | exact HW.out | exact HW.out.drew | exact HW.out.drewN _⟩
      · obtain rfl : k = L := by omega
        have HF : Hid (decide (xs = ys) = true) := by
          rw [Hid, decide_eq_true_eq]
          have := HT.out
          rwa [← HL.out, List.take_length, HL.out, ← HL2.out, List.take_length] at this
        go_wp2_with fail
        go_ret
        exact ⟨by rw [HF.out]; rfl, HW.out⟩
  · have HF : Hid (decide (xs = ys) = false) := by
      rw [Hid, decide_eq_false_iff_not]
      intro e
      exact hl (by rw [e])
    have h1 : ¬ ((xs.length : Int) = (ys.length : Int)) := by omega
    generalize xs.length = L1 at h1 hl ⊢
    generalize ys.length = L2 at h1 hl ⊢
    clear hX hY hmx
    go_enter Try.func13, Try.ntmps13
    go_wp2_with fail
    go_ret
    exact ⟨by rw [HF.out]; rfl, Only.refl _ _⟩

def slen : Value → Nat
  | .slice _ n _ => n
  | _ => 0
/-- What holds ahead of a round of the document's Some. -/
structure Rs14 (w : World) (S : Nat → Prop) (zs ys : List Int) (j : Nat) (l of_ out : Value) (wr : World) : Prop where
  l : Nm wr (fun b => S b ∧ b < w.heap.size) l (sqN zs ys j).l
  r : Nm wr (fun b => ¬ ownb out b) of_ (sqN zs ys j).rest
  ow : wr.ownsRow w.heap.size 3 1 out j (nums (sqN zs ys j).out)
  ho : Only none_ w wr

set_option maxHeartbeats 6400000 in
theorem rf_some (X Y : Value) (zs ys : List Int) (k : Int) (S T : Nat → Prop) (w : World) (hX : Nm w S X zs) (hY : Nm w T Y ys) (hl : ys.length ≤ 4096) :
    Calls Try.prog 12 #[X, Y, .int .i64 k] w fun e w' => ∃ A L c A2 L2 c2, e = .returned (.tuple #[.slice A L c, .slice A2 L2 c2]) ∧ Nm w' S (.slice A L c) (sqN zs ys (clampK k ys.length)).l ∧
      Nm w' (fun b => w.heap.size ≤ b) (.slice A2 L2 c2) (sqN zs ys (clampK k ys.length)).out ∧ Only none_ w w' := by
  obtain ⟨i0, hi0, hz0, hz1, hz2⟩ := info_parts int_info
  obtain ⟨n, hn⟩ : ∃ n, ys.length = n := ⟨_, rfl⟩
  rw [hn] at hl ⊢
  obtain ⟨kk, hkk⟩ : ∃ kk, clampK k n = kk := ⟨_, rfl⟩
  have hkn : kk ≤ n := by rw [← hkk]; exact clamp_le k n
  have hk1 : ∀ j : Nat, j < kk → (j : Int) < k := fun j hj => by rw [← hkk, clampK] at hj; omega
  have hk2 : ∀ j : Nat, ¬ j < kk → j < n → ¬ (j : Int) < k := fun j hj hjn => by rw [← hkk, clampK] at hj; omega
  have HK1 := Lib.hid hk1
  have HK2 := Lib.hid hk2
  rw [hkk]
  have R0 : Hid (Rs14 w S zs ys 0 X Y (.slice (some ⟨w.heap.size, 0, none⟩) 0 0) (w.alloc (.cells #[] 3))) := by
    have o := (Only.refl none_ w).alloc (.cells #[] 3)
    refine ⟨(hX.mono (T := fun b => S b ∧ b < w.heap.size) (fun b hb hs => ⟨hs, hb⟩)).keep o, (hY.mono (T := fun b => b < w.heap.size) (fun b hb _ => hb)).keep o |>.mono (fun b _ hb e => ?_), own_made w w.heap.size _ 1 0 #[] (by simp) (by simp [maxLen]) (Nat.le_refl _), o⟩
    have e' : w.heap.size = b := by simpa [ownb, Value.ownBlock] using e
    omega
  have HSL := Lib.hid (sq_len zs ys)
  rw [hn] at HSL
  obtain ⟨AX, cX, hvX⟩ := hX.shape
  obtain ⟨AY, cY, hvY⟩ := hY.shape
  rw [hn] at hvY
  generalize zs.length = LX at hvX
  subst hvX hvY
  clear hX hY hn hkk hk1 hk2
  go_enter Try.func12, Try.ntmps12
  go_wp2_with fail
  go_loopw [0, 1, 8] (fun s0 s1 s8 wr => ∃ (j : Nat) (A0 : Option Addr) (L0 c0 : Nat) (A1 : Option Addr) (M c1 : Nat) (A8 : Option Addr) (c8 : Nat), j ≤ kk ∧ M + j = n ∧ s0 = .slice A0 L0 c0 ∧ s1 = .slice A1 M c1 ∧ s8 = .slice A8 j c8 ∧ Rs14 w S zs ys j s0 s1 s8 wr) (fun _ _ s8 _ => kk - slen s8)
  case atStart => exact ⟨0, _, _, _, _, _, _, _, _, Nat.zero_le _, by omega, rfl, rfl, rfl, R0.out⟩
  case round =>
    obtain ⟨j, A0, L0, c0, A1, M, c1, A8, c8, hj, hM, rfl, rfl, rfl, hs⟩ := hrel
    have HS := Lib.hid hs
    clear hs
    by_cases hlt : j < kk
    · have hjk := HK1.out j hlt
      have hM0 : (0 : Int) < (M : Int) := by omega
      have hM1 : 0 < M := by omega
      obtain ⟨hol, hrl⟩ := HSL.out j (by omega)
      have hrl : (sqN zs ys j).rest.length = M := by omega
      have hil := sqI_lt (s := sqN zs ys j) (by omega)
      have hii := sqI_int (s := sqN zs ys j) (by omega)
      rw [hrl] at hii hil
      obtain ⟨i, hi⟩ : ∃ i, sqI (sqN zs ys j) = i := ⟨_, rfl⟩
      rw [hi] at hil hii
      obtain ⟨x, hx⟩ : ∃ x, (sqN zs ys j).rest[i]? = some x := ⟨_, List.getElem?_eq_getElem (by omega)⟩
      obtain ⟨b, off, hA, hbn, hbl, hcx⟩ := nm_at HS.out.r hx
      subst hA
      have hiM : (i : Int) < (M : Int) := by omega
      have HD : Hid (Calls Try.prog 15 #[.slice A0 L0 c0, .int .i64 M] wr fun e w' => ∃ A L c, e = .returned (.tuple #[.slice A L c, .int .i64 (i : Int)]) ∧ Nm w' (fun b => S b ∧ b < w.heap.size) (.slice A L c) (sqN zs ys (j + 1)).l ∧ Only none_ wr w') := by
        refine (rf_draw _ (sqN zs ys j).l (M : Int) _ wr HS.out.l (by omega) (by omega)).mono ?_
        rintro E w' ⟨A, L, c, rfl, n1, o1⟩
        refine ⟨A, L, c, by rw [hii], ?_, o1⟩
        show Nm w' _ _ (drL (sqN zs ys j).l (sqN zs ys j).rest.length)
        rw [hrl]; exact n1
      have HX : Hid (nums (sqN zs ys j).out ++ [.int .i64 x] = nums (sqN zs ys (j + 1)).out ∧ (sqN zs ys (j + 1)).rest = (sqN zs ys j).rest.eraseIdx i) := by
        refine ⟨?_, by rw [← hi]; rfl⟩
        show _ = nums ((sqN zs ys j).out ++ [(sqN zs ys j).rest.getD (sqI (sqN zs ys j)) 0])
        rw [hi, List.getD_eq_getElem?_getD, hx, nums_append]
        rfl
      have HR := Lib.hid hrl
      have HIL := Lib.hid hil
      have HB : Hid (b < wr.heap.size ∧ ¬ ownb (.slice A8 j c8) b) := ⟨hbl, hbn⟩
      have HJ : Hid (j + 1 ≤ maxLen ∧ (j + 1) * 8 ≤ 140737488355328) := by simp only [Hid, maxLen]; omega
      clear hol hrl hil hii hi hx hbn
      go_wp2_with (first
        | (go_at_call 15; refine HD.out.mono ?_; rintro E w4 ⟨A4, L4, c4, rfl, n4, o4⟩
           have cx4 := (o4.cell (p := ⟨b, off + i, none⟩) hbl (fun e => e)).trans hcx
           have D4 : Hid (Nm w4 (fun b => S b ∧ b < w.heap.size) (.slice A4 L4 c4) (sqN zs ys (j + 1)).l ∧ Only none_ wr w4 ∧ w4.ownsRow w.heap.size 3 1 (.slice A8 j c8) j (nums (sqN zs ys j).out) ∧ Nm w4 (fun b => ¬ ownb (.slice A8 j c8) b) (.slice (some ⟨b, off, none⟩) M c1) (sqN zs ys j).rest) :=
             ⟨n4, o4, owns_only HS.out.ow o4 (fun _ _ h => h), HS.out.r.keep o4⟩
           have C4 : Hid (Cel (w4.alloc (.cells #[.int .i64 x] 3)) (fun b => b = w4.heap.size) (.slice (some ⟨w4.heap.size, 0, none⟩) 1 1) 1 1 [.int .i64 x]) := cel_made w4 3 1 1 #[.int .i64 x] rfl (by simp [maxLen])
           clear n4 o4)
        | (at_builtin; refine wpList_append_cel _ rfl (.tmp 29) (.tmp 34) 22 rfl w.heap.size 3 i0 _ 1 8 Try.underlying22 hi0 hz0 hz1 hz2 rfl (by omega) _ j (nums (sqN zs ys j).out) rfl (D4.out.2.2.1.alloc _) _ _ 1 [.int .i64 x] rfl C4.out (by simp [Value.oneCell']) HJ.out.1 HJ.out.2 (by have := HS.out.ho.size; have := D4.out.2.1.size; rw [World.size_alloc]; omega) ?_
           intro A5 n5 c5 w5 hown5 hgrow5 hmv5
           obtain rfl : n5 = j + 1 := own_len hown5
           have R5 : Hid (Rs14 w S zs ys (j + 1) (.slice A4 L4 c4) (.slice (some ⟨b, off, none⟩) M c1) (.slice A5 (j + 1) c5) w5 ∨ True) := .inr trivial
           have o45 : Only (ownb (.slice A8 j c8)) w4 w5 := ((Only.refl none_ w4).alloc (.cells #[.int .i64 x] 3)).of_none.grown hgrow5 (fun k hk => .inl hk)
           have mv : ∀ bb, ownb (.slice A5 (j + 1) c5) bb → ownb (.slice A8 j c8) bb ∨ w4.heap.size < bb := fun bb hbb => by
             rcases hmv5 bb hbb with h1 | h1
             · exact .inl h1
             · rw [World.size_alloc] at h1; exact .inr (by omega)
           have E5 : Hid (Nm w5 (fun b => S b ∧ b < w.heap.size) (.slice A4 L4 c4) (sqN zs ys (j + 1)).l ∧ w5.ownsRow w.heap.size 3 1 (.slice A5 (j + 1) c5) (j + 1) (nums (sqN zs ys (j + 1)).out) ∧ Only none_ w w5 ∧ Nm w5 (fun b => ¬ ownb (.slice A5 (j + 1) c5) b) (.slice (some ⟨b, off, none⟩) M c1) (sqN zs ys j).rest) := by
             refine ⟨D4.out.1.only o45 (fun bb hb e => ?_), by rw [← HX.out.1]; exact hown5, (HS.out.ho.trans D4.out.2.1).trans' o45 (fun k hk e => ?_), ?_⟩
             · have := (D4.out.2.2.1.lt bb e).1; omega
             · have := (D4.out.2.2.1.lt k e).1; omega
             · refine ((D4.out.2.2.2.mono (T := fun b => ¬ ownb (.slice A8 j c8) b ∧ b < w4.heap.size) (fun b hb h => ⟨h, hb⟩)).only o45 (fun b h => h.1)).mono (fun bb _ h e => ?_)
               rcases mv bb e with h1 | h1
               · exact h.1 h1
               · have := h.2; omega
           clear hown5 hgrow5 hmv5 o45 mv R5)
        | (go_at_call 18; refine (rf_without _ (sqN zs ys j).rest i _ _ E5.out.2.2.2 (by rw [HR.out]; exact HIL.out) (by rw [HR.out]; omega)).mono ?_
           rintro E w6 ⟨A6, L6, c6, rfl, n6, o6⟩
           have hL6 : L6 = M - 1 := by
             have h1 := n6.len
             rw [List.length_eraseIdx_of_lt (by rw [HR.out]; exact HIL.out), HR.out] at h1
             exact h1
           have F6 : Hid (Rs14 w S zs ys (j + 1) (.slice A4 L4 c4) (.slice A6 L6 c6) (.slice A5 (j + 1) c5) w6) := by
             refine ⟨E5.out.1.keep o6, ?_, owns_only E5.out.2.1 o6 (fun _ _ h => h), E5.out.2.2.1.trans o6⟩
             rw [HX.out.2]
             exact n6.mono (fun bb _ hb e => by have := (E5.out.2.1.lt bb e).2; omega)
           have HL6 := Lib.hid hL6
           clear n6 o6 hL6))
      go_roundw
      case rel => exact ⟨j + 1, _, _, _, _, _, _, _, _, by omega, by have := HL6.out; omega, rfl, rfl, rfl, F6.out⟩
      case measure => simp [slen]; omega
    · obtain rfl : j = kk := by omega
      obtain ⟨hol, hrl⟩ := HSL.out j (by omega)
      have hfin : Nm wr (fun b => w.heap.size ≤ b) (.slice A8 j c8) (sqN zs ys j).out := by
        have h1 := (Cel.of_own HS.out.ow).mono (T := fun b => w.heap.size ≤ b) (fun b _ hb => (HS.out.ow.lt b hb).1)
        unfold Nm
        rw [hol]; exact h1
      have HF := Lib.hid hfin
      clear hfin hol hrl
      by_cases hjn : j < n
      · have hjk := HK2.out j (by omega) hjn
        go_wp2_with fail
        go_ret2
        exact ⟨_, _, _, _, _, _, rfl, HS.out.l.mono (fun b _ h => h.1), HF.out, HS.out.ho⟩
      · obtain rfl : M = 0 := by omega
        go_wp2_with fail
        all_goals go_ret2
        all_goals exact ⟨_, _, _, _, _, _, rfl, HS.out.l.mono (fun b _ h => h.1), HF.out, HS.out.ho⟩
end Go.Proofs.Ytifeapknnnhhnaa
