/- What the call of DicePlays comes to. No statement of the seat is proved here. -/
import Derived.Test.YtifeapknnnhhnaaDcJ
namespace Go.Proofs.Ytifeapknnnhhnaa
open Go.RowKit
set_option linter.all false
set_option maxRecDepth 100000

/-- Dice, and the numbers that the document has beside them. -/
structure Zp (W : World) (d : Nat) (v m : Value) (zs : List Int) (w : World) : Prop where
  dc : Dc w W.heap.size d v zs
  mm : Nm w (fun b => ¬ dcb d v b) m zs
  ho : Only none_ W w
theorem Zp.keep {W w w' : World} {d : Nat} {v m : Value} {zs : List Int} (h : Zp W d v m zs w) (o : Only none_ w w') : Zp W d v m zs w' := ⟨h.dc.keep o, h.mm.keep o, h.ho.trans o⟩
theorem drew_one {W w w' : World} {d : Nat} {v v' m' : Value} {zs' : List Int} (ge : W.heap.size ≤ d) (ho : Only none_ W w) (mm : Nm w (fun b => ¬ dcb d v b) m' zs') (d' : Dc w' W.heap.size d v' zs') (o : Only (one d) w w') (hm : ∀ k, v'.ownBlock = some k → v.ownBlock = some k) : Zp W d v' m' zs' w' :=
  ⟨d', (mm.only o (fun b hb e => hb (.inl e))).mono (fun b _ hb e => by
    rcases e with e | e
    · exact hb (.inl e)
    · exact hb (.inr (hm b e))), ho.trans' o (fun k hk e => by have e' : k = d := e; omega)⟩

theorem clamp_n (n : Int) : ∃ y q : Int, (∀ ts t w, (Builtin.max_ ts t #[.int .i64 n, .int .i64 (-9)]).run Try.prog w = .ok (.int .i64 y) w) ∧ (∀ ts t w, (Builtin.min_ ts t #[.int .i64 y, .int .i64 1099511627776]).run Try.prog w = .ok (.int .i64 q) w) ∧ -9 ≤ q ∧ q ≤ 1099511627776 := by
  obtain ⟨y, hy, hy2⟩ : ∃ y : Int, (∀ ts t w, (Builtin.max_ ts t #[.int .i64 n, .int .i64 (-9)]).run Try.prog w = .ok (.int .i64 y) w) ∧ -9 ≤ y := by
    by_cases h1 : n < -9
    · exact ⟨-9, fun ts t w => by rw [run_max_int2, if_pos h1], by omega⟩
    · exact ⟨n, fun ts t w => by rw [run_max_int2, if_neg h1], by omega⟩
  by_cases h2 : (1099511627776 : Int) < y
  · exact ⟨y, 1099511627776, hy, fun ts t w => by rw [run_min_int2, if_pos h2], by omega, by omega⟩
  · exact ⟨y, y, hy, fun ts t w => by rw [run_min_int2, if_neg h2], by omega, by omega⟩

set_option maxHeartbeats 3200000 in
theorem dplays_long (A0 : Option Addr) (L0 c0 : Nat) (A : Option Addr) (L c : Nat) (a : List Int) (l : List Za) (W : World) (hx0 : Nm W (fun b => b < W.heap.size) (.slice A0 L0 c0) a) (hx : Cel W (fun b => b < W.heap.size) (.slice A L c) L 3 (l.flatMap zaRow)) (hL : L = l.length) (ok : ∀ x ∈ l, zaOk W x) (hl : ¬ (zaFew l = true ∧ L0 ≤ 40)) :
    Calls Try.prog 3 #[.slice A0 L0 c0, .slice A L c] W fun e w' => e = .returned (.bool true) ∧ Only none_ W w' := by
  have HF := Lib.hid (fun (w : World) (o : Only none_ W w) => za_few A L c l W w hx hL ok o)
  clear hx0 hx hL ok
  have tok1 : True := trivial
  obtain ⟨fb, hfb⟩ : ∃ fb, zaFew l = fb := ⟨_, rfl⟩
  rw [hfb] at HF hl
  clear hfb
  cases fb with
  | true =>
    have g1 : ((40 : Int) < (L0 : Int)) := by
      have : ¬ L0 ≤ 40 := fun h => hl ⟨rfl, h⟩
      omega
    clear hl
    go_enter Try.func3, Try.ntmps3
    go_wp2_with (first
      | (go_at_call 7; refine (HF.out _ O1.out).mono ?_; rintro E w3 ⟨rfl, o3⟩; have O3 := Lib.hid (O1.out.trans o3); clear o3)
      | (go_at_call 6; have _t := tok1; clear tok1; refine (dc_speaks _).mono ?_; rintro E w1 ⟨rfl, o1⟩; have O1 := Lib.hid o1; clear o1)
      | (go_at_call 6; refine (dc_speaks _).mono ?_; rintro E w2 ⟨rfl, o2⟩; have O2 := Lib.hid (O3.out.trans o2); clear o2))
    go_ret
    exact ⟨rfl, O2.out⟩
  | false =>
    clear hl
    go_enter Try.func3, Try.ntmps3
    go_wp2_with (first
      | (go_at_call 7; refine (HF.out _ O1.out).mono ?_; rintro E w3 ⟨rfl, o3⟩; have O3 := Lib.hid (O1.out.trans o3); clear o3)
      | (go_at_call 6; have _t := tok1; clear tok1; refine (dc_speaks _).mono ?_; rintro E w1 ⟨rfl, o1⟩; have O1 := Lib.hid o1; clear o1)
      | (go_at_call 6; refine (dc_speaks _).mono ?_; rintro E w2 ⟨rfl, o2⟩; have O2 := Lib.hid (O3.out.trans o2); clear o2))
    go_ret
    exact ⟨rfl, O2.out⟩

set_option maxHeartbeats 25600000 in
theorem dplays_short (A0 : Option Addr) (L0 c0 : Nat) (A : Option Addr) (L c : Nat) (a : List Int) (l : List Za) (W : World) (hx0 : Nm W (fun b => b < W.heap.size) (.slice A0 L0 c0) a) (hx : Cel W (fun b => b < W.heap.size) (.slice A L c) L 3 (l.flatMap zaRow)) (hL : L = l.length) (ok : ∀ x ∈ l, zaOk W x) (hf : zaFew l = true) (hl0 : L0 ≤ 40) :
    Calls Try.prog 3 #[.slice A0 L0 c0, .slice A L c] W fun e w' => e = .returned (.bool true) ∧ Only none_ W w' := by
  obtain ⟨i0, hi0, hz0, hz1, hz2⟩ := info_parts int_info
  have HF := Lib.hid (fun (w : World) (o : Only none_ W w) => za_few A L c l W w hx hL ok o)
  rw [hf] at HF
  have hf2 : (∀ x ∈ l, zaShort x = true) ∧ l.length ≤ 40 := by simpa [zaFew] using hf
  have hL4 : L ≤ 40 := by omega
  have HSH := Lib.hid hf2.1
  have HX0 := Lib.hid hx0
  have HX := Lib.hid hx
  have HL := Lib.hid hL
  have HOK := Lib.hid ok
  have hal := hx0.len
  have HAL := Lib.hid hal.symm
  have g1 : ¬ ((40 : Int) < (L0 : Int)) := by omega
  clear hx0 hx hL ok hf hf2 hal
  go_enter Try.func3, Try.ntmps3
  go_wp2_with (first
    | (go_at_call 6; refine (dc_speaks _).mono ?_; rintro E w1 ⟨rfl, o1⟩; have O1 := Lib.hid o1; clear o1)
    | (go_at_call 7; refine (HF.out _ O1.out).mono ?_; rintro E w3 ⟨rfl, o3⟩; have O3 := Lib.hid (O1.out.trans o3); clear o3)
    | (go_at_call 8; refine (dc_new _ a _ _ (HX0.out.keep O3.out) (by rw [HAL.out]; omega)).mono ?_; rintro E w4 ⟨d, v4, rfl, d4, o4⟩
       have Z4 : Hid (Zp W d v4 (.slice A0 L0 c0) a w4) := ⟨d4.base O3.out.size, ((HX0.out.keep O3.out).keep o4).mono (fun b _ hb e => by have := (d4.foot e).1; have := O3.out.size; omega), O3.out.trans o4⟩
       clear d4 o4))
  have hdW : Hid (W.heap.size ≤ d) := Z4.out.dc.ge
  go_loopw [36, 6] (fun i m wr => ∃ (j : Nat) (zs : List Int) (v : Value) (A6 : Option Addr) (L6 c6 : Nat), j ≤ L ∧ i = .int .i64 (j : Int) ∧ m = .slice A6 L6 c6 ∧ zs.length ≤ 40 + 30 * j ∧ Zp W d v m zs wr) (fun i _ _ => L - (intOf i).toNat)
  case atStart => exact ⟨0, a, v4, _, _, _, Nat.zero_le _, rfl, rfl, by rw [HAL.out]; omega, Z4.out⟩
  case round =>
    obtain ⟨j, zs, v, A6, L6, c6, hj, rfl, rfl, hzl, hs⟩ := hrel
    have HS := Lib.hid hs
    have HZL := Lib.hid hzl
    clear hs Z4 O3 O1 HF
    by_cases hlt : j < L
    · have hji : (j : Int) < (L : Int) := by omega
      obtain ⟨a1, ha⟩ : ∃ a1, l[j]? = some a1 := ⟨l[j]'(by have := HL.out; omega), List.getElem?_eq_getElem _⟩
      obtain ⟨b, off, hA, k0, k1, k2⟩ := za_at HX.out ha HL.out HS.out.ho
      subst hA
      have hmem : a1 ∈ l := List.mem_of_getElem? ha
      obtain ⟨hnm, hn64⟩ := HOK.out a1 hmem
      have hsh : a1.l.length ≤ 30 := by simpa [zaShort] using HSH.out a1 hmem
      obtain ⟨AX, cX, hxe⟩ := hnm.shape
      obtain ⟨ak, an, ax, al⟩ := a1
      simp only at hxe k0 k1 k2 hnm hn64 hsh
      obtain ⟨M, hM⟩ : ∃ M, al.length = M := ⟨_, rfl⟩
      rw [hM] at hxe hsh
      subst hxe
      have HM := Lib.hid hM
      have HNM := Lib.hid hnm
      have HN64 := Lib.hid hn64
      have hob2 : Hid (Only none_ wr (wr.alloc (.cells #[.int .i64 ak, .int .i64 an, .slice AX M cX] 29))) := (Only.refl none_ wr).alloc _
      have BX : Hid (Blk (wr.alloc (.cells #[.int .i64 ak, .int .i64 an, .slice AX M cX] 29)) wr.heap.size 29 #[.int .i64 ak, .int .i64 an, .slice AX M cX]) := Blk.new wr _ _
      have ZB := Lib.hid (HS.out.keep hob2.out)
      have XB : Hid (∀ w', Only none_ W w' → Nm w' (fun b => b < W.heap.size) (.slice AX M cX) al) := fun w' o => HNM.out.keep o
      clear hnm hn64 hmem ha hM
      by_cases q0 : ak = 0
      · subst q0
        have hmm : Hid (Cel ((wr.alloc (.cells #[.int .i64 0, .int .i64 an, .slice AX M cX] 29)).alloc (.cells #[] 3)).drew (fun b => ¬ dcb d v b) (.slice A6 L6 c6) L6 1 (nums zs)) := by
          have h1 := (ZB.out.mm.keep ((Only.refl none_ _).alloc (.cells #[] 3)).drew)
          have h2 := ZB.out.mm.len
          unfold Nm at h1
          rwa [← h2] at h1
        have HL6 := Lib.hid ZB.out.mm.len
        have M1 : Hid (((wr.alloc (.cells #[.int .i64 0, .int .i64 an, .slice AX M cX] 29)).alloc (.cells #[] 3)).drew.ownsRow (wr.heap.size + 1) 3 1 (.slice (some ⟨wr.heap.size + 1, 0, none⟩) 0 0) 0 []) := by
          have := own_made (wr.alloc (.cells #[.int .i64 0, .int .i64 an, .slice AX M cX] 29)) (wr.heap.size + 1) 3 1 0 #[] (by simp) (by simp [maxLen]) (by simp)
          rw [World.size_alloc] at this
          exact this
        have s2 := ((BX.out.alloc (.cells #[] 3)).drew).cell_ (i := 2) rfl
        have hp1 := nums_one zs
        have hp2 := nums_one al
        have hz9 : L6 ≤ 40 + 30 * j := by rw [HL6.out]; exact HZL.out
        have HLL : Hid (0 + L6 ≤ maxLen ∧ (0 + L6) * 8 ≤ 140737488355328 ∧ L6 + M ≤ maxLen ∧ (L6 + M) * 8 ≤ 140737488355328) := by simp only [Hid, maxLen]; omega
        have HFT : Hid (∀ k, dcb d v k → k < wr.heap.size) := fun k hk => (HS.out.dc.foot hk).2
        have hobA : Hid (Only none_ wr ((wr.alloc (.cells #[.int .i64 0, .int .i64 an, .slice AX M cX] 29)).alloc (.cells #[] 3)).drew) := (hob2.out.alloc _).drew
        have tokA : True := trivial
        go_wp2_with fail
        go_region_law (first
          | (have _t := tokA
             refine step_append_cel _ (by simp [Region.wanted]) (.tmp 62) (.tmp 63) 22 rfl (wr.heap.size + 1) 3 i0 _ 1 8 Try.underlying22 hi0 hz0 hz1 hz2 rfl (by omega) _ 0 [] rfl M1.out _ _ L6 (nums zs) rfl hmm.out hp1 HLL.out.1 HLL.out.2.1 (by simp) ?_
             intro A7 n7 c7 w7 hown7 hgrow7 hmv7
             obtain rfl : L6 = n7 := by have := own_len hown7; omega
             have o7 : Only none_ wr w7 := hobA.out.of_none.grown hgrow7 (fun k hk => .inr (by have e : some (wr.heap.size + 1) = some k := hk; injection e with e; omega))
             have R7 : Hid (w7.ownsRow (wr.heap.size + 1) 3 1 (.slice A7 L6 c7) L6 (nums zs) ∧ Only none_ wr w7 ∧ Blk w7 wr.heap.size 29 #[.int .i64 0, .int .i64 an, .slice AX M cX]) := by
               refine ⟨by simpa using hown7, o7, ((BX.out.alloc (.cells #[] 3)).drew).grown' hgrow7 (fun e => ?_)⟩
               have e : some (wr.heap.size + 1) = some wr.heap.size := e
               injection e with e
               omega
             have X7 : Hid (Cel w7 (fun b => b < W.heap.size) (.slice AX M cX) M 1 (nums al)) := by
               have := XB.out _ (HS.out.ho.trans R7.out.2.1)
               unfold Nm at this
               rwa [HM.out] at this
             have t2 := R7.out.2.2.cell_ (i := 2) rfl
             clear tokA
             have tokB : True := trivial
             clear hown7 hgrow7 hmv7 o7)
          | (have _t := tokB
             refine step_append_cel _ (by simp [Region.wanted]) (.tmp 64) (.tmp 66) 22 rfl (wr.heap.size + 1) 3 i0 _ 1 8 Try.underlying22 hi0 hz0 hz1 hz2 rfl (by omega) _ L6 (nums zs) rfl R7.out.1 _ _ M (nums al) rfl X7.out hp2 HLL.out.2.2.1 HLL.out.2.2.2 (by have h1 := R7.out.2.2.lt; omega) ?_
             intro A8 n8 c8 w8 hown8 hgrow8 hmv8
             have R8 : Hid (Nm w8 (fun b => wr.heap.size < b) (.slice A8 n8 c8) (zs ++ al) ∧ Dc w8 W.heap.size d v zs ∧ Only none_ W w8 ∧ Blk w8 wr.heap.size 29 #[.int .i64 0, .int .i64 an, .slice AX M cX]) := by
               have o8 : Only none_ wr w8 := R7.out.2.1.of_none.grown hgrow8 (fun k hk => .inr (by have := (R7.out.1.lt k hk).1; omega))
               refine ⟨?_, HS.out.dc.keep o8, HS.out.ho.trans o8, R7.out.2.2.grown' hgrow8 (fun e => by have := (R7.out.1.lt _ e).1; omega)⟩
               have h1 := (Cel.of_own hown8).mono (T := fun b => wr.heap.size < b) (fun b _ hb => by have := (hown8.lt b hb).1; omega)
               rw [← nums_append] at h1
               unfold Nm
               rw [List.length_append, HM.out, ← HL6.out]
               exact h1
             have u2 := R8.out.2.2.2.cell_ (i := 2) rfl
             clear hown8 hgrow8 hmv8))
        all_goals (try dsimp only [Act.put, List.getElem_toArray, List.getElem_cons_succ, List.getElem_cons_zero])
        all_goals go_wp2_with (first
          | (go_at_call 9; refine (dc_feed W.heap.size d v _ zs al _ _ R8.out.2.1 (XB.out _ R8.out.2.2.1) (by rw [HM.out, ← HL6.out]; omega) R8.out.2.2.1.size).mono ?_; rintro E w9 ⟨rfl, v9, d9, o9, m9⟩
             have Z9 : Hid (Zp W d v9 (.slice A8 n8 c8) (zs ++ al) w9) := by
               refine ⟨d9, ((R8.out.1.mono (T := fun b => wr.heap.size < b ∧ b < w8.heap.size) (fun b hb h => ⟨h, hb⟩)).only o9 (fun b hb e => by have := HFT.out b e; omega)).mono (fun b _ hb e => ?_), R8.out.2.2.1.trans' o9 (fun k hk e => by have := (R8.out.2.1.foot e).1; omega)⟩
               rcases e with e | e
               · have := HS.out.dc.bk.lt; omega
               · rcases m9 b e with h1 | h1
                 · have := HFT.out b (.inr h1); omega
                 · omega
             have HL9 := Lib.hid R8.out.1.len
             have HLA : Hid ((zs ++ al).length ≤ 40 + 30 * (j + 1)) := by rw [Hid, List.length_append, HM.out]; have := HZL.out; omega
             clear d9 o9 m9)
          | (go_at_call 17; refine (dc_left W.heap.size d v9 _ _ Z9.out.dc).mono ?_; rw [← HL9.out]; rintro E w10 ⟨rfl, rfl⟩))
        all_goals go_roundw
        all_goals (first
          | exact ⟨j + 1, _, v9, _, _, _, by omega, by go_num, rfl, HLA.out, Z9.out⟩
          | (simp [intOf]; omega))
      · by_cases q1 : ak = 1
        · subst q1
          cases hbo : (!al.isEmpty) with
          | true =>
            obtain ⟨pv, hpv⟩ : ∃ pv, pkN zs al = pv := ⟨_, rfl⟩
            have HP : Hid (Calls Try.prog 10 #[.slice A6 L6 c6, .slice AX M cX] (wr.alloc (.cells #[.int .i64 1, .int .i64 an, .slice AX M cX] 29)) fun e w' => ∃ A L c, e = .returned (.tuple #[.slice A L c, .int .i64 pv, .bool true]) ∧ Nm w' (fun b => ¬ dcb d v b) (.slice A L c) (pkL zs al) ∧ Only none_ (wr.alloc (.cells #[.int .i64 1, .int .i64 an, .slice AX M cX] 29)) w') := by
              rw [← hpv, ← hbo]
              exact rf_pick _ _ zs al _ _ _ ZB.out.mm (XB.out _ ZB.out.ho) (by have := HM.out; omega)
            have HQ : Hid (∀ w', Dc w' W.heap.size d v zs → Only none_ W w' → Calls Try.prog 11 #[.pointer (some ⟨d, 0, none⟩), .slice AX M cX] w' fun e w'' => e = .returned (.tuple #[.int .i64 pv, .bool true]) ∧ ∃ v', Dc w'' W.heap.size d v' (pkL zs al) ∧ Only (one d) w' w'' ∧ ∀ k, v'.ownBlock = some k → v.ownBlock = some k) := fun w' h o => by
              rw [← hpv, ← hbo]
              exact dc_pick W.heap.size d v _ zs al _ w' h (XB.out _ o) (fun b hb => by have := hdW.out; omega) (by have := HM.out; omega)
            have HPL : Hid ((pkL zs al).length ≤ 40 + 30 * j) := by
              have := HZL.out
              rw [Hid, pkL]
              split
              · exact this
              · exact Nat.le_trans (drL_len _ _) this
            clear hpv hbo
            go_wp2_with (first
              | (go_at_call 10; refine HP.out.mono ?_; rintro E w5 ⟨A5, L5, c5, rfl, n5, o5⟩
                 have Z5 : Hid (Dc w5 W.heap.size d v zs ∧ Nm w5 (fun b => ¬ dcb d v b) (.slice A5 L5 c5) (pkL zs al) ∧ Only none_ W w5) := ⟨ZB.out.dc.keep o5, n5, ZB.out.ho.trans o5⟩
                 have t2 := (BX.out.only o5 (fun h => h)).cell_ (i := 2) rfl
                 clear n5 o5)
              | (go_at_call 11; refine (HQ.out _ Z5.out.1 Z5.out.2.2).mono ?_; rintro E w6 ⟨rfl, v6, d6, o6, m6⟩
                 have Z6 : Hid (Zp W d v6 (.slice A5 L5 c5) (pkL zs al) w6) := drew_one hdW.out Z5.out.2.2 Z5.out.2.1 d6 o6 m6
                 have HL5 := Lib.hid Z5.out.2.1.len
                 clear d6 o6 m6)
              | (go_at_call 17; refine (dc_left W.heap.size d v6 _ _ Z6.out.dc).mono ?_; rw [← HL5.out]; rintro E w7 ⟨rfl, rfl⟩))
            go_roundw
            case rel => exact ⟨j + 1, _, v6, _, _, _, by omega, by go_num, rfl, by have := HPL.out; omega, Z6.out⟩
            case measure => simp [intOf]; omega
          | false =>
            obtain ⟨pv, hpv⟩ : ∃ pv, pkN zs al = pv := ⟨_, rfl⟩
            have HP : Hid (Calls Try.prog 10 #[.slice A6 L6 c6, .slice AX M cX] (wr.alloc (.cells #[.int .i64 1, .int .i64 an, .slice AX M cX] 29)) fun e w' => ∃ A L c, e = .returned (.tuple #[.slice A L c, .int .i64 pv, .bool false]) ∧ Nm w' (fun b => ¬ dcb d v b) (.slice A L c) (pkL zs al) ∧ Only none_ (wr.alloc (.cells #[.int .i64 1, .int .i64 an, .slice AX M cX] 29)) w') := by
              rw [← hpv, ← hbo]
              exact rf_pick _ _ zs al _ _ _ ZB.out.mm (XB.out _ ZB.out.ho) (by have := HM.out; omega)
            have HQ : Hid (∀ w', Dc w' W.heap.size d v zs → Only none_ W w' → Calls Try.prog 11 #[.pointer (some ⟨d, 0, none⟩), .slice AX M cX] w' fun e w'' => e = .returned (.tuple #[.int .i64 pv, .bool false]) ∧ ∃ v', Dc w'' W.heap.size d v' (pkL zs al) ∧ Only (one d) w' w'' ∧ ∀ k, v'.ownBlock = some k → v.ownBlock = some k) := fun w' h o => by
              rw [← hpv, ← hbo]
              exact dc_pick W.heap.size d v _ zs al _ w' h (XB.out _ o) (fun b hb => by have := hdW.out; omega) (by have := HM.out; omega)
            have HPL : Hid ((pkL zs al).length ≤ 40 + 30 * j) := by
              have := HZL.out
              rw [Hid, pkL]
              split
              · exact this
              · exact Nat.le_trans (drL_len _ _) this
            clear hpv hbo
            go_wp2_with (first
              | (go_at_call 10; refine HP.out.mono ?_; rintro E w5 ⟨A5, L5, c5, rfl, n5, o5⟩
                 have Z5 : Hid (Dc w5 W.heap.size d v zs ∧ Nm w5 (fun b => ¬ dcb d v b) (.slice A5 L5 c5) (pkL zs al) ∧ Only none_ W w5) := ⟨ZB.out.dc.keep o5, n5, ZB.out.ho.trans o5⟩
                 have t2 := (BX.out.only o5 (fun h => h)).cell_ (i := 2) rfl
                 clear n5 o5)
              | (go_at_call 11; refine (HQ.out _ Z5.out.1 Z5.out.2.2).mono ?_; rintro E w6 ⟨rfl, v6, d6, o6, m6⟩
                 have Z6 : Hid (Zp W d v6 (.slice A5 L5 c5) (pkL zs al) w6) := drew_one hdW.out Z5.out.2.2 Z5.out.2.1 d6 o6 m6
                 have HL5 := Lib.hid Z5.out.2.1.len
                 clear d6 o6 m6)
              | (go_at_call 17; refine (dc_left W.heap.size d v6 _ _ Z6.out.dc).mono ?_; rw [← HL5.out]; rintro E w7 ⟨rfl, rfl⟩))
            go_roundw
            case rel => exact ⟨j + 1, _, v6, _, _, _, by omega, by go_num, rfl, by have := HPL.out; omega, Z6.out⟩
            case measure => simp [intOf]; omega
        · by_cases q2 : ak = 2
          · subst q2
            obtain ⟨out, hout⟩ : ∃ out, (sqN zs al (clampK an M)).out = out := ⟨_, rfl⟩
            obtain ⟨zs', hzs⟩ : ∃ zs', (sqN zs al (clampK an M)).l = zs' := ⟨_, rfl⟩
            have hml : al.length ≤ 4096 := by have := HM.out; omega
            have HP : Hid (Calls Try.prog 12 #[.slice A6 L6 c6, .slice AX M cX, .int .i64 an] (wr.alloc (.cells #[.int .i64 2, .int .i64 an, .slice AX M cX] 29)) fun e w' => ∃ A L c A2 L2 c2, e = .returned (.tuple #[.slice A L c, .slice A2 L2 c2]) ∧ Nm w' (fun b => ¬ dcb d v b) (.slice A L c) zs' ∧ Nm w' (fun b => wr.heap.size < b) (.slice A2 L2 c2) out ∧ Only none_ (wr.alloc (.cells #[.int .i64 2, .int .i64 an, .slice AX M cX] 29)) w') := by
              refine (rf_some _ _ zs al an _ _ _ ZB.out.mm (XB.out _ ZB.out.ho) hml).mono ?_
              rw [HM.out, hout, hzs]
              rintro E w' ⟨A, L, c, A2, L2, c2, rfl, n1, n2, o⟩
              exact ⟨A, L, c, A2, L2, c2, rfl, n1, n2.mono (fun b _ hb => by rw [World.size_alloc] at hb; omega), o⟩
            have HQ : Hid (∀ w', Dc w' W.heap.size d v zs → Only none_ W w' → Calls Try.prog 14 #[.pointer (some ⟨d, 0, none⟩), .slice AX M cX, .int .i64 an] w' fun e w'' => ∃ v1 v', e = .returned v1 ∧ Nm w'' (fun b => w'.heap.size ≤ b) v1 out ∧ Dc w'' W.heap.size d v' zs' ∧ Only (one d) w' w'' ∧ ∀ k, v'.ownBlock = some k → v.ownBlock = some k) := fun w' h o => by
              refine (dc_some W.heap.size d v _ zs al an _ w' h (XB.out _ o) hml).mono ?_
              rw [HM.out, hout, hzs]
              exact fun e w'' h => h
            have HPL : Hid (zs'.length ≤ 40 + 30 * j) := by rw [Hid, ← hzs]; exact Nat.le_trans (sq_left _ _ _) HZL.out
            clear hout hzs hml
            go_wp2_with (first
              | (go_at_call 12; refine HP.out.mono ?_; rintro E w5 ⟨A5, L5, c5, A4, L4, c4, rfl, n5, n4, o5⟩
                 have Z5 : Hid (Dc w5 W.heap.size d v zs ∧ Nm w5 (fun b => ¬ dcb d v b) (.slice A5 L5 c5) zs' ∧ Only none_ W w5 ∧ Nm w5 (fun b => wr.heap.size < b) (.slice A4 L4 c4) out) := ⟨ZB.out.dc.keep o5, n5, ZB.out.ho.trans o5, n4⟩
                 have t1 := (BX.out.only o5 (fun h => h)).cell_ (i := 1) rfl
                 have t2 := (BX.out.only o5 (fun h => h)).cell_ (i := 2) rfl
                 clear n5 n4 o5)
              | (go_at_call 14; refine (HQ.out _ Z5.out.1 Z5.out.2.2.1).mono ?_; rintro E w6 ⟨x6, v6, rfl, n6, d6, o6, m6⟩
                 obtain ⟨A7, c7, rfl⟩ := n6.shape
                 generalize out.length = L7 at n6
                 have Z6 : Hid (Zp W d v6 (.slice A5 L5 c5) zs' w6 ∧ Nm w6 (fun b => w5.heap.size ≤ b) (.slice A7 L7 c7) out ∧ Nm w6 (fun b => wr.heap.size < b) (.slice A4 L4 c4) out) := ⟨drew_one hdW.out Z5.out.2.2.1 Z5.out.2.1 d6 o6 m6, n6, Z5.out.2.2.2.only o6 (fun b hb e => by have e' : b = d := e; have := HS.out.dc.bk.lt; omega)⟩
                 have HL5 := Lib.hid Z5.out.2.1.len
                 clear n6 d6 o6 m6)
              | (go_at_call 13; refine (rf_same _ _ out out _ _ _ Z6.out.2.1 Z6.out.2.2).mono ?_; rintro E w8 ⟨rfl, o8⟩
                 have Z8 := Lib.hid (Z6.out.1.keep o8)
                 have e8 : decide (out = out) = true := by simp
                 rw [e8]
                 clear o8 e8)
              | (go_at_call 17; refine (dc_left W.heap.size d v6 _ _ Z8.out.dc).mono ?_; rw [← HL5.out]; rintro E w7 ⟨rfl, rfl⟩))
            go_roundw
            case rel => exact ⟨j + 1, _, v6, _, _, _, by omega, by go_num, rfl, by have := HPL.out; omega, Z8.out⟩
            case measure => simp [intOf]; omega
          · skip
            obtain ⟨y, q, hmx, hmn, hq1, hq2⟩ := clamp_n an
            obtain ⟨pv, hpv⟩ : ∃ pv, drN zs q = pv := ⟨_, rfl⟩
            have HP : Hid (Calls Try.prog 15 #[.slice A6 L6 c6, .int .i64 q] (wr.alloc (.cells #[.int .i64 ak, .int .i64 an, .slice AX M cX] 29)) fun e w' => ∃ A L c, e = .returned (.tuple #[.slice A L c, .int .i64 pv]) ∧ Nm w' (fun b => ¬ dcb d v b) (.slice A L c) (drL zs q) ∧ Only none_ (wr.alloc (.cells #[.int .i64 ak, .int .i64 an, .slice AX M cX] 29)) w') := by
              rw [← hpv]
              exact rf_draw _ zs q _ _ ZB.out.mm (by omega) (by omega)
            have HQ : Hid (∀ w', Dc w' W.heap.size d v zs → Calls Try.prog 16 #[.pointer (some ⟨d, 0, none⟩), .int .i64 q] w' fun e w'' => e = .returned (.int .i64 pv) ∧ ∃ v', Dc w'' W.heap.size d v' (drL zs q) ∧ Only (one d) w' w'' ∧ ∀ k, v'.ownBlock = some k → v.ownBlock = some k) := fun w' h => by
              rw [← hpv]
              exact dc_draw W.heap.size d v zs q w' h ⟨by omega, by omega⟩
            have HPL : Hid ((drL zs q).length ≤ 40 + 30 * j) := Nat.le_trans (drL_len _ _) HZL.out
            clear hpv
            go_wp2_with (first
              | (go_at_call 15; refine HP.out.mono ?_; rintro E w5 ⟨A5, L5, c5, rfl, n5, o5⟩
                 have Z5 : Hid (Dc w5 W.heap.size d v zs ∧ Nm w5 (fun b => ¬ dcb d v b) (.slice A5 L5 c5) (drL zs q) ∧ Only none_ W w5) := ⟨ZB.out.dc.keep o5, n5, ZB.out.ho.trans o5⟩
                 have t1 := (BX.out.only o5 (fun h => h)).cell_ (i := 1) rfl
                 clear n5 o5)
              | (go_at_call 16; refine (HQ.out _ Z5.out.1).mono ?_; rintro E w6 ⟨rfl, v6, d6, o6, m6⟩
                 have Z6 : Hid (Zp W d v6 (.slice A5 L5 c5) (drL zs q) w6) := drew_one hdW.out Z5.out.2.2 Z5.out.2.1 d6 o6 m6
                 have HL5 := Lib.hid Z5.out.2.1.len
                 clear d6 o6 m6)
              | (go_at_call 17; refine (dc_left W.heap.size d v6 _ _ Z6.out.dc).mono ?_; rw [← HL5.out]; rintro E w7 ⟨rfl, rfl⟩))
            go_roundw
            case rel => exact ⟨j + 1, _, v6, _, _, _, by omega, by go_num, rfl, by have := HPL.out; omega, Z6.out⟩
            case measure => simp [intOf]; omega
    · obtain rfl : j = L := by omega
      go_wp2_with fail
      go_ret
      exact ⟨rfl, HS.out.ho⟩
end Go.Proofs.Ytifeapknnnhhnaa
