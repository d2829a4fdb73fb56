/- The call of StampAny answers yes, and changes nothing that was there. The statement itself is proved in another text. -/
import Derived.Test.YtolgjjjclihmkaaStS
import Derived.Test.YtolgjjjclihmkaaStB
import Derived.Deep.RegionHeld3
import Derived.IntWalk
namespace Go.Proofs.Ytolgjjjclihmkaa
open Go.RowKit
set_option maxRecDepth 100000

set_option maxHeartbeats 6400000 in
theorem stampAny_any (v u : Value) (l m : List St) (W : World) (hx : Cel W (fun b => b < W.heap.size) v l.length 2 (l.flatMap stRow)) (hy : Cel W (fun b => b < W.heap.size) u m.length 2 (m.flatMap stRow)) (hl : l.length ≤ 40) (hm : m.length ≤ 40) (hl0 : l ≠ []) (hm0 : m ≠ []) :
    Calls Try.prog 7 #[v, u] W fun e w' => e = .returned (.bool true) ∧ Below W.heap.size W w' := by
  obtain ⟨A, c, rfl, _, h2, h3, _, h4⟩ := hx
  obtain ⟨D, d, rfl, _, k2, k3, _, k4⟩ := hy
  have HX := Lib.hid h4
  have HY := Lib.hid k4
  have hlp := List.length_pos_iff.2 hl0
  have hmp := List.length_pos_iff.2 hm0
  obtain ⟨L, hL⟩ : ∃ L, L = l.length := ⟨_, rfl⟩
  obtain ⟨M, hM⟩ : ∃ M, M = m.length := ⟨_, rfl⟩
  rw [← hL] at h2 hl hlp ⊢
  rw [← hM] at k2 hm hmp ⊢
  have q1 : decide ((40 : Int) < (L : Int)) = false := by simp; omega
  have q2 : decide ((40 : Int) < (M : Int)) = false := by simp; omega
  have q3 : ((L : Int) == 0) = false := by simp; omega
  have q4 : ((M : Int) == 0) = false := by simp; omega
  have HL := Lib.hid hL
  have HM := Lib.hid hM
  have HL0 := Lib.hid hl0
  have HM0 := Lib.hid hm0
  obtain ⟨i0, hi0, hz0, hz1, hz2⟩ := info_parts st_info
  clear h4 k4 hL hM hl0 hm0
  go_enter Try.func7, Try.ntmps7
  go_wp2_with (first
    | (go_at_call 9; refine (st_speaks _).mono ?_; rintro e w1 ⟨rfl, o1⟩; have O1 := Lib.hid o1; clear o1))
  go_loopw [5, 7, 39] (fun v5 v7 i wr => ∃ (k : Nat) (A5 : Option Addr) (n5 c5 : Nat) (A7 : Option Addr) (n7 c7 : Nat), k ≤ L ∧ i = .int .i64 (k : Int) ∧ v5 = .slice A5 n5 c5 ∧ v7 = .slice A7 n7 c7 ∧
      Thr W (.slice A5 n5 c5) (.slice A7 n7 c7) (.slice none 0 0) k k 0 (stCells (l.take k)) (stCells (l.take k).reverse) [] wr) (fun _ _ i _ => L - (intOf i).toNat)
  case atStart => exact ⟨0, none, 0, 0, none, 0, 0, Nat.zero_le _, rfl, rfl, rfl, ⟨by simp [World.ownsRow, stCells], by simp [World.ownsRow, stCells], by simp [World.ownsRow], by simp [Value.ownBlock], by simp [Value.ownBlock], O1.out⟩⟩
  case round =>
    obtain ⟨k, A5, n5, c5, A7, n7, c7, hk, rfl, rfl, rfl, ht⟩ := hrel
    have T := Lib.hid ht
    clear ht O1
    by_cases hlt : k < L
    · have hkL : decide ((k : Int) < (L : Int)) = true := by simp; omega
      have hkI : (k : Int) < (L : Int) := by omega
      obtain ⟨b, off, rfl, hb, _, hc⟩ := HX.out (by have := HL.out; omega)
      obtain ⟨a, ha⟩ : ∃ a, l[k]? = some a := ⟨l[k]'(by have := HL.out; omega), List.getElem?_eq_getElem _⟩
      obtain ⟨a0, a1⟩ := stamp_at hc T.out.ho hb ha
      have HT : Hid (stCells (l.take (k + 1)) = stCells (l.take k) ++ [.int .i64 a.c, .int .i64 a.s]) := by
        obtain ⟨hh, ha'⟩ := List.getElem?_eq_some_iff.1 ha
        rw [Hid, List.take_succ_eq_append_getElem hh, stCells_append, ha']
        rfl
      have HT2 : Hid (stCells (l.take (k + 1)).reverse = [.int .i64 a.c, .int .i64 a.s] ++ stCells (l.take k).reverse) := by
        obtain ⟨hh, ha'⟩ := List.getElem?_eq_some_iff.1 ha
        rw [Hid, List.take_succ_eq_append_getElem hh, List.reverse_append, stCells_append, ha']
        rfl
      have BA := Lib.hid (Blk.new wr 23 #[.int .i64 a.c, .int .i64 a.s])
      have tok : True := trivial
      clear ha hc
      go_wp2_with (first
        | (go_at_call 11; have _t := tok; refine (st_of _ _ _).mono ?_; rintro e w5 ⟨rfl, o5⟩
           have T5 := Lib.hid (((T.out.alloc (.cells #[.int .i64 a.c, .int .i64 a.s] 23)).keep o5).alloc (.cells #[.int .i64 a.c, .int .i64 a.s] 27))
           have C5 := Lib.hid (cel_made w5 27 2 1 #[.int .i64 a.c, .int .i64 a.s] rfl (by simp [maxLen]))
           have B5 := Lib.hid ((BA.out.only o5 (fun h => h)).alloc (.cells #[.int .i64 a.c, .int .i64 a.s] 27))
           have NB : Hid (∀ g, (Value.slice A5 n5 c5).ownBlock = some g → g ≠ wr.heap.size) := fun g hg => Nat.ne_of_lt (T.out.a0.lt g hg).2
           clear o5 tok)
        | (at_builtin; refine wpList_append_cel _ rfl (.tmp 43) (.tmp 46) _ rfl W.heap.size 27 i0 (.agg #[.int .i64 0, .int .i64 0]) 2 16 Try.underlying32 hi0 hz0 hz1 hz2 rfl (by omega) (.slice A5 n5 c5) k _ rfl T5.out.a0 _ _ 1 [.int .i64 a.c, .int .i64 a.s] rfl C5.out (stCells_one [a]) (by simp only [maxLen]; omega) (by omega) T5.out.ho.size ?_
           intro A6 n6 c6 w6 hown6 hgrow6 hmv6
           have T6 := Lib.hid (T5.out.app hown6 hgrow6 hmv6)
           have B6 := Lib.hid (B5.out.grown' hgrow6 (fun e => NB.out _ e rfl))
           have b0 := B6.out.cell_ (i := 0) rfl
           have b1 := B6.out.cell_ (i := 1) rfl
           clear hown6 hgrow6 hmv6)
        | (go_at_call 11; refine (st_of _ _ _).mono ?_; rintro e w7 ⟨rfl, o7⟩
           have T7 := Lib.hid (T6.out.keep o7)
           have X7 := Lib.hid (own_made w7 W.heap.size 27 2 1 #[.int .i64 a.c, .int .i64 a.s] rfl (by simp [maxLen]) T7.out.ho.size)
           have C7 := Lib.hid (Cel.of_own (T7.out.a1.alloc (.cells #[.int .i64 a.c, .int .i64 a.s] 27)))
           have S7 := Lib.hid (T7.out.ho.alloc (.cells #[.int .i64 a.c, .int .i64 a.s] 27)).size
           clear o7)
        | (at_builtin; refine wpList_append_cel _ rfl (.tmp 50) (.tmp 51) _ rfl W.heap.size 27 i0 (.agg #[.int .i64 0, .int .i64 0]) 2 16 Try.underlying32 hi0 hz0 hz1 hz2 rfl (by omega) (.slice (some ⟨w7.heap.size, 0, none⟩) 1 1) 1 [.int .i64 a.c, .int .i64 a.s] rfl X7.out _ _ k _ rfl C7.out (stCells_one _) (by simp only [maxLen]; omega) (by omega) S7.out ?_
           intro A8 n8 c8 w8 hown8 hgrow8 hmv8
           have T8 := Lib.hid (T7.out.fresh hown8 hgrow8 hmv8)
           clear hown8 hgrow8 hmv8))
      go_roundw
      case rel => exact ⟨k + 1, A6, n6, c6, A8, n8, c8, by omega, by go_num, rfl, rfl, by rw [HT.out, HT2.out]; have := T8.out; rw [Nat.add_comm 1 k] at this; exact this⟩
      case measure => simp [intOf]; omega
    · have hkL : decide ((k : Int) < (L : Int)) = false := by simp; omega
      obtain rfl : k = L := by omega
      have hrev : l.take k = l := by rw [HL.out, List.take_length]
      rw [hrev] at T
      have T0 : Hid (Thr W (.slice none 0 0) (.slice A5 n5 c5) (.slice A7 n7 c7) 0 k k [] (stCells l) (stCells l.reverse) wr) := ⟨by simp [World.ownsRow], T.out.a0, T.out.a1, by simp [Value.ownBlock], by simp [Value.ownBlock], T.out.ho⟩
      clear T hrev hkL hk hlt
      go_wp2_with fail
      go_loopw [6, 56] (fun v6 i wr => ∃ (j : Nat) (A6 : Option Addr) (n6 c6 : Nat), j ≤ M ∧ i = .int .i64 (j : Int) ∧ v6 = .slice A6 n6 c6 ∧
          Thr W (.slice A6 n6 c6) (.slice A5 n5 c5) (.slice A7 n7 c7) j k k (stCells (m.take j)) (stCells l) (stCells l.reverse) wr) (fun _ i _ => M - (intOf i).toNat)
      case atStart => exact ⟨0, none, 0, 0, Nat.zero_le _, rfl, rfl, T0.out⟩
      case round =>
        clear T0
        obtain ⟨j, A6, n6, c6, hj, rfl, rfl, ht⟩ := hrel
        have T := Lib.hid ht
        clear ht
        by_cases hlt : j < M
        · have hjL : decide ((j : Int) < (M : Int)) = true := by simp; omega
          have hjI : (j : Int) < (M : Int) := by omega
          obtain ⟨b, off, rfl, hb, _, hc⟩ := HY.out (by have := HM.out; omega)
          obtain ⟨a, ha⟩ : ∃ a, m[j]? = some a := ⟨m[j]'(by have := HM.out; omega), List.getElem?_eq_getElem _⟩
          obtain ⟨a0, a1⟩ := stamp_at hc T.out.ho hb ha
          have HT : Hid (stCells (m.take (j + 1)) = stCells (m.take j) ++ [.int .i64 a.c, .int .i64 a.s]) := by
            obtain ⟨hh, ha'⟩ := List.getElem?_eq_some_iff.1 ha
            rw [Hid, List.take_succ_eq_append_getElem hh, stCells_append, ha']
            rfl
          clear ha hc
          go_wp2_with (first
            | (go_at_call 11; refine (st_of _ _ _).mono ?_; rintro e w5 ⟨rfl, o5⟩
               have T5 := Lib.hid (((T.out.alloc (.cells #[.int .i64 a.c, .int .i64 a.s] 23)).keep o5).alloc (.cells #[.int .i64 a.c, .int .i64 a.s] 27))
               have C5 := Lib.hid (cel_made w5 27 2 1 #[.int .i64 a.c, .int .i64 a.s] rfl (by simp [maxLen]))
               clear o5)
            | (at_builtin; refine wpList_append_cel _ rfl (.tmp 60) (.tmp 63) _ rfl W.heap.size 27 i0 (.agg #[.int .i64 0, .int .i64 0]) 2 16 Try.underlying32 hi0 hz0 hz1 hz2 rfl (by omega) (.slice A6 n6 c6) j _ rfl T5.out.a0 _ _ 1 [.int .i64 a.c, .int .i64 a.s] rfl C5.out (stCells_one [a]) (by simp only [maxLen]; omega) (by omega) T5.out.ho.size ?_
               intro A8 n8 c8 w8 hown8 hgrow8 hmv8
               have T8 := Lib.hid (T5.out.app hown8 hgrow8 hmv8)
               clear hown8 hgrow8 hmv8))
          go_roundw
          case rel => exact ⟨j + 1, A8, n8, c8, by omega, by go_num, rfl, by rw [HT.out]; exact T8.out⟩
          case measure => simp [intOf]; omega
        · have hjL : decide ((j : Int) < (M : Int)) = false := by simp; omega
          obtain rfl : j = M := by omega
          have hrev : m.take j = m := by rw [HM.out, List.take_length]
          rw [hrev] at T
          have CA : Hid (Cel wr (fun b => b < wr.heap.size) (.slice A5 n5 c5) l.length 2 (stCells l)) := by
            have := (Cel.of_own T.out.a1).mono (T := fun b => b < wr.heap.size) (fun b hb _ => hb)
            rw [HL.out] at this
            exact this
          have CB : Hid (Cel wr (fun b => b < wr.heap.size) (.slice A6 n6 c6) m.length 2 (stCells m)) := by
            have := (Cel.of_own T.out.a0).mono (T := fun b => b < wr.heap.size) (fun b hb _ => hb)
            rw [HM.out] at this
            exact this
          have CT : Hid (Cel wr (fun b => b < wr.heap.size) (.slice A7 n7 c7) l.reverse.length 2 (stCells l.reverse)) := by
            have := (Cel.of_own T.out.a2).mono (T := fun b => b < wr.heap.size) (fun b hb _ => hb)
            rw [HL.out] at this
            rw [List.length_reverse]
            exact this
          have HO := Lib.hid T.out.ho
          obtain ⟨x, hxx⟩ : ∃ x, stLatest l = x := ⟨_, rfl⟩
          obtain ⟨y, hyy⟩ : ∃ y, stLatest m = y := ⟨_, rfl⟩
          have HXX := Lib.hid hxx
          have HYY := Lib.hid hyy
          have HRV : Hid (stLatest l.reverse = x) := by rw [Hid, latest_rev HL0.out, hxx]
          have HTW : Hid (stLatest [x, y] = stLatest (m ++ l)) := by rw [Hid, ← hxx, ← hyy]; exact latest_two HL0.out HM0.out
          have hl9 : l.length ≤ 9223372036854775807 := by have := HL.out; omega
          have hm9 : m.length ≤ 9223372036854775807 := by have := HM.out; omega
          clear hxx hyy hrev T hjL hj hlt
          have tok : True := trivial
          go_wp2_with (first
            | (go_at_call 15; have _t := tok; refine (st_latest l _ _ _ CA.out (fun _ h => h) hl9).mono ?_; rintro e w5 ⟨rfl, o5⟩; rw [HXX.out]
               have O5 := Lib.hid o5
               clear o5 tok)
            | (go_at_call 15; refine (st_latest m _ _ _ (CB.out.only O5.out (fun _ _ h => h)) (fun _ h => Nat.lt_of_lt_of_le h O5.out.size) hm9).mono ?_; rintro e w6 ⟨rfl, o6⟩; rw [HYY.out]
               have O6 := Lib.hid (O5.out.trans o6)
               clear o6))
          have O8 := Lib.hid ((HO.out.trans O6.out).alloc (.cells #[.int .i64 x.c, .int .i64 x.s] 27) |>.alloc (.cells #[.int .i64 y.c, .int .i64 y.s] 27))
          have o68 := (O6.out.alloc (.cells #[.int .i64 x.c, .int .i64 x.s] 27)).alloc (.cells #[.int .i64 y.c, .int .i64 y.s] 27)
          have low : ∀ b, b < wr.heap.size → b < ((w6.alloc (.cells #[.int .i64 x.c, .int .i64 x.s] 27)).alloc (.cells #[.int .i64 y.c, .int .i64 y.s] 27)).heap.size := fun b hb => Nat.lt_of_lt_of_le hb o68.size
          have DA := Lib.hid ((CA.out.only o68 (fun _ _ h => h)).mono (fun b _ hb => low b hb))
          have DB := Lib.hid ((CB.out.only o68 (fun _ _ h => h)).mono (fun b _ hb => low b hb))
          have DT := Lib.hid ((CT.out.only o68 (fun _ _ h => h)).mono (fun b _ hb => low b hb))
          have X8 := (Blk.new w6 27 #[.int .i64 x.c, .int .i64 x.s]).alloc (.cells #[.int .i64 y.c, .int .i64 y.s] 27)
          have Y8 := Blk.new (w6.alloc (.cells #[.int .i64 x.c, .int .i64 x.s] 27)) 27 #[.int .i64 y.c, .int .i64 y.s]
          have e6 : (w6.alloc (.cells #[.int .i64 x.c, .int .i64 x.s] 27)).heap.size = w6.heap.size + 1 := by simp
          rw [e6] at Y8
          have t8 : An _ w6.heap.size (w6.heap.size + 1) x y ((w6.alloc (.cells #[.int .i64 x.c, .int .i64 x.s] 27)).alloc (.cells #[.int .i64 y.c, .int .i64 y.s] 27)).drew := ⟨X8, Y8, (Only.refl none_ _).drew⟩
          clear X8 Y8 e6 o68 low CA CB CT O5 O6 HO
          generalize (w6.alloc (.cells #[.int .i64 x.c, .int .i64 x.s] 27)).alloc (.cells #[.int .i64 y.c, .int .i64 y.s] 27) = W8 at *
          generalize w6.heap.size = p at *
          obtain ⟨z, hzz⟩ : ∃ z, stLatest (m ++ l) = z := ⟨_, rfl⟩
          rw [hzz] at HTW
          have HZZ := Lib.hid hzz
          obtain ⟨r, hr⟩ : ∃ r, stCmp ⟨x.c, x.s⟩ ⟨y.c, y.s⟩ = r := ⟨_, rfl⟩
          have HR1 := Lib.hid hr
          have HR2 : Hid (stCmp ⟨y.c, y.s⟩ ⟨x.c, x.s⟩ = - r) := by rw [Hid, stCmp_neg, hr]
          have hrb := cmp_small ⟨x.c, x.s⟩ ⟨y.c, y.s⟩
          rw [hr] at hrb
          obtain ⟨hr1, hr2⟩ := hrb
          have hrev9 : l.reverse.length ≤ 9223372036854775807 := by rw [List.length_reverse]; exact hl9
          have hml9 : (m ++ l).length ≤ 9223372036854775807 := by rw [List.length_append]; have := HL.out; have := HM.out; omega
          have hm40 : m.length ≤ 40 := by have := HM.out; omega
          have hl40 : l.length ≤ 40 := by have := HL.out; omega
          have HBD : Hid (0 + m.length ≤ maxLen ∧ (0 + m.length) * 16 ≤ 140737488355328 ∧ 0 + m.length + l.length ≤ maxLen ∧ (0 + m.length + l.length) * 16 ≤ 140737488355328) := by simp only [Hid, maxLen]; omega
          have HWR : Hid (IntKind.i64.wrap r = r) := IntWalk.i64_in _ (by omega)
          clear hzz hr hl9 hm9 HXX HYY
          have tokA : True := trivial
          go_region_held3 (fun w' => (w'.cell? ⟨p, 0, none⟩ = some (.int .i64 x.c) ∧ w'.cell? ⟨p, 1, none⟩ = some (.int .i64 x.s)) ∧ w'.cell? ⟨p + 1, 0, none⟩ = some (.int .i64 y.c) ∧ w'.cell? ⟨p + 1, 1, none⟩ = some (.int .i64 y.s))
            (first | with_reducible exact An.cells (by assumption) | with_reducible exact An.cells (An.alloc (by assumption) _) | with_reducible exact An.cells (An.alloc (An.alloc (by assumption) _) _))
            (first
              | (go_at_call 15; have _t := tokA; refine (st_latest l.reverse _ _ _ (t8.cel DT.out) t8.low hrev9).mono ?_; rintro e w9 ⟨rfl, o9⟩; rw [HRV.out]
                 have t9 := t8.keep o9
                 clear o9 tokA
                 have tokB : True := trivial)
              | (go_at_call 15; have _t := tokB; ((with_reducible refine (st_latest [x, y] _ _ _ (cel_two w9 _ rfl x y) (by intro b hb; subst hb; simp) (by simp)).mono ?_); rintro e w10 ⟨rfl, o10⟩); rw [HTW.out]
                 have t10 := (t9.alloc _).keep o10
                 clear o10 tokB
                 have tokC1 : True := trivial)
              | (go_at_call 15; have _t := tokB; ((with_reducible refine (st_latest [x, y] _ _ _ ((cel_two w9 _ rfl x y).alloc (.cells #[] 27)) (by intro b hb; subst hb; simp; omega) (by simp)).mono ?_); rintro e w10 ⟨rfl, o10⟩); rw [HTW.out]
                 have t10 := ((t9.alloc _).alloc _).keep o10
                 have E10 := Lib.hid (owns_only (own_none (w9.alloc (.cells #[.int .i64 x.c, .int .i64 x.s, .int .i64 y.c, .int .i64 y.s] 27)) W8.heap.size (w9.heap.size + 1) (by simp) (by have := t9.ho.size; omega)) o10 (fun _ _ h => h))
                 clear o10 tokB
                 have tokC2 : True := trivial)
              | (go_at_call 15; have _t := tokB; ((with_reducible refine (st_latest [x, y] _ _ _ (cel_two (w9.alloc (.cells #[] 27)) (w9.heap.size + 1) (by simp) x y) (by intro b hb; subst hb; simp) (by simp)).mono ?_); rintro e w10 ⟨rfl, o10⟩); rw [HTW.out]
                 have t10 := ((t9.alloc _).alloc _).keep o10
                 have E10 := Lib.hid (owns_only ((own_none w9 W8.heap.size w9.heap.size rfl t9.ho.size).alloc (.cells #[.int .i64 x.c, .int .i64 x.s, .int .i64 y.c, .int .i64 y.s] 27)) o10 (fun _ _ h => h))
                 clear o10 tokB
                 have tokC2 : True := trivial)
              | (refine step_append_cel _ (by rfl) (.tmp 79) (.tmp 80) _ (by rfl) W8.heap.size 27 i0 (.agg #[.int .i64 0, .int .i64 0]) 2 16 Try.underlying32 hi0 hz0 hz1 hz2 rfl (by omega) (Value.slice (some ⟨w10.heap.size, 0, none⟩) 0 0) 0 [] (by rfl) ((own_none w10 W8.heap.size w10.heap.size rfl t10.ho.size)) _ _ m.length _ (by rfl) (An.cel (t10.alloc (.cells #[] 27)) DB.out) (stCells_one m) HBD.out.1 HBD.out.2.1 (t10.alloc (.cells #[] 27)).ho.size ?_
                 intro A11 n11 c11 w11 hown11 hgrow11 _
                 have t11 := (t10.alloc (.cells #[] 27)).grow hgrow11 (fun i hi => (World.ownsRow.lt ((own_none w10 W8.heap.size w10.heap.size rfl t10.ho.size)) i hi).1)
                 have X11 := Lib.hid hown11
                 clear hown11 hgrow11)
              | (refine step_append_cel _ (by rfl) (.tmp 79) (.tmp 80) _ (by rfl) W8.heap.size 27 i0 (.agg #[.int .i64 0, .int .i64 0]) 2 16 Try.underlying32 hi0 hz0 hz1 hz2 rfl (by omega) (_) 0 [] (by rfl) (E10.out) _ _ m.length _ (by rfl) (An.cel (t10) DB.out) (stCells_one m) HBD.out.1 HBD.out.2.1 (t10).ho.size ?_
                 intro A11 n11 c11 w11 hown11 hgrow11 _
                 have t11 := (t10).grow hgrow11 (fun i hi => (World.ownsRow.lt (E10.out) i hi).1)
                 have X11 := Lib.hid hown11
                 clear hown11 hgrow11)
              | (refine step_append_cel _ (by rfl) (.tmp 81) (.tmp 82) _ (by rfl) W8.heap.size 27 i0 (.agg #[.int .i64 0, .int .i64 0]) 2 16 Try.underlying32 hi0 hz0 hz1 hz2 rfl (by omega) (.slice A11 n11 c11) (0 + m.length) _ (by rfl) X11.out _ _ l.length _ (by rfl) (t11.cel DA.out) (stCells_one l) HBD.out.2.2.1 HBD.out.2.2.2 t11.ho.size ?_
                 intro A12 n12 c12 w12 hown12 hgrow12 _
                 have t12 := t11.grow hgrow12 (fun i hi => (X11.out.lt i hi).1)
                 have C12 : Hid (Cel w12 (ownb (.slice A12 n12 c12)) (.slice A12 n12 c12) (m ++ l).length 2 (stCells (m ++ l))) := by
                   have := Cel.of_own hown12
                   rw [List.nil_append, ← stCells_append, Nat.zero_add, ← List.length_append] at this
                   exact this
                 have L12 : Hid (∀ i, ownb (.slice A12 n12 c12) i → i < w12.heap.size) := fun i hi => (hown12.lt i hi).2
                 clear hown12 hgrow12
                 have tokD : True := trivial)
              | (go_at_call 15; have _t := tokD; refine (st_latest (m ++ l) _ _ _ C12.out L12.out hml9).mono ?_; rintro e w13 ⟨rfl, o13⟩; rw [HZZ.out]
                 have t13 := t12.keep o13
                 clear o13 tokD
                 have tokE : True := trivial)
              | (go_at_call 10; have _t := tokE; refine (st_compare x.c x.s y.c y.s _).mono ?_; rintro e w14 ⟨rfl, o14⟩; rw [HR1.out]
                 have t14 := t13.keep o14
                 clear o14 tokE
                 have tokF : True := trivial)
              | (go_at_call 10; have _t := tokF; refine (st_compare y.c y.s x.c x.s _).mono ?_; rintro e w15 ⟨rfl, o15⟩; rw [HR2.out]
                 have t15 := t14.keep o15
                 clear o15 tokF))
          all_goals
            go_wp2_with fail
            go_ret
            exact ⟨by rw [HWR.out, beq_self_eq_true]; rfl, (O8.out.trans t15.ho).below (Nat.le_refl _) (fun k hk => hk.elim)⟩

theorem stampAny_out (A D : Option Addr) (L c M d : Nat) (W : World) (h : 40 < L ∨ (L ≤ 40 ∧ 40 < M) ∨ (L ≤ 40 ∧ M ≤ 40 ∧ L = 0) ∨ (L ≤ 40 ∧ M ≤ 40 ∧ L ≠ 0 ∧ M = 0)) :
    Calls Try.prog 7 #[.slice A L c, .slice D M d] W fun e w' => e = .returned (.bool true) ∧ Below W.heap.size W w' := by
  have h' : decide ((40 : Int) < (L : Int)) = true ∨ (decide ((40 : Int) < (L : Int)) = false ∧ decide ((40 : Int) < (M : Int)) = true) ∨ (decide ((40 : Int) < (L : Int)) = false ∧ decide ((40 : Int) < (M : Int)) = false ∧ ((L : Int) == 0) = true) ∨
      (decide ((40 : Int) < (L : Int)) = false ∧ decide ((40 : Int) < (M : Int)) = false ∧ ((L : Int) == 0) = false ∧ ((M : Int) == 0) = true) := by
    simp only [decide_eq_true_eq, decide_eq_false_iff_not, beq_iff_eq, beq_eq_false_iff_ne]
    omega
  clear h
  have tok : True := trivial
  rcases h' with h1 | ⟨h1, h2⟩ | ⟨h1, h2, h3⟩ | ⟨h1, h2, h3, h4⟩
  all_goals
    go_enter Try.func7, Try.ntmps7
    go_wp2_with (first
      | (go_at_call 9; have _t := tok; refine (st_speaks _).mono ?_; rintro e w1 ⟨rfl, o1⟩; have O1 := Lib.hid o1; clear o1 tok)
      | (go_at_call 9; refine (st_speaks _).mono ?_; rintro e w2 ⟨rfl, o2⟩; have O2 := Lib.hid (O1.out.trans o2); clear o2))
    go_ret
    exact ⟨rfl, O2.out.below (Nat.le_refl _) (fun k hk => hk.elim)⟩
end Go.Proofs.Ytolgjjjclihmkaa
