/- The call of StampLatest answers yes, and changes nothing that was there. The statement itself is proved in another text. -/
import Derived.Test.YtolgjjjclihmkaaStI
import Derived.Test.YtolgjjjclihmkaaStE
import Derived.Test.YtolgjjjclihmkaaStL
import Derived.Test.YtolgjjjclihmkaaApp
import Derived.Test.YtolgjjjclihmkaaOpenU
import Derived.Deep.RegionHeld3
namespace Go.Proofs.Ytolgjjjclihmkaa
open Go.RowKit
set_option maxRecDepth 100000

theorem st_info : (Try.prog.info? 27).map (fun i => (i.zero, i.size, i.bytes)) = some (some (.agg #[.int .i64 0, .int .i64 0]), 2, 16) := by kernel_rfl
theorem stCells_flat : ∀ l : List St, l.flatMap stRow = stCells l
  | [] => rfl
  | x :: l => by rw [List.flatMap_cons, stCells_flat l]; rfl
theorem stCells_one (l : List St) : ∀ u ∈ stCells l, u.oneCell' = true := by
  induction l with
  | nil => simp [stCells]
  | cons x l ih =>
    intro u hu
    simp only [stCells, List.mem_cons] at hu
    rcases hu with rfl | rfl | hu
    · rfl
    · rfl
    · exact ih u hu
/-- The two cells of a stamp in a slice that came in. -/
theorem stamp_at {W w : World} {b off : Nat} {l : List St} (hc : ∀ j u, (l.flatMap stRow)[j]? = some u → W.cell? ⟨b, off + j, none⟩ = some u) (o : Only none_ W w) (hb : b < W.heap.size) {k : Nat} {a : St} (ha : l[k]? = some a) :
    w.cell? ⟨b, off + k * 2, none⟩ = some (.int .i64 a.c) ∧ w.cell? ⟨b, off + k * 2 + 1, none⟩ = some (.int .i64 a.s) := by
  have h := flat_at stRow stRow_length l k a ha
  have c0 := (o.cell (p := ⟨b, off + (k * 2 + 0), none⟩) hb (fun h => h)).trans (hc _ _ ((h 0 (by omega)).trans rfl))
  have c1 := (o.cell (p := ⟨b, off + (k * 2 + 1), none⟩) hb (fun h => h)).trans (hc _ _ ((h 1 (by omega)).trans rfl))
  exact ⟨c0, c1⟩

set_option maxHeartbeats 6400000 in
theorem latest_any (v : Value) (l : List St) (W : World) (hx : Cel W (fun b => b < W.heap.size) v l.length 2 (l.flatMap stRow)) (hl : l.length ≤ 40) :
    Calls Try.prog 4 #[v] W fun e w' => e = .returned (.bool true) ∧ Below W.heap.size W w' := by
  obtain ⟨A, c, rfl, _, h2, h3, _, h4⟩ := hx
  have HX := Lib.hid h4
  have hl4 : decide ((40 : Int) < (l.length : Int)) = false := by simp; omega
  obtain ⟨L, hL⟩ : ∃ L, L = l.length := ⟨_, rfl⟩
  rw [← hL] at h2 hl hl4 ⊢
  have HL := Lib.hid hL
  obtain ⟨i0, hi0, hz0, hz1, hz2⟩ := info_parts st_info
  clear h4 hL
  go_enter Try.func4, Try.ntmps4
  go_wp2_with (first
    | (go_at_call 9; refine (st_speaks _).mono ?_; rintro e w1 ⟨rfl, o1⟩; have O1 := Lib.hid o1; clear o1))
  go_loopw [3, 20] (fun v i wr => ∃ k : Nat, k ≤ L ∧ i = .int .i64 (k : Int) ∧ (∃ A n c, v = .slice A n c ∧ wr.ownsRow W.heap.size 27 2 (.slice A n c) k (stCells (l.take k))) ∧ Only none_ W wr) (fun _ i _ => L - (intOf i).toNat)
  case atStart => exact ⟨0, Nat.zero_le _, rfl, ⟨none, 0, 0, rfl, by simp [World.ownsRow, stCells]⟩, O1.out⟩
  case round =>
    obtain ⟨k, hk, rfl, ⟨A3, n3, c3, rfl, hown⟩, ho⟩ := hrel
    have HO := Lib.hid hown
    have HW := Lib.hid ho
    clear hown ho
    by_cases hlt : k < L
    · have hkL : decide ((k : Int) < (L : Int)) = true := by simp; omega
      have hkI : (k : Int) < (L : Int) := by omega
      obtain ⟨b, off, rfl, hb, _, hc⟩ := HX.out (by have := HL.out; omega)
      obtain ⟨a, ha⟩ : ∃ a, l[k]? = some a := ⟨l[k]'(by have := HL.out; omega), List.getElem?_eq_getElem _⟩
      obtain ⟨a0, a1⟩ := stamp_at hc HW.out hb ha
      have HT : Hid (stCells (l.take (k + 1)) = stCells (l.take k) ++ [.int .i64 a.c, .int .i64 a.s]) := by
        obtain ⟨hh, ha'⟩ := List.getElem?_eq_some_iff.1 ha
        rw [Hid, List.take_succ_eq_append_getElem hh, stCells_append, ha']
        rfl
      clear ha hc
      go_wp2_with (first
        | (go_at_call 11; refine (st_of _ _ _).mono ?_; rintro e w5 ⟨rfl, o5⟩
           have O5 := Lib.hid (((HW.out.alloc _).trans o5).alloc (.cells #[.int .i64 a.c, .int .i64 a.s] 27))
           have X5 := Lib.hid ((owns_only HO.out (((Only.refl none_ wr).alloc _).trans o5) (fun _ _ h => h)).alloc (.cells #[.int .i64 a.c, .int .i64 a.s] 27))
           have C5 := Lib.hid (cel_made w5 27 2 1 #[.int .i64 a.c, .int .i64 a.s] rfl (by simp [maxLen]))
           clear o5)
        | (at_builtin; refine wpList_append_cel _ rfl (.tmp 24) (.tmp 27) _ rfl W.heap.size 27 i0 (.agg #[.int .i64 0, .int .i64 0]) 2 16 Try.underlying32 hi0 hz0 hz1 hz2 rfl (by omega) (.slice A3 n3 c3) k _ rfl X5.out _ _ 1 [.int .i64 a.c, .int .i64 a.s] rfl C5.out (stCells_one [a]) (by simp only [maxLen]; omega) (by omega) O5.out.size ?_
           intro A6 n6 c6 w6 hown6 hgrow6 _
           have O6 := Lib.hid (O5.out.grown hgrow6 (fun g hg => .inr (X5.out.lt g hg).1))
           have X6 := Lib.hid hown6
           clear hown6 hgrow6))
      go_roundw
      case rel => exact ⟨k + 1, by omega, by go_num, ⟨A6, n6, c6, rfl, by rw [HT.out]; exact X6.out⟩, O6.out⟩
      case measure => simp [intOf]; omega
    · have hkL : decide ((k : Int) < (L : Int)) = false := by simp; omega
      obtain rfl : k = L := by omega
      have HC : Hid (Cel wr (ownb (.slice A3 n3 c3)) (.slice A3 n3 c3) l.length 2 (stCells l)) := by
        have := Cel.of_own HO.out
        rw [HL.out, List.take_length] at this
        exact this
      have HB : Hid (∀ b, ownb (.slice A3 n3 c3) b → b < wr.heap.size) := fun b hb => (HO.out.lt b hb).2
      have hl9 : l.length ≤ 9223372036854775807 := by have := HL.out; omega
      obtain ⟨m, hm⟩ : ∃ m, stLatest l = m := ⟨_, rfl⟩
      have HM := Lib.hid hm
      clear hm
      by_cases hk0 : k = 0
      · have hz : ((k : Int) == 0) = true := by simp [hk0]
        have hkk : decide ((0 : Int) < (k : Int)) = false := by simp [hk0]
        have hnil : l = [] := List.eq_nil_of_length_eq_zero (by rw [← HL.out]; exact hk0)
        obtain rfl : m = stZero := by rw [← HM.out, hnil]; rfl
        clear hnil
        go_wp2_with (first
          | (go_at_call 15; refine (st_latest l _ _ _ HC.out HB.out hl9).mono ?_; rintro e w7 ⟨rfl, o7⟩; rw [HM.out]; have O7 := Lib.hid (HW.out.trans o7); clear o7)
          | (go_at_call 14; refine (st_to _ _ _).mono ?_; rintro e w8 ⟨rfl, o8⟩; have O8 := Lib.hid ((O7.out.trans o8).alloc (.cells #[.int .i64 0, .int .i64 0] 23)); clear o8))
        refine wp_loop_rounds 1 ?_
        rw [rounds_succ]
        go_wp2_with fail
        go_ret
        exact ⟨rfl, O8.out.below (Nat.le_refl _) (fun k hk => hk.elim)⟩
      · have hz : ((k : Int) == 0) = false := by simp; omega
        have htop := latest_top (l := l) (fun e => hk0 (by rw [HL.out, e]; rfl))
        have HT := Lib.hid htop
        rw [HM.out] at HT
        clear htop
        go_wp2_with (first
          | (go_at_call 15; refine (st_latest l _ _ _ HC.out HB.out hl9).mono ?_; rintro e w7 ⟨rfl, o7⟩; rw [HM.out]; have O7 := Lib.hid (HW.out.trans o7); clear o7)
          | (go_at_call 14; refine (st_to _ _ _).mono ?_; rintro e w8 ⟨rfl, o8⟩; have O8 := Lib.hid ((O7.out.trans o8).alloc (.cells #[.int .i64 m.c, .int .i64 m.s] 23)); clear o8))
        have B8 := Lib.hid (Blk.new w8 23 #[.int .i64 m.c, .int .i64 m.s])
        generalize w8.alloc (.cells #[.int .i64 m.c, .int .i64 m.s] 23) = W9 at *
        generalize w8.heap.size = g6 at *
        clear HO HW HC HB
        go_loopw [7, 43] (fun t i wr => ∃ j : Nat, j ≤ k ∧ i = .int .i64 (j : Int) ∧ t = .bool ((l.take j).any (fun y => y.c == m.c && y.s == m.s)) ∧ Blk wr g6 23 #[.int .i64 m.c, .int .i64 m.s] ∧ Only none_ W wr) (fun _ i _ => k - (intOf i).toNat)
        case atStart => exact ⟨0, Nat.zero_le _, rfl, by simp, B8.out, O8.out⟩
        case round =>
          clear B8 O8
          obtain ⟨j, hj, rfl, rfl, hb, ho⟩ := hrel
          have HB := Lib.hid hb
          have HW := Lib.hid ho
          clear hb ho
          by_cases hlt : j < k
          · have hjL : decide ((j : Int) < (k : Int)) = true := by simp; omega
            have hjI : (j : Int) < (k : Int) := by omega
            obtain ⟨b, off, rfl, hb, _, hc⟩ := HX.out (by have := HL.out; omega)
            obtain ⟨a, ha⟩ : ∃ a, l[j]? = some a := ⟨l[j]'(by have := HL.out; omega), List.getElem?_eq_getElem _⟩
            obtain ⟨a0, a1⟩ := stamp_at hc HW.out hb ha
            have hmem : a ∈ l := List.mem_of_getElem? ha
            have HLt : Hid (stLater ⟨a.c, a.s⟩ ⟨m.c, m.s⟩ = false) := HT.out.2 a hmem
            obtain ⟨t, ht⟩ : ∃ t, (l.take j).any (fun y => y.c == m.c && y.s == m.s) = t := ⟨_, rfl⟩
            have HA : Hid ((l.take (j + 1)).any (fun y => y.c == m.c && y.s == m.s) = (t || (a.c == m.c && a.s == m.s))) := by
              obtain ⟨hh, ha'⟩ := List.getElem?_eq_some_iff.1 ha
              rw [Hid, List.take_succ_eq_append_getElem hh, List.any_append, ht, ha']
              simp
            rw [ht]
            have b0 := HB.out.cell_ (i := 0) rfl
            have b1 := HB.out.cell_ (i := 1) rfl
            have BA := Lib.hid (Blk.new wr 23 #[.int .i64 a.c, .int .i64 a.s])
            have HB2 := Lib.hid (HB.out.alloc (.cells #[.int .i64 a.c, .int .i64 a.s] 23))
            have HW2 := Lib.hid (HW.out.alloc (.cells #[.int .i64 a.c, .int .i64 a.s] 23))
            have q0 := HB2.out.cell_ (i := 0) rfl
            have q1 := HB2.out.cell_ (i := 1) rfl
            clear ha hc hmem ht
            cases t
            · by_cases he : a = m
              · subst he
                have HA2 : Hid ((l.take (j + 1)).any (fun y => y.c == a.c && y.s == a.s) = true) := by rw [Hid, HA.out]; simp
                go_wp2_with (first
                  | (go_at_call 8; refine (rf_later _ _ _ _ _).mono ?_; rintro e w5 ⟨rfl, o5⟩; rw [HLt.out]
                     have O5 := Lib.hid (HW2.out.trans o5)
                     have B5 := Lib.hid (HB2.out.only o5 (fun h => h))
                     clear o5))
                go_roundw
                case rel => exact ⟨j + 1, by omega, by go_num, by rw [HA2.out], B5.out, O5.out⟩
                case measure => simp [intOf]; omega
              · by_cases he1 : a.c = m.c
                · have he2 : (a.s == m.s) = false := by
                    rw [beq_eq_false_iff_ne]
                    exact fun e => he (St.eq he1 e)
                  have HA2 : Hid ((l.take (j + 1)).any (fun y => y.c == m.c && y.s == m.s) = false) := by rw [Hid, HA.out, he2]; simp
                  clear he HA
                  generalize a.c = c9 at *
                  subst he1
                  go_wp2_with (first
                    | (go_at_call 8; refine (rf_later _ _ _ _ _).mono ?_; rintro e w5 ⟨rfl, o5⟩; rw [HLt.out]
                       have O5 := Lib.hid (HW2.out.trans o5)
                       have B5 := Lib.hid (HB2.out.only o5 (fun h => h))
                       clear o5))
                  go_roundw
                  case rel => exact ⟨j + 1, by omega, by go_num, by rw [HA2.out], B5.out, O5.out⟩
                  case measure => simp [intOf]; omega
                · have he2 : (a.c == m.c) = false := by rw [beq_eq_false_iff_ne]; exact he1
                  have HA2 : Hid ((l.take (j + 1)).any (fun y => y.c == m.c && y.s == m.s) = false) := by rw [Hid, HA.out, he2]; rfl
                  clear he he1 HA
                  go_wp2_with (first
                    | (go_at_call 8; refine (rf_later _ _ _ _ _).mono ?_; rintro e w5 ⟨rfl, o5⟩; rw [HLt.out]
                       have O5 := Lib.hid (HW2.out.trans o5)
                       have B5 := Lib.hid (HB2.out.only o5 (fun h => h))
                       clear o5))
                  go_roundw
                  case rel => exact ⟨j + 1, by omega, by go_num, by rw [HA2.out], B5.out, O5.out⟩
                  case measure => simp [intOf]; omega
            · go_wp2_with (first
                | (go_at_call 8; refine (rf_later _ _ _ _ _).mono ?_; rintro e w5 ⟨rfl, o5⟩; rw [HLt.out]
                   have O5 := Lib.hid (HW2.out.trans o5)
                   have B5 := Lib.hid (HB2.out.only o5 (fun h => h))
                   clear o5))
              go_roundw
              case rel => exact ⟨j + 1, by omega, by go_num, by rw [HA.out, Bool.true_or], B5.out, O5.out⟩
              case measure => simp [intOf]; omega
          · obtain rfl : j = k := by omega
            have hjL : decide ((j : Int) < (j : Int)) = false := by simp
            have HA : Hid ((l.take j).any (fun y => y.c == m.c && y.s == m.s) = true) := by
              rw [Hid, HL.out, List.take_length, List.any_eq_true]
              exact ⟨m, HT.out.1, by simp⟩
            rw [HA.out]
            go_wp2_with fail
            go_ret
            exact ⟨rfl, HW.out.below (Nat.le_refl _) (fun k hk => hk.elim)⟩

theorem latest_long (A : Option Addr) (L c : Nat) (W : World) (h : 40 < L) :
    Calls Try.prog 4 #[.slice A L c] W fun e w' => e = .returned (.bool true) ∧ Below W.heap.size W w' := by
  have hl6 : decide ((40 : Int) < (L : Int)) = true := by simp; omega
  have tok : True := trivial
  go_enter Try.func4, Try.ntmps4
  go_wp2_with (first
    | (go_at_call 9; have _t := tok; refine (st_speaks _).mono ?_; rintro e w1 ⟨rfl, o1⟩; have O1 := Lib.hid o1; clear o1 tok)
    | (go_at_call 9; refine (st_speaks _).mono ?_; rintro e w2 ⟨rfl, o2⟩; have O2 := Lib.hid (O1.out.trans o2); clear o2))
  go_ret
  exact ⟨rfl, O2.out.below (Nat.le_refl _) (fun k hk => hk.elim)⟩
end Go.Proofs.Ytolgjjjclihmkaa
