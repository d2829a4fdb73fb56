/- Package setup's bounds and Check. No statement of the seat is proved here. -/
import Derived.Test.YthhfpjecgdedgaaSuA
import Derived.Test.YthhfpjecgdedgaaPce
namespace Go.Proofs.Ythhfpjecgdedgaa
open Go.RowKit
set_option maxRecDepth 100000
set_option linter.all false

abbrev bdL (c : Nat → Int) (m : Int) : Array Value := #[.int .i64 2, .int .i64 12, .int .i64 1, .int .i64 16, .int .i64 1, .int .i64 (c 0), .int .i64 0, .int .i64 2147483647, .int .i64 (c 3), .int .i64 m, .int .i64 1, .int .i64 6, .int .i64 1, .int .i64 11, .int .i64 1, .int .i64 8, .int .i64 0, .int .i64 (c 7), .int .i64 1, .int .i64 8, .int .i64 1, .int .i64 16, .int .i64 (c 10), .int .i64 64, .int .i64 1, .int .i64 64, .int .i64 1, .int .i64 16, .int .i64 1, .int .i64 16, .int .i64 1, .int .i64 8, .int .i64 0, .int .i64 1, .int .i64 1, .int .i64 8, .int .i64 1, .int .i64 8, .int .i64 1, .int .i64 512]
theorem bd_one (c : Nat → Int) (m : Int) : (bdL c m).all (·.oneCell') = true := by simp [Value.oneCell']
theorem bd_lo (c : Nat → Int) : ∀ i, i < 20 → (bdL c (suHi c 4))[i * 2]? = some (.int .i64 (suLo c i))
  | 0, _ => rfl
  | 1, _ => rfl
  | 2, _ => rfl
  | 3, _ => rfl
  | 4, _ => rfl
  | 5, _ => rfl
  | 6, _ => rfl
  | 7, _ => rfl
  | 8, _ => rfl
  | 9, _ => rfl
  | 10, _ => rfl
  | 11, _ => rfl
  | 12, _ => rfl
  | 13, _ => rfl
  | 14, _ => rfl
  | 15, _ => rfl
  | 16, _ => rfl
  | 17, _ => rfl
  | 18, _ => rfl
  | 19, _ => rfl
  | n + 20, h => by omega
theorem bd_hi (c : Nat → Int) : ∀ i, i < 20 → (bdL c (suHi c 4))[i * 2 + 1]? = some (.int .i64 (suHi c i))
  | 0, _ => rfl
  | 1, _ => rfl
  | 2, _ => rfl
  | 3, _ => rfl
  | 4, _ => rfl
  | 5, _ => rfl
  | 6, _ => rfl
  | 7, _ => rfl
  | 8, _ => rfl
  | 9, _ => rfl
  | 10, _ => rfl
  | 11, _ => rfl
  | 12, _ => rfl
  | 13, _ => rfl
  | 14, _ => rfl
  | 15, _ => rfl
  | 16, _ => rfl
  | 17, _ => rfl
  | 18, _ => rfl
  | 19, _ => rfl
  | n + 20, h => by omega
theorem cf_at (c : Nat → Int) : ∀ i, i < 20 → (#[.int .i64 (c 0), .int .i64 (c 1), .int .i64 (c 2), .int .i64 (c 3), .int .i64 (c 4), .int .i64 (c 5), .int .i64 (c 6), .int .i64 (c 7), .int .i64 (c 8), .int .i64 (c 9), .int .i64 (c 10), .int .i64 (c 11), .int .i64 (c 12), .int .i64 (c 13), .int .i64 (c 14), .int .i64 (c 15), .int .i64 (c 16), .int .i64 (c 17), .int .i64 (c 18), .int .i64 (c 19)] : Array Value)[i]? = some (.int .i64 (c i))
  | 0, _ => rfl
  | 1, _ => rfl
  | 2, _ => rfl
  | 3, _ => rfl
  | 4, _ => rfl
  | 5, _ => rfl
  | 6, _ => rfl
  | 7, _ => rfl
  | 8, _ => rfl
  | 9, _ => rfl
  | 10, _ => rfl
  | 11, _ => rfl
  | 12, _ => rfl
  | 13, _ => rfl
  | 14, _ => rfl
  | 15, _ => rfl
  | 16, _ => rfl
  | 17, _ => rfl
  | 18, _ => rfl
  | 19, _ => rfl
  | n + 20, h => by omega

set_option maxHeartbeats 3200000 in
theorem su_bd (c : Nat → Int) (w : World) :
    Calls Try.prog 31 #[.agg #[.int .i64 (c 0), .int .i64 (c 1), .int .i64 (c 2), .int .i64 (c 3), .int .i64 (c 4), .int .i64 (c 5), .int .i64 (c 6), .int .i64 (c 7), .int .i64 (c 8), .int .i64 (c 9), .int .i64 (c 10), .int .i64 (c 11), .int .i64 (c 12), .int .i64 (c 13), .int .i64 (c 14), .int .i64 (c 15), .int .i64 (c 16), .int .i64 (c 17), .int .i64 (c 18), .int .i64 (c 19)]] w fun E w' => E = .returned (.agg (bdL c (suHi c 4))) ∧ Only none_ w w' := by
  have O := Lib.hid (((Only.refl none_ w).alloc (.cells #[.int .i64 (c 0), .int .i64 (c 1), .int .i64 (c 2), .int .i64 (c 3), .int .i64 (c 4), .int .i64 (c 5), .int .i64 (c 6), .int .i64 (c 7), .int .i64 (c 8), .int .i64 (c 9), .int .i64 (c 10), .int .i64 (c 11), .int .i64 (c 12), .int .i64 (c 13), .int .i64 (c 14), .int .i64 (c 15), .int .i64 (c 16), .int .i64 (c 17), .int .i64 (c 18), .int .i64 (c 19)] 26)).alloc (.cells #[.int .i64 0, .int .i64 0, .int .i64 0, .int .i64 0, .int .i64 0, .int .i64 0, .int .i64 0, .int .i64 0, .int .i64 0, .int .i64 0, .int .i64 0, .int .i64 0, .int .i64 0, .int .i64 0, .int .i64 0, .int .i64 0, .int .i64 0, .int .i64 0, .int .i64 0, .int .i64 0, .int .i64 0, .int .i64 0, .int .i64 0, .int .i64 0, .int .i64 0, .int .i64 0, .int .i64 0, .int .i64 0, .int .i64 0, .int .i64 0, .int .i64 0, .int .i64 0, .int .i64 0, .int .i64 0, .int .i64 0, .int .i64 0, .int .i64 0, .int .i64 0, .int .i64 0, .int .i64 0] 61))
  have B1 := Lib.hid ((Blk.new w 26 #[.int .i64 (c 0), .int .i64 (c 1), .int .i64 (c 2), .int .i64 (c 3), .int .i64 (c 4), .int .i64 (c 5), .int .i64 (c 6), .int .i64 (c 7), .int .i64 (c 8), .int .i64 (c 9), .int .i64 (c 10), .int .i64 (c 11), .int .i64 (c 12), .int .i64 (c 13), .int .i64 (c 14), .int .i64 (c 15), .int .i64 (c 16), .int .i64 (c 17), .int .i64 (c 18), .int .i64 (c 19)]).alloc (.cells #[.int .i64 0, .int .i64 0, .int .i64 0, .int .i64 0, .int .i64 0, .int .i64 0, .int .i64 0, .int .i64 0, .int .i64 0, .int .i64 0, .int .i64 0, .int .i64 0, .int .i64 0, .int .i64 0, .int .i64 0, .int .i64 0, .int .i64 0, .int .i64 0, .int .i64 0, .int .i64 0, .int .i64 0, .int .i64 0, .int .i64 0, .int .i64 0, .int .i64 0, .int .i64 0, .int .i64 0, .int .i64 0, .int .i64 0, .int .i64 0, .int .i64 0, .int .i64 0, .int .i64 0, .int .i64 0, .int .i64 0, .int .i64 0, .int .i64 0, .int .i64 0, .int .i64 0, .int .i64 0] 61))
  have B2 := Blk.new (w.alloc (.cells #[.int .i64 (c 0), .int .i64 (c 1), .int .i64 (c 2), .int .i64 (c 3), .int .i64 (c 4), .int .i64 (c 5), .int .i64 (c 6), .int .i64 (c 7), .int .i64 (c 8), .int .i64 (c 9), .int .i64 (c 10), .int .i64 (c 11), .int .i64 (c 12), .int .i64 (c 13), .int .i64 (c 14), .int .i64 (c 15), .int .i64 (c 16), .int .i64 (c 17), .int .i64 (c 18), .int .i64 (c 19)] 26)) 61 #[.int .i64 0, .int .i64 0, .int .i64 0, .int .i64 0, .int .i64 0, .int .i64 0, .int .i64 0, .int .i64 0, .int .i64 0, .int .i64 0, .int .i64 0, .int .i64 0, .int .i64 0, .int .i64 0, .int .i64 0, .int .i64 0, .int .i64 0, .int .i64 0, .int .i64 0, .int .i64 0, .int .i64 0, .int .i64 0, .int .i64 0, .int .i64 0, .int .i64 0, .int .i64 0, .int .i64 0, .int .i64 0, .int .i64 0, .int .i64 0, .int .i64 0, .int .i64 0, .int .i64 0, .int .i64 0, .int .i64 0, .int .i64 0, .int .i64 0, .int .i64 0, .int .i64 0, .int .i64 0]
  rw [World.size_alloc] at B2
  have HB := Lib.hid B2
  clear B2
  have hge : Hid (w.heap.size ≤ w.heap.size + 1) := Nat.le_succ _
  by_cases h3 : c 3 = 0
  · have HM : Hid (suHi c 4 = 0) := by simp [Hid, suHi, h3]
    have hd : ((c 3) == 0) = true := by simpa using h3
    have H3 := Lib.hid h3
    clear h3
    go_enter Try.func31, Try.ntmps31
    obtain ⟨q0, q1, q2, q3, q4, q5, q6, q7, q8, q9, q10, q11, q12, q13, q14, q15, q16, q17, q18, q19⟩ := cf_of B1.out
    go_wp2_with (first
      | (refine wpList_store_row rfl 61 _ _ rfl (w.heap.size + 1) (bdL c 0) rfl rfl 61 _ HB.out (by kernel_rfl) rfl (bd_one c 0) ?_))
    exact bodyPost_ret (results_cell_row rfl _ _ (w.heap.size + 1) 61 _ (0, 0) _ rfl (HB.out.setRow _) Try.underlying61 rfl (by kernel_rfl)) rfl ⟨by rw [HM.out], O.out.setRow (.inr hge.out) _⟩
  · have HM : Hid (suHi c 4 = 2147483647) := by simp [Hid, suHi, h3]
    have hd : ((c 3) == 0) = false := by simpa using h3
    have H3 := Lib.hid h3
    clear h3
    go_enter Try.func31, Try.ntmps31
    obtain ⟨q0, q1, q2, q3, q4, q5, q6, q7, q8, q9, q10, q11, q12, q13, q14, q15, q16, q17, q18, q19⟩ := cf_of B1.out
    go_wp2_with (first
      | (refine wpList_store_row rfl 61 _ _ rfl (w.heap.size + 1) (bdL c 2147483647) rfl rfl 61 _ HB.out (by kernel_rfl) rfl (bd_one c 2147483647) ?_))
    exact bodyPost_ret (results_cell_row rfl _ _ (w.heap.size + 1) 61 _ (0, 0) _ rfl (HB.out.setRow _) Try.underlying61 rfl (by kernel_rfl)) rfl ⟨by rw [HM.out], O.out.setRow (.inr hge.out) _⟩

/-- A number read out of an array's value. -/
theorem index_cf (c : Nat → Int) (k : Nat) (hk : k < 20) (w : World) :
    (Instr.index 22 (.agg #[.int .i64 (c 0), .int .i64 (c 1), .int .i64 (c 2), .int .i64 (c 3), .int .i64 (c 4), .int .i64 (c 5), .int .i64 (c 6), .int .i64 (c 7), .int .i64 (c 8), .int .i64 (c 9), .int .i64 (c 10), .int .i64 (c 11), .int .i64 (c 12), .int .i64 (c 13), .int .i64 (c 14), .int .i64 (c 15), .int .i64 (c 16), .int .i64 (c 17), .int .i64 (c 18), .int .i64 (c 19)]) (.int .i64 (k : Int))).run Try.prog w = .ok (.int .i64 (c k)) w := by
  obtain ⟨i0, hi0, hz0⟩ : ∃ i0, Try.prog.info? 3 = some i0 ∧ i0.size = 1 := by
    have : (Try.prog.info? 3).map (·.size) = some 1 := by kernel_rfl
    cases h : Try.prog.info? 3 with
    | none => rw [h] at this; cases this
    | some i0 => rw [h] at this; simp at this; exact ⟨i0, rfl, this⟩
  have hc := cf_at c k hk
  generalize (#[.int .i64 (c 0), .int .i64 (c 1), .int .i64 (c 2), .int .i64 (c 3), .int .i64 (c 4), .int .i64 (c 5), .int .i64 (c 6), .int .i64 (c 7), .int .i64 (c 8), .int .i64 (c 9), .int .i64 (c 10), .int .i64 (c 11), .int .i64 (c 12), .int .i64 (c 13), .int .i64 (c 14), .int .i64 (c 15), .int .i64 (c 16), .int .i64 (c 17), .int .i64 (c 18), .int .i64 (c 19)] : Array Value) = cs at hc ⊢
  have hk2 : (k : Int) < 20 := by omega
  have hk3 : ¬ (k : Int) < 0 := by omega
  obtain ⟨h1, h2⟩ := Array.getElem?_eq_some_iff.1 hc
  simp [Instr.index, asIntOf, run_underlying Try.underlying22, sizeOf, typeInfo, hi0, hz0, part, isAgg, run_underlying Try.underlying3, hk2, hk3, hc, h1, h2]
  intro h; omega

set_option maxHeartbeats 6400000 in
theorem su_check (c : Nat → Int) (w : World) :
    Calls Try.prog 10 #[.agg #[.int .i64 (c 0), .int .i64 (c 1), .int .i64 (c 2), .int .i64 (c 3), .int .i64 (c 4), .int .i64 (c 5), .int .i64 (c 6), .int .i64 (c 7), .int .i64 (c 8), .int .i64 (c 9), .int .i64 (c 10), .int .i64 (c 11), .int .i64 (c 12), .int .i64 (c 13), .int .i64 (c 14), .int .i64 (c 15), .int .i64 (c 16), .int .i64 (c 17), .int .i64 (c 18), .int .i64 (c 19)]] w fun E w' => E = .returned (.tuple #[.int .i64 (suPlace c), .int .i64 (suCode c)]) ∧ Only none_ w w' := by
  have BX := Lib.hid (Cb.new w 26 c)
  have O0 := Lib.hid ((Only.refl none_ w).alloc (.cells #[.int .i64 (c 0), .int .i64 (c 1), .int .i64 (c 2), .int .i64 (c 3), .int .i64 (c 4), .int .i64 (c 5), .int .i64 (c 6), .int .i64 (c 7), .int .i64 (c 8), .int .i64 (c 9), .int .i64 (c 10), .int .i64 (c 11), .int .i64 (c 12), .int .i64 (c 13), .int .i64 (c 14), .int .i64 (c 15), .int .i64 (c 16), .int .i64 (c 17), .int .i64 (c 18), .int .i64 (c 19)] 26))
  go_enter Try.func10, Try.ntmps10
  go_wp2_with (first
    | (refine wpl_load rfl 26 _ rfl w.heap.size rfl _ #[.int .i64 (c 0), .int .i64 (c 1), .int .i64 (c 2), .int .i64 (c 3), .int .i64 (c 4), .int .i64 (c 5), .int .i64 (c 6), .int .i64 (c 7), .int .i64 (c 8), .int .i64 (c 9), .int .i64 (c 10), .int .i64 (c 11), .int .i64 (c 12), .int .i64 (c 13), .int .i64 (c 14), .int .i64 (c 15), .int .i64 (c 16), .int .i64 (c 17), .int .i64 (c 18), .int .i64 (c 19)] _ (by first | exact BX.out.x | exact B2.out.x) Try.underlying26 rfl (by kernel_rfl) ?_)
    | (go_at_call 31; refine (su_bd c _).mono ?_; rintro E w1 ⟨rfl, o1⟩
       have O1 := Lib.hid (O0.out.trans o1)
       have B1 := Lib.hid (BX.out.keep o1)
       have B2 := Lib.hid (B1.out.keep ((Only.refl none_ w1).alloc (.cells (bdL c (suHi c 4)) 61)))
       have G2 := Lib.hid (Blk.new w1 61 (bdL c (suHi c 4)))
       have O2 := Lib.hid (O1.out.alloc (.cells (bdL c (suHi c 4)) 61))
       clear o1)
    | (refine wpl_new rfl rfl 61 rfl _ _ rfl (bdL c (suHi c 4)) rfl rfl (by kernel_rfl) (bd_one _ _) ?_)
    | (go_at_call 12; refine (su_list c _).mono ?_; rintro E w2 ⟨rfl, o2⟩
       have O3 := Lib.hid (O2.out.trans o2)
       have G3 := Lib.hid (G2.out.only o2 (fun h => h))
       clear o2))
  generalize w1.heap.size = g at *
  go_loopw [11] (fun i wr => ∃ k : Nat, k ≤ 20 ∧ i = .int .i64 (k : Int) ∧ (∀ j, j < k → suBad c j = false) ∧ Only none_ w2 wr) (fun i _ => 20 - (intOf i).toNat)
  case atStart => exact ⟨0, by omega, rfl, fun j hj => by omega, Only.refl _ _⟩
  case round =>
    obtain ⟨k, hk, rfl, hall, ho⟩ := hrel
    have HW := Lib.hid ho
    have HA := Lib.hid hall
    clear ho hall
    by_cases hlt : k < 20
    · have GB := Lib.hid (G3.out.only HW.out (fun h => h))
      have x0 := GB.out.cell_ (bd_lo c k hlt)
      have x1 := GB.out.cell_ (bd_hi c k hlt)
      have ix := index_cf c k hlt
      have hki : (k : Int) < 20 := by omega
      have HS : Hid (suBad c k = true → suAt c = some k) := fun hb => suAt_some hlt hb HA.out
      have HB : Hid (suBad c k = (decide (c k < suLo c k) || decide (suHi c k < c k))) := rfl
      obtain ⟨x, hx⟩ : ∃ x, c k = x := ⟨_, rfl⟩
      obtain ⟨lo, hlo⟩ : ∃ x, suLo c k = x := ⟨_, rfl⟩
      obtain ⟨hi, hhi⟩ : ∃ x, suHi c k = x := ⟨_, rfl⟩
      rw [hx] at ix
      rw [hlo] at x0
      rw [hhi] at x1
      rw [hx, hlo, hhi] at HB
      clear hx hlo hhi
      by_cases hl : x < lo
      · have HP : Hid (suAt c = some k) := HS.out (by rw [HB.out]; simp [hl])
        go_wp2_with fail
        go_ret2
        exact ⟨by simp [suPlace, suCode, HP.out], O3.out.trans HW.out⟩
      · by_cases hh : hi < x
        · have HP : Hid (suAt c = some k) := HS.out (by rw [HB.out]; simp [hh])
          go_wp2_with fail
          go_ret2
          exact ⟨by simp [suPlace, suCode, HP.out], O3.out.trans HW.out⟩
        · have HN : Hid (suBad c k = false) := by rw [Hid, HB.out]; simp [hl, hh]
          go_wp2_with fail
          go_roundw
          case rel => exact ⟨k + 1, by omega, by go_num, fun j hj => by
            by_cases e : j = k
            · rw [e]; exact HN.out
            · exact HA.out j (by omega), HW.out⟩
          case measure => simp [intOf]; omega
    · obtain rfl : k = 20 := by omega
      have HP : Hid (suAt c = none) := suAt_none HA.out
      go_wp2_with fail
      go_ret2
      exact ⟨by simp [suPlace, suCode, HP.out], O3.out.trans HW.out⟩
end Go.Proofs.Ythhfpjecgdedgaa
