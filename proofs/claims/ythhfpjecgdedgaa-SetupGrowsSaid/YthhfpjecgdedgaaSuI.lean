/- The call of SetupGrows answers yes, and changes nothing that was there. The statement itself is proved in another text. -/
import Derived.Test.YthhfpjecgdedgaaSuH
namespace Go.Proofs.Ythhfpjecgdedgaa
open Go.RowKit
set_option maxRecDepth 100000
set_option linter.all false

theorem div_mono {a b m : Int} (hm : 1 ≤ m) (h : a ≤ b) : a / m ≤ b / m := Int.ediv_le_ediv (by omega) h
/-- One number more: no fewer rounds. -/
theorem grows_le {c : Nat → Int} (i : Nat) (hi : i = 1 ∨ i = 19 ∨ i = 18) (hr : suRight c = true) (hu : suRight (up c i (c i + 1)) = true) : suRounds c ≤ suRounds (up c i (c i + 1)) := by
  obtain ⟨⟨b0, b1⟩, ⟨b2, b3⟩, _, _, _, _, _, _, _, _, _, _, _, _, _, _, _, ⟨b4, b5⟩, ⟨b8, b9⟩, b6, b7⟩ := su_bounds hr
  have hs0 := suSteps_le c
  have n1 : 0 ≤ (c 0 - 1) * (c 0 - 1) := Int.mul_nonneg (by omega) (by omega)
  have n2 : 0 ≤ (c 0 - 1) * (c 0 - 1) * (c 18 + 2) := Int.mul_nonneg n1 (by omega)
  have u0 : up c i (c i + 1) 0 = c 0 := by simp [up]; omega
  have u17 : up c i (c i + 1) 17 = c 17 := by simp [up]; omega
  have hst : suSteps c ≤ suSteps (up c i (c i + 1)) ∧ c 18 ≤ up c i (c i + 1) 18 := by
    simp only [suSteps, suParts, hr, hu, if_true, u0, u17]
    rcases hi with rfl | rfl | rfl
    · have e1 : up c 1 (c 1 + 1) 1 = c 1 + 1 := by simp [up]
      have e2 : up c 1 (c 1 + 1) 19 = c 19 := by simp [up]
      have e3 : up c 1 (c 1 + 1) 18 = c 18 := by simp [up]
      rw [e1, e2, e3]
      have m1 : 0 ≤ c 0 * c 0 := Int.mul_nonneg (by omega) (by omega)
      have m2 : c 0 * c 0 * c 1 ≤ c 0 * c 0 * (c 1 + 1) := Int.mul_le_mul_of_nonneg_left (by omega) m1
      have := div_mono (m := c 17) b4 (show c 0 * c 0 * c 1 + c 17 - 1 ≤ c 0 * c 0 * (c 1 + 1) + c 17 - 1 by omega)
      omega
    · have e1 : up c 19 (c 19 + 1) 1 = c 1 := by simp [up]
      have e2 : up c 19 (c 19 + 1) 19 = c 19 + 1 := by simp [up]
      have e3 : up c 19 (c 19 + 1) 18 = c 18 := by simp [up]
      rw [e1, e2, e3]
      omega
    · have e1 : up c 18 (c 18 + 1) 1 = c 1 := by simp [up]
      have e2 : up c 18 (c 18 + 1) 19 = c 19 := by simp [up]
      have e3 : up c 18 (c 18 + 1) 18 = c 18 + 1 := by simp [up]
      rw [e1, e2, e3]
      omega
  obtain ⟨h1, h2⟩ := hst
  unfold suRounds
  rw [u0]
  generalize up c i (c i + 1) 18 = f' at *
  generalize suSteps (up c i (c i + 1)) = s' at *
  generalize suSteps c = s at *
  have k1 : (c 0 - 1) * (c 0 - 1) * (c 18 + 2) ≤ (c 0 - 1) * (c 0 - 1) * (f' + 2) := Int.mul_le_mul_of_nonneg_left (by omega) n1
  have k2 : (c 0 - 1) * (c 0 - 1) * (c 18 + 2) * (2 * s + 5 + 1) ≤ (c 0 - 1) * (c 0 - 1) * (f' + 2) * (2 * s' + 5 + 1) :=
    Int.mul_le_mul k1 (by omega) (by omega) (Int.le_trans n2 k1)
  omega
/-- A step's place. -/
def gi (k : Nat) : Nat := if k = 0 then 1 else if k = 1 then 19 else 18
theorem grows_bound {c : Nat → Int} (k : Nat) (hb : (suBound c).2 = true) (h2 : (suBound (up c (gi k) (c (gi k) + 1))).2 = true) : (suBound c).1 ≤ (suBound (up c (gi k) (c (gi k) + 1))).1 := by
  unfold suBound at *
  split at hb
  · next h1 =>
    split at h2
    · next h3 =>
      rw [if_pos h1, if_pos h3]
      simp only [Bool.and_eq_true] at h1 h3
      exact grows_le (gi k) (by unfold gi; split; · exact .inl rfl
                                split; · exact .inr (.inl rfl)
                                exact .inr (.inr rfl)) (suRoomy_right h1.1) (suRoomy_right h3.1)
    · cases h2
  · cases hb
theorem bound_yes {c : Nat → Int} (hr : suRight c = true) (hb : (suBound c).2 = true) : 2 ≤ (suBound c).1 := by
  unfold suBound at *
  split
  · exact (suRounds_le hr).1
  · next h => rw [if_neg h] at hb; cases hb
theorem bound_no {c : Nat → Int} (hb : (suBound c).2 = false) : (suBound c).1 = 0 := by
  unfold suBound at *
  split
  · next h => rw [if_pos h] at hb; cases hb
  · rfl
theorem steps_cap {c : Nat → Int} (hr : suRight c = true) : c 19 < suSteps c := by
  have := su_parts hr
  simp only [suSteps, hr, if_true]
  omega

set_option maxHeartbeats 12800000 in
theorem grows_any (c : Nat → Int) (w : World) :
    Calls Try.prog 6 #[.agg #[.int .i64 (c 0), .int .i64 (c 1), .int .i64 (c 2), .int .i64 (c 3), .int .i64 (c 4), .int .i64 (c 5), .int .i64 (c 6), .int .i64 (c 7), .int .i64 (c 8), .int .i64 (c 9), .int .i64 (c 10), .int .i64 (c 11), .int .i64 (c 12), .int .i64 (c 13), .int .i64 (c 14), .int .i64 (c 15), .int .i64 (c 16), .int .i64 (c 17), .int .i64 (c 18), .int .i64 (c 19)]] w fun E w' => E = .returned (.bool true) ∧ Below w.heap.size w w' := by
  have BX := Lib.hid (Cb.new w 23 c)
  have HR := Lib.hid (fun w => rf_right c w)
  cases hr : suRight c with
  | false =>
    rw [hr] at HR
    clear hr
    go_enter Try.func6, Try.ntmps6
    go_wp2_with (first
      | (refine wpl_load_if (by rfl) 23 _ rfl w.heap.size rfl _ #[.int .i64 (c 0), .int .i64 (c 1), .int .i64 (c 2), .int .i64 (c 3), .int .i64 (c 4), .int .i64 (c 5), .int .i64 (c 6), .int .i64 (c 7), .int .i64 (c 8), .int .i64 (c 9), .int .i64 (c 10), .int .i64 (c 11), .int .i64 (c 12), .int .i64 (c 13), .int .i64 (c 14), .int .i64 (c 15), .int .i64 (c 16), .int .i64 (c 17), .int .i64 (c 18), .int .i64 (c 19)] _ B1.out.x Try.underlying23 rfl (by kernel_rfl) ?_)
      | (go_at_call 8; have _t := BX; refine (su_speaks _).mono ?_; rintro E w1 ⟨rfl, o1⟩; have B1 := Lib.hid (BX.out.keep o1); clear o1 BX)
      | (go_at_call 26; refine (HR.out _).mono ?_; rintro E w2 ⟨rfl, o2⟩; have B2 := Lib.hid (B1.out.keep o2); clear o2)
      | (go_at_call 8; refine (su_speaks _).mono ?_; rintro E w3 ⟨rfl, o3⟩; have B3 := Lib.hid (B2.out.keep o3); clear o3))
    go_ret
    exact ⟨rfl, B3.out.ho.below (Nat.le_refl _) (fun k hk => hk.elim)⟩
  | true =>
    have HB := Lib.hid (fun w => su_bound c w)
    have HBN := Lib.hid (@bound_no c)
    have HBY := Lib.hid (bound_yes hr)
    have HG := Lib.hid (fun k => grows_bound (c := c) k)
    have HSC := Lib.hid (steps_cap hr)
    have HST := Lib.hid (fun w => su_steps c w)
    have HC := su_bounds hr
    rw [hr] at HR
    clear hr
    generalize suSteps c = st at *
    generalize hn : (suBound c).1 = n at *
    generalize hok : (suBound c).2 = ok at *
    clear hn hok
    cases ok with
    | false =>
      have hn0 : n = 0 := HBN.out rfl
      subst hn0
      clear HBN HBY HG HC HST HSC
      go_enter Try.func6, Try.ntmps6
      go_wp2_with (first
        | (refine wpl_load_if (by rfl) 23 _ rfl w.heap.size rfl _ #[.int .i64 (c 0), .int .i64 (c 1), .int .i64 (c 2), .int .i64 (c 3), .int .i64 (c 4), .int .i64 (c 5), .int .i64 (c 6), .int .i64 (c 7), .int .i64 (c 8), .int .i64 (c 9), .int .i64 (c 10), .int .i64 (c 11), .int .i64 (c 12), .int .i64 (c 13), .int .i64 (c 14), .int .i64 (c 15), .int .i64 (c 16), .int .i64 (c 17), .int .i64 (c 18), .int .i64 (c 19)] _ (by first | exact B2.out.x | exact B1.out.x) Try.underlying23 rfl (by kernel_rfl) ?_)
        | (refine wpl_load rfl 26 _ rfl w3.heap.size rfl _ #[.int .i64 (c 0), .int .i64 (c 1), .int .i64 (c 2), .int .i64 (c 3), .int .i64 (c 4), .int .i64 (c 5), .int .i64 (c 6), .int .i64 (c 7), .int .i64 (c 8), .int .i64 (c 9), .int .i64 (c 10), .int .i64 (c 11), .int .i64 (c 12), .int .i64 (c 13), .int .i64 (c 14), .int .i64 (c 15), .int .i64 (c 16), .int .i64 (c 17), .int .i64 (c 18), .int .i64 (c 19)] _ D3.out.y Try.underlying26 rfl (by kernel_rfl) ?_)
        | (refine wpl_new rfl rfl 26 rfl _ _ rfl #[.int .i64 (c 0), .int .i64 (c 1), .int .i64 (c 2), .int .i64 (c 3), .int .i64 (c 4), .int .i64 (c 5), .int .i64 (c 6), .int .i64 (c 7), .int .i64 (c 8), .int .i64 (c 9), .int .i64 (c 10), .int .i64 (c 11), .int .i64 (c 12), .int .i64 (c 13), .int .i64 (c 14), .int .i64 (c 15), .int .i64 (c 16), .int .i64 (c 17), .int .i64 (c 18), .int .i64 (c 19)] rfl rfl (by kernel_rfl) (cf_one c) ?_)
        | (go_at_call 8; refine (su_speaks _).mono ?_; rintro E w1 ⟨rfl, o1⟩; have B1 := Lib.hid (BX.out.keep o1); clear o1)
        | (go_at_call 26; refine (HR.out _).mono ?_; rintro E w2 ⟨rfl, o2⟩; have B2 := Lib.hid (B1.out.keep o2); clear o2)
        | (go_at_call 9; refine (lw_of c _).mono ?_; rintro E w3 ⟨rfl, o3⟩; have B3 := Lib.hid (B2.out.keep o3)
           have D3 : Hid (Cd w w.heap.size w3.heap.size 23 26 c c (w3.alloc (.cells #[.int .i64 (c 0), .int .i64 (c 1), .int .i64 (c 2), .int .i64 (c 3), .int .i64 (c 4), .int .i64 (c 5), .int .i64 (c 6), .int .i64 (c 7), .int .i64 (c 8), .int .i64 (c 9), .int .i64 (c 10), .int .i64 (c 11), .int .i64 (c 12), .int .i64 (c 13), .int .i64 (c 14), .int .i64 (c 15), .int .i64 (c 16), .int .i64 (c 17), .int .i64 (c 18), .int .i64 (c 19)] 26))) := ⟨B3.out.x.alloc _, Blk.new w3 _ _, B3.out.ho.alloc _⟩
           clear o3)
        | (go_at_call 17; refine (HB.out _).mono ?_; rintro E w4 ⟨rfl, o4⟩; have D4 := Lib.hid (D3.out.keep o4); clear o4))
      go_ret
      exact ⟨rfl, D4.out.ho.below (Nat.le_refl _) (fun k hk => hk.elim)⟩
    | true =>
      have hn2 : 2 ≤ n := HBY.out rfl
      clear HBN HBY
      go_enter Try.func6, Try.ntmps6
      go_wp2_with (first
        | (refine wpl_load_if (by rfl) 23 _ rfl w.heap.size rfl _ #[.int .i64 (c 0), .int .i64 (c 1), .int .i64 (c 2), .int .i64 (c 3), .int .i64 (c 4), .int .i64 (c 5), .int .i64 (c 6), .int .i64 (c 7), .int .i64 (c 8), .int .i64 (c 9), .int .i64 (c 10), .int .i64 (c 11), .int .i64 (c 12), .int .i64 (c 13), .int .i64 (c 14), .int .i64 (c 15), .int .i64 (c 16), .int .i64 (c 17), .int .i64 (c 18), .int .i64 (c 19)] _ (by first | exact B2.out.x | exact B1.out.x) Try.underlying23 rfl (by kernel_rfl) ?_)
        | (refine wpl_load rfl 26 _ rfl w3.heap.size rfl _ #[.int .i64 (c 0), .int .i64 (c 1), .int .i64 (c 2), .int .i64 (c 3), .int .i64 (c 4), .int .i64 (c 5), .int .i64 (c 6), .int .i64 (c 7), .int .i64 (c 8), .int .i64 (c 9), .int .i64 (c 10), .int .i64 (c 11), .int .i64 (c 12), .int .i64 (c 13), .int .i64 (c 14), .int .i64 (c 15), .int .i64 (c 16), .int .i64 (c 17), .int .i64 (c 18), .int .i64 (c 19)] _ D3.out.y Try.underlying26 rfl (by kernel_rfl) ?_)
        | (refine wpl_new rfl rfl 26 rfl _ _ rfl #[.int .i64 (c 0), .int .i64 (c 1), .int .i64 (c 2), .int .i64 (c 3), .int .i64 (c 4), .int .i64 (c 5), .int .i64 (c 6), .int .i64 (c 7), .int .i64 (c 8), .int .i64 (c 9), .int .i64 (c 10), .int .i64 (c 11), .int .i64 (c 12), .int .i64 (c 13), .int .i64 (c 14), .int .i64 (c 15), .int .i64 (c 16), .int .i64 (c 17), .int .i64 (c 18), .int .i64 (c 19)] rfl rfl (by kernel_rfl) (cf_one c) ?_)
        | (go_at_call 8; refine (su_speaks _).mono ?_; rintro E w1 ⟨rfl, o1⟩; have B1 := Lib.hid (BX.out.keep o1); clear o1)
        | (go_at_call 26; refine (HR.out _).mono ?_; rintro E w2 ⟨rfl, o2⟩; have B2 := Lib.hid (B1.out.keep o2); clear o2)
        | (go_at_call 9; refine (lw_of c _).mono ?_; rintro E w3 ⟨rfl, o3⟩; have B3 := Lib.hid (B2.out.keep o3)
           have D3 : Hid (Cd w w.heap.size w3.heap.size 23 26 c c (w3.alloc (.cells #[.int .i64 (c 0), .int .i64 (c 1), .int .i64 (c 2), .int .i64 (c 3), .int .i64 (c 4), .int .i64 (c 5), .int .i64 (c 6), .int .i64 (c 7), .int .i64 (c 8), .int .i64 (c 9), .int .i64 (c 10), .int .i64 (c 11), .int .i64 (c 12), .int .i64 (c 13), .int .i64 (c 14), .int .i64 (c 15), .int .i64 (c 16), .int .i64 (c 17), .int .i64 (c 18), .int .i64 (c 19)] 26))) := ⟨B3.out.x.alloc _, Blk.new w3 _ _, B3.out.ho.alloc _⟩
           clear o3)
        | (go_at_call 17; refine (HB.out _).mono ?_; rintro E w4 ⟨rfl, o4⟩; have D4 := Lib.hid (D3.out.keep o4); clear o4))
      clear B1 B2 B3 D3 BX
      obtain ⟨_, ⟨b2, b3⟩, _, _, _, _, _, _, _, _, _, _, _, _, _, _, _, _, ⟨b8, b9⟩, b6, b7⟩ := HC
      generalize w3.heap.size = h at *
      generalize hgg : w.heap.size = g at *
      go_loopw [29] (fun i wr => ∃ k : Nat, k ≤ 3 ∧ i = .int .i64 (k : Int) ∧ Only none_ w4 wr) (fun i _ => 3 - (intOf i).toNat)
      case atStart => exact ⟨0, by omega, rfl, Only.refl _ _⟩
      case round =>
        obtain ⟨k, hk, rfl, ho⟩ := hrel
        have D5 := Lib.hid (D4.out.keep ho)
        have ho0 := ho
        clear ho
        have hO := Lib.hid ho0
        clear ho0
        rcases (by omega : k = 0 ∨ k = 1 ∨ k = 2 ∨ k = 3) with rfl | rfl | rfl | rfl
        · have DY := Lib.hid (Cd.keep D5.out ((Only.refl none_ wr).alloc (.cells #[.int .i64 (up c 1 (c 1 + 1) 0), .int .i64 (up c 1 (c 1 + 1) 1), .int .i64 (up c 1 (c 1 + 1) 2), .int .i64 (up c 1 (c 1 + 1) 3), .int .i64 (up c 1 (c 1 + 1) 4), .int .i64 (up c 1 (c 1 + 1) 5), .int .i64 (up c 1 (c 1 + 1) 6), .int .i64 (up c 1 (c 1 + 1) 7), .int .i64 (up c 1 (c 1 + 1) 8), .int .i64 (up c 1 (c 1 + 1) 9), .int .i64 (up c 1 (c 1 + 1) 10), .int .i64 (up c 1 (c 1 + 1) 11), .int .i64 (up c 1 (c 1 + 1) 12), .int .i64 (up c 1 (c 1 + 1) 13), .int .i64 (up c 1 (c 1 + 1) 14), .int .i64 (up c 1 (c 1 + 1) 15), .int .i64 (up c 1 (c 1 + 1) 16), .int .i64 (up c 1 (c 1 + 1) 17), .int .i64 (up c 1 (c 1 + 1) 18), .int .i64 (up c 1 (c 1 + 1) 19)] 26)))
          have GK : Hid ((suBound (up c 1 (c 1 + 1))).2 = true → n ≤ (suBound (up c 1 (c 1 + 1))).1) := HG.out 0 trivial
          have HU := Lib.hid (fun w => su_bound (up c 1 (c 1 + 1)) w)
          have HNW := Lib.hid (Blk.new wr 26 #[.int .i64 (up c 1 (c 1 + 1) 0), .int .i64 (up c 1 (c 1 + 1) 1), .int .i64 (up c 1 (c 1 + 1) 2), .int .i64 (up c 1 (c 1 + 1) 3), .int .i64 (up c 1 (c 1 + 1) 4), .int .i64 (up c 1 (c 1 + 1) 5), .int .i64 (up c 1 (c 1 + 1) 6), .int .i64 (up c 1 (c 1 + 1) 7), .int .i64 (up c 1 (c 1 + 1) 8), .int .i64 (up c 1 (c 1 + 1) 9), .int .i64 (up c 1 (c 1 + 1) 10), .int .i64 (up c 1 (c 1 + 1) 11), .int .i64 (up c 1 (c 1 + 1) 12), .int .i64 (up c 1 (c 1 + 1) 13), .int .i64 (up c 1 (c 1 + 1) 14), .int .i64 (up c 1 (c 1 + 1) 15), .int .i64 (up c 1 (c 1 + 1) 16), .int .i64 (up c 1 (c 1 + 1) 17), .int .i64 (up c 1 (c 1 + 1) 18), .int .i64 (up c 1 (c 1 + 1) 19)])
          generalize hm : (suBound (up c 1 (c 1 + 1))).1 = m at *
          generalize hmay : (suBound (up c 1 (c 1 + 1))).2 = may at *
          clear hm hmay
          cases may with
          | false =>
            go_wp2_with (first
              | (refine wpl_load rfl 26 _ rfl h rfl _ #[.int .i64 (c 0), .int .i64 (c 1), .int .i64 (c 2), .int .i64 (c 3), .int .i64 (c 4), .int .i64 (c 5), .int .i64 (c 6), .int .i64 (c 7), .int .i64 (c 8), .int .i64 (c 9), .int .i64 (c 10), .int .i64 (c 11), .int .i64 (c 12), .int .i64 (c 13), .int .i64 (c 14), .int .i64 (c 15), .int .i64 (c 16), .int .i64 (c 17), .int .i64 (c 18), .int .i64 (c 19)] _ D5.out.y Try.underlying26 rfl (by kernel_rfl) ?_)
              | (refine wpl_new rfl rfl 26 rfl _ _ rfl #[.int .i64 (c 0), .int .i64 (c 1), .int .i64 (c 2), .int .i64 (c 3), .int .i64 (c 4), .int .i64 (c 5), .int .i64 (c 6), .int .i64 (c 7), .int .i64 (c 8), .int .i64 (c 9), .int .i64 (c 10), .int .i64 (c 11), .int .i64 (c 12), .int .i64 (c 13), .int .i64 (c 14), .int .i64 (c 15), .int .i64 (c 16), .int .i64 (c 17), .int .i64 (c 18), .int .i64 (c 19)] rfl rfl (by kernel_rfl) (cf_one c) ?_)
              | (refine wpl_load rfl 26 _ rfl wr.heap.size rfl _ #[.int .i64 (up c 1 (c 1 + 1) 0), .int .i64 (up c 1 (c 1 + 1) 1), .int .i64 (up c 1 (c 1 + 1) 2), .int .i64 (up c 1 (c 1 + 1) 3), .int .i64 (up c 1 (c 1 + 1) 4), .int .i64 (up c 1 (c 1 + 1) 5), .int .i64 (up c 1 (c 1 + 1) 6), .int .i64 (up c 1 (c 1 + 1) 7), .int .i64 (up c 1 (c 1 + 1) 8), .int .i64 (up c 1 (c 1 + 1) 9), .int .i64 (up c 1 (c 1 + 1) 10), .int .i64 (up c 1 (c 1 + 1) 11), .int .i64 (up c 1 (c 1 + 1) 12), .int .i64 (up c 1 (c 1 + 1) 13), .int .i64 (up c 1 (c 1 + 1) 14), .int .i64 (up c 1 (c 1 + 1) 15), .int .i64 (up c 1 (c 1 + 1) 16), .int .i64 (up c 1 (c 1 + 1) 17), .int .i64 (up c 1 (c 1 + 1) 18), .int .i64 (up c 1 (c 1 + 1) 19)] _ HNW.out Try.underlying26 rfl (by kernel_rfl) ?_)
              | (go_at_call 17; refine (HU.out _).mono ?_; rintro E w6 ⟨rfl, o6⟩; have O6 : Hid (Only none_ w4 w6) := (hO.out.alloc (.cells #[.int .i64 (up c 1 (c 1 + 1) 0), .int .i64 (up c 1 (c 1 + 1) 1), .int .i64 (up c 1 (c 1 + 1) 2), .int .i64 (up c 1 (c 1 + 1) 3), .int .i64 (up c 1 (c 1 + 1) 4), .int .i64 (up c 1 (c 1 + 1) 5), .int .i64 (up c 1 (c 1 + 1) 6), .int .i64 (up c 1 (c 1 + 1) 7), .int .i64 (up c 1 (c 1 + 1) 8), .int .i64 (up c 1 (c 1 + 1) 9), .int .i64 (up c 1 (c 1 + 1) 10), .int .i64 (up c 1 (c 1 + 1) 11), .int .i64 (up c 1 (c 1 + 1) 12), .int .i64 (up c 1 (c 1 + 1) 13), .int .i64 (up c 1 (c 1 + 1) 14), .int .i64 (up c 1 (c 1 + 1) 15), .int .i64 (up c 1 (c 1 + 1) 16), .int .i64 (up c 1 (c 1 + 1) 17), .int .i64 (up c 1 (c 1 + 1) 18), .int .i64 (up c 1 (c 1 + 1) 19)] 26)).trans o6; clear o6))
            go_roundw
            case rel => exact ⟨0 + 1, by omega, by go_num, O6.out⟩
            case measure => simp [intOf]
          | true =>
            have hnm : n ≤ m := GK.out rfl
            go_wp2_with (first
              | (refine wpl_load rfl 26 _ rfl h rfl _ #[.int .i64 (c 0), .int .i64 (c 1), .int .i64 (c 2), .int .i64 (c 3), .int .i64 (c 4), .int .i64 (c 5), .int .i64 (c 6), .int .i64 (c 7), .int .i64 (c 8), .int .i64 (c 9), .int .i64 (c 10), .int .i64 (c 11), .int .i64 (c 12), .int .i64 (c 13), .int .i64 (c 14), .int .i64 (c 15), .int .i64 (c 16), .int .i64 (c 17), .int .i64 (c 18), .int .i64 (c 19)] _ D5.out.y Try.underlying26 rfl (by kernel_rfl) ?_)
              | (refine wpl_new rfl rfl 26 rfl _ _ rfl #[.int .i64 (c 0), .int .i64 (c 1), .int .i64 (c 2), .int .i64 (c 3), .int .i64 (c 4), .int .i64 (c 5), .int .i64 (c 6), .int .i64 (c 7), .int .i64 (c 8), .int .i64 (c 9), .int .i64 (c 10), .int .i64 (c 11), .int .i64 (c 12), .int .i64 (c 13), .int .i64 (c 14), .int .i64 (c 15), .int .i64 (c 16), .int .i64 (c 17), .int .i64 (c 18), .int .i64 (c 19)] rfl rfl (by kernel_rfl) (cf_one c) ?_)
              | (refine wpl_load rfl 26 _ rfl wr.heap.size rfl _ #[.int .i64 (up c 1 (c 1 + 1) 0), .int .i64 (up c 1 (c 1 + 1) 1), .int .i64 (up c 1 (c 1 + 1) 2), .int .i64 (up c 1 (c 1 + 1) 3), .int .i64 (up c 1 (c 1 + 1) 4), .int .i64 (up c 1 (c 1 + 1) 5), .int .i64 (up c 1 (c 1 + 1) 6), .int .i64 (up c 1 (c 1 + 1) 7), .int .i64 (up c 1 (c 1 + 1) 8), .int .i64 (up c 1 (c 1 + 1) 9), .int .i64 (up c 1 (c 1 + 1) 10), .int .i64 (up c 1 (c 1 + 1) 11), .int .i64 (up c 1 (c 1 + 1) 12), .int .i64 (up c 1 (c 1 + 1) 13), .int .i64 (up c 1 (c 1 + 1) 14), .int .i64 (up c 1 (c 1 + 1) 15), .int .i64 (up c 1 (c 1 + 1) 16), .int .i64 (up c 1 (c 1 + 1) 17), .int .i64 (up c 1 (c 1 + 1) 18), .int .i64 (up c 1 (c 1 + 1) 19)] _ HNW.out Try.underlying26 rfl (by kernel_rfl) ?_)
              | (go_at_call 17; refine (HU.out _).mono ?_; rintro E w6 ⟨rfl, o6⟩; have O6 : Hid (Only none_ w4 w6) := (hO.out.alloc (.cells #[.int .i64 (up c 1 (c 1 + 1) 0), .int .i64 (up c 1 (c 1 + 1) 1), .int .i64 (up c 1 (c 1 + 1) 2), .int .i64 (up c 1 (c 1 + 1) 3), .int .i64 (up c 1 (c 1 + 1) 4), .int .i64 (up c 1 (c 1 + 1) 5), .int .i64 (up c 1 (c 1 + 1) 6), .int .i64 (up c 1 (c 1 + 1) 7), .int .i64 (up c 1 (c 1 + 1) 8), .int .i64 (up c 1 (c 1 + 1) 9), .int .i64 (up c 1 (c 1 + 1) 10), .int .i64 (up c 1 (c 1 + 1) 11), .int .i64 (up c 1 (c 1 + 1) 12), .int .i64 (up c 1 (c 1 + 1) 13), .int .i64 (up c 1 (c 1 + 1) 14), .int .i64 (up c 1 (c 1 + 1) 15), .int .i64 (up c 1 (c 1 + 1) 16), .int .i64 (up c 1 (c 1 + 1) 17), .int .i64 (up c 1 (c 1 + 1) 18), .int .i64 (up c 1 (c 1 + 1) 19)] 26)).trans o6; clear o6))
            go_roundw
            case rel => exact ⟨0 + 1, by omega, by go_num, O6.out⟩
            case measure => simp [intOf]
        · have DY := Lib.hid (Cd.keep D5.out ((Only.refl none_ wr).alloc (.cells #[.int .i64 (up c 19 (c 19 + 1) 0), .int .i64 (up c 19 (c 19 + 1) 1), .int .i64 (up c 19 (c 19 + 1) 2), .int .i64 (up c 19 (c 19 + 1) 3), .int .i64 (up c 19 (c 19 + 1) 4), .int .i64 (up c 19 (c 19 + 1) 5), .int .i64 (up c 19 (c 19 + 1) 6), .int .i64 (up c 19 (c 19 + 1) 7), .int .i64 (up c 19 (c 19 + 1) 8), .int .i64 (up c 19 (c 19 + 1) 9), .int .i64 (up c 19 (c 19 + 1) 10), .int .i64 (up c 19 (c 19 + 1) 11), .int .i64 (up c 19 (c 19 + 1) 12), .int .i64 (up c 19 (c 19 + 1) 13), .int .i64 (up c 19 (c 19 + 1) 14), .int .i64 (up c 19 (c 19 + 1) 15), .int .i64 (up c 19 (c 19 + 1) 16), .int .i64 (up c 19 (c 19 + 1) 17), .int .i64 (up c 19 (c 19 + 1) 18), .int .i64 (up c 19 (c 19 + 1) 19)] 26)))
          have GK : Hid ((suBound (up c 19 (c 19 + 1))).2 = true → n ≤ (suBound (up c 19 (c 19 + 1))).1) := HG.out 1 trivial
          have HU := Lib.hid (fun w => su_bound (up c 19 (c 19 + 1)) w)
          have HNW := Lib.hid (Blk.new wr 26 #[.int .i64 (up c 19 (c 19 + 1) 0), .int .i64 (up c 19 (c 19 + 1) 1), .int .i64 (up c 19 (c 19 + 1) 2), .int .i64 (up c 19 (c 19 + 1) 3), .int .i64 (up c 19 (c 19 + 1) 4), .int .i64 (up c 19 (c 19 + 1) 5), .int .i64 (up c 19 (c 19 + 1) 6), .int .i64 (up c 19 (c 19 + 1) 7), .int .i64 (up c 19 (c 19 + 1) 8), .int .i64 (up c 19 (c 19 + 1) 9), .int .i64 (up c 19 (c 19 + 1) 10), .int .i64 (up c 19 (c 19 + 1) 11), .int .i64 (up c 19 (c 19 + 1) 12), .int .i64 (up c 19 (c 19 + 1) 13), .int .i64 (up c 19 (c 19 + 1) 14), .int .i64 (up c 19 (c 19 + 1) 15), .int .i64 (up c 19 (c 19 + 1) 16), .int .i64 (up c 19 (c 19 + 1) 17), .int .i64 (up c 19 (c 19 + 1) 18), .int .i64 (up c 19 (c 19 + 1) 19)])
          generalize hm : (suBound (up c 19 (c 19 + 1))).1 = m at *
          generalize hmay : (suBound (up c 19 (c 19 + 1))).2 = may at *
          clear hm hmay
          cases may with
          | false =>
            go_wp2_with (first
              | (refine wpl_load rfl 26 _ rfl h rfl _ #[.int .i64 (c 0), .int .i64 (c 1), .int .i64 (c 2), .int .i64 (c 3), .int .i64 (c 4), .int .i64 (c 5), .int .i64 (c 6), .int .i64 (c 7), .int .i64 (c 8), .int .i64 (c 9), .int .i64 (c 10), .int .i64 (c 11), .int .i64 (c 12), .int .i64 (c 13), .int .i64 (c 14), .int .i64 (c 15), .int .i64 (c 16), .int .i64 (c 17), .int .i64 (c 18), .int .i64 (c 19)] _ D5.out.y Try.underlying26 rfl (by kernel_rfl) ?_)
              | (refine wpl_new rfl rfl 26 rfl _ _ rfl #[.int .i64 (c 0), .int .i64 (c 1), .int .i64 (c 2), .int .i64 (c 3), .int .i64 (c 4), .int .i64 (c 5), .int .i64 (c 6), .int .i64 (c 7), .int .i64 (c 8), .int .i64 (c 9), .int .i64 (c 10), .int .i64 (c 11), .int .i64 (c 12), .int .i64 (c 13), .int .i64 (c 14), .int .i64 (c 15), .int .i64 (c 16), .int .i64 (c 17), .int .i64 (c 18), .int .i64 (c 19)] rfl rfl (by kernel_rfl) (cf_one c) ?_)
              | (refine wpl_load rfl 26 _ rfl wr.heap.size rfl _ #[.int .i64 (up c 19 (c 19 + 1) 0), .int .i64 (up c 19 (c 19 + 1) 1), .int .i64 (up c 19 (c 19 + 1) 2), .int .i64 (up c 19 (c 19 + 1) 3), .int .i64 (up c 19 (c 19 + 1) 4), .int .i64 (up c 19 (c 19 + 1) 5), .int .i64 (up c 19 (c 19 + 1) 6), .int .i64 (up c 19 (c 19 + 1) 7), .int .i64 (up c 19 (c 19 + 1) 8), .int .i64 (up c 19 (c 19 + 1) 9), .int .i64 (up c 19 (c 19 + 1) 10), .int .i64 (up c 19 (c 19 + 1) 11), .int .i64 (up c 19 (c 19 + 1) 12), .int .i64 (up c 19 (c 19 + 1) 13), .int .i64 (up c 19 (c 19 + 1) 14), .int .i64 (up c 19 (c 19 + 1) 15), .int .i64 (up c 19 (c 19 + 1) 16), .int .i64 (up c 19 (c 19 + 1) 17), .int .i64 (up c 19 (c 19 + 1) 18), .int .i64 (up c 19 (c 19 + 1) 19)] _ HNW.out Try.underlying26 rfl (by kernel_rfl) ?_)
              | (go_at_call 17; refine (HU.out _).mono ?_; rintro E w6 ⟨rfl, o6⟩; have O6 : Hid (Only none_ w4 w6) := (hO.out.alloc (.cells #[.int .i64 (up c 19 (c 19 + 1) 0), .int .i64 (up c 19 (c 19 + 1) 1), .int .i64 (up c 19 (c 19 + 1) 2), .int .i64 (up c 19 (c 19 + 1) 3), .int .i64 (up c 19 (c 19 + 1) 4), .int .i64 (up c 19 (c 19 + 1) 5), .int .i64 (up c 19 (c 19 + 1) 6), .int .i64 (up c 19 (c 19 + 1) 7), .int .i64 (up c 19 (c 19 + 1) 8), .int .i64 (up c 19 (c 19 + 1) 9), .int .i64 (up c 19 (c 19 + 1) 10), .int .i64 (up c 19 (c 19 + 1) 11), .int .i64 (up c 19 (c 19 + 1) 12), .int .i64 (up c 19 (c 19 + 1) 13), .int .i64 (up c 19 (c 19 + 1) 14), .int .i64 (up c 19 (c 19 + 1) 15), .int .i64 (up c 19 (c 19 + 1) 16), .int .i64 (up c 19 (c 19 + 1) 17), .int .i64 (up c 19 (c 19 + 1) 18), .int .i64 (up c 19 (c 19 + 1) 19)] 26)).trans o6; clear o6))
            go_roundw
            case rel => exact ⟨1 + 1, by omega, by go_num, O6.out⟩
            case measure => simp [intOf]
          | true =>
            have hnm : n ≤ m := GK.out rfl
            go_wp2_with (first
              | (refine wpl_load rfl 26 _ rfl h rfl _ #[.int .i64 (c 0), .int .i64 (c 1), .int .i64 (c 2), .int .i64 (c 3), .int .i64 (c 4), .int .i64 (c 5), .int .i64 (c 6), .int .i64 (c 7), .int .i64 (c 8), .int .i64 (c 9), .int .i64 (c 10), .int .i64 (c 11), .int .i64 (c 12), .int .i64 (c 13), .int .i64 (c 14), .int .i64 (c 15), .int .i64 (c 16), .int .i64 (c 17), .int .i64 (c 18), .int .i64 (c 19)] _ D5.out.y Try.underlying26 rfl (by kernel_rfl) ?_)
              | (refine wpl_new rfl rfl 26 rfl _ _ rfl #[.int .i64 (c 0), .int .i64 (c 1), .int .i64 (c 2), .int .i64 (c 3), .int .i64 (c 4), .int .i64 (c 5), .int .i64 (c 6), .int .i64 (c 7), .int .i64 (c 8), .int .i64 (c 9), .int .i64 (c 10), .int .i64 (c 11), .int .i64 (c 12), .int .i64 (c 13), .int .i64 (c 14), .int .i64 (c 15), .int .i64 (c 16), .int .i64 (c 17), .int .i64 (c 18), .int .i64 (c 19)] rfl rfl (by kernel_rfl) (cf_one c) ?_)
              | (refine wpl_load rfl 26 _ rfl wr.heap.size rfl _ #[.int .i64 (up c 19 (c 19 + 1) 0), .int .i64 (up c 19 (c 19 + 1) 1), .int .i64 (up c 19 (c 19 + 1) 2), .int .i64 (up c 19 (c 19 + 1) 3), .int .i64 (up c 19 (c 19 + 1) 4), .int .i64 (up c 19 (c 19 + 1) 5), .int .i64 (up c 19 (c 19 + 1) 6), .int .i64 (up c 19 (c 19 + 1) 7), .int .i64 (up c 19 (c 19 + 1) 8), .int .i64 (up c 19 (c 19 + 1) 9), .int .i64 (up c 19 (c 19 + 1) 10), .int .i64 (up c 19 (c 19 + 1) 11), .int .i64 (up c 19 (c 19 + 1) 12), .int .i64 (up c 19 (c 19 + 1) 13), .int .i64 (up c 19 (c 19 + 1) 14), .int .i64 (up c 19 (c 19 + 1) 15), .int .i64 (up c 19 (c 19 + 1) 16), .int .i64 (up c 19 (c 19 + 1) 17), .int .i64 (up c 19 (c 19 + 1) 18), .int .i64 (up c 19 (c 19 + 1) 19)] _ HNW.out Try.underlying26 rfl (by kernel_rfl) ?_)
              | (go_at_call 17; refine (HU.out _).mono ?_; rintro E w6 ⟨rfl, o6⟩; have O6 : Hid (Only none_ w4 w6) := (hO.out.alloc (.cells #[.int .i64 (up c 19 (c 19 + 1) 0), .int .i64 (up c 19 (c 19 + 1) 1), .int .i64 (up c 19 (c 19 + 1) 2), .int .i64 (up c 19 (c 19 + 1) 3), .int .i64 (up c 19 (c 19 + 1) 4), .int .i64 (up c 19 (c 19 + 1) 5), .int .i64 (up c 19 (c 19 + 1) 6), .int .i64 (up c 19 (c 19 + 1) 7), .int .i64 (up c 19 (c 19 + 1) 8), .int .i64 (up c 19 (c 19 + 1) 9), .int .i64 (up c 19 (c 19 + 1) 10), .int .i64 (up c 19 (c 19 + 1) 11), .int .i64 (up c 19 (c 19 + 1) 12), .int .i64 (up c 19 (c 19 + 1) 13), .int .i64 (up c 19 (c 19 + 1) 14), .int .i64 (up c 19 (c 19 + 1) 15), .int .i64 (up c 19 (c 19 + 1) 16), .int .i64 (up c 19 (c 19 + 1) 17), .int .i64 (up c 19 (c 19 + 1) 18), .int .i64 (up c 19 (c 19 + 1) 19)] 26)).trans o6; clear o6))
            go_roundw
            case rel => exact ⟨1 + 1, by omega, by go_num, O6.out⟩
            case measure => simp [intOf]
        · have DY := Lib.hid (Cd.keep D5.out ((Only.refl none_ wr).alloc (.cells #[.int .i64 (up c 18 (c 18 + 1) 0), .int .i64 (up c 18 (c 18 + 1) 1), .int .i64 (up c 18 (c 18 + 1) 2), .int .i64 (up c 18 (c 18 + 1) 3), .int .i64 (up c 18 (c 18 + 1) 4), .int .i64 (up c 18 (c 18 + 1) 5), .int .i64 (up c 18 (c 18 + 1) 6), .int .i64 (up c 18 (c 18 + 1) 7), .int .i64 (up c 18 (c 18 + 1) 8), .int .i64 (up c 18 (c 18 + 1) 9), .int .i64 (up c 18 (c 18 + 1) 10), .int .i64 (up c 18 (c 18 + 1) 11), .int .i64 (up c 18 (c 18 + 1) 12), .int .i64 (up c 18 (c 18 + 1) 13), .int .i64 (up c 18 (c 18 + 1) 14), .int .i64 (up c 18 (c 18 + 1) 15), .int .i64 (up c 18 (c 18 + 1) 16), .int .i64 (up c 18 (c 18 + 1) 17), .int .i64 (up c 18 (c 18 + 1) 18), .int .i64 (up c 18 (c 18 + 1) 19)] 26)))
          have GK : Hid ((suBound (up c 18 (c 18 + 1))).2 = true → n ≤ (suBound (up c 18 (c 18 + 1))).1) := HG.out 2 trivial
          have HU := Lib.hid (fun w => su_bound (up c 18 (c 18 + 1)) w)
          have HNW := Lib.hid (Blk.new wr 26 #[.int .i64 (up c 18 (c 18 + 1) 0), .int .i64 (up c 18 (c 18 + 1) 1), .int .i64 (up c 18 (c 18 + 1) 2), .int .i64 (up c 18 (c 18 + 1) 3), .int .i64 (up c 18 (c 18 + 1) 4), .int .i64 (up c 18 (c 18 + 1) 5), .int .i64 (up c 18 (c 18 + 1) 6), .int .i64 (up c 18 (c 18 + 1) 7), .int .i64 (up c 18 (c 18 + 1) 8), .int .i64 (up c 18 (c 18 + 1) 9), .int .i64 (up c 18 (c 18 + 1) 10), .int .i64 (up c 18 (c 18 + 1) 11), .int .i64 (up c 18 (c 18 + 1) 12), .int .i64 (up c 18 (c 18 + 1) 13), .int .i64 (up c 18 (c 18 + 1) 14), .int .i64 (up c 18 (c 18 + 1) 15), .int .i64 (up c 18 (c 18 + 1) 16), .int .i64 (up c 18 (c 18 + 1) 17), .int .i64 (up c 18 (c 18 + 1) 18), .int .i64 (up c 18 (c 18 + 1) 19)])
          generalize hm : (suBound (up c 18 (c 18 + 1))).1 = m at *
          generalize hmay : (suBound (up c 18 (c 18 + 1))).2 = may at *
          clear hm hmay
          cases may with
          | false =>
            go_wp2_with (first
              | (refine wpl_load rfl 26 _ rfl h rfl _ #[.int .i64 (c 0), .int .i64 (c 1), .int .i64 (c 2), .int .i64 (c 3), .int .i64 (c 4), .int .i64 (c 5), .int .i64 (c 6), .int .i64 (c 7), .int .i64 (c 8), .int .i64 (c 9), .int .i64 (c 10), .int .i64 (c 11), .int .i64 (c 12), .int .i64 (c 13), .int .i64 (c 14), .int .i64 (c 15), .int .i64 (c 16), .int .i64 (c 17), .int .i64 (c 18), .int .i64 (c 19)] _ D5.out.y Try.underlying26 rfl (by kernel_rfl) ?_)
              | (refine wpl_new rfl rfl 26 rfl _ _ rfl #[.int .i64 (c 0), .int .i64 (c 1), .int .i64 (c 2), .int .i64 (c 3), .int .i64 (c 4), .int .i64 (c 5), .int .i64 (c 6), .int .i64 (c 7), .int .i64 (c 8), .int .i64 (c 9), .int .i64 (c 10), .int .i64 (c 11), .int .i64 (c 12), .int .i64 (c 13), .int .i64 (c 14), .int .i64 (c 15), .int .i64 (c 16), .int .i64 (c 17), .int .i64 (c 18), .int .i64 (c 19)] rfl rfl (by kernel_rfl) (cf_one c) ?_)
              | (refine wpl_load rfl 26 _ rfl wr.heap.size rfl _ #[.int .i64 (up c 18 (c 18 + 1) 0), .int .i64 (up c 18 (c 18 + 1) 1), .int .i64 (up c 18 (c 18 + 1) 2), .int .i64 (up c 18 (c 18 + 1) 3), .int .i64 (up c 18 (c 18 + 1) 4), .int .i64 (up c 18 (c 18 + 1) 5), .int .i64 (up c 18 (c 18 + 1) 6), .int .i64 (up c 18 (c 18 + 1) 7), .int .i64 (up c 18 (c 18 + 1) 8), .int .i64 (up c 18 (c 18 + 1) 9), .int .i64 (up c 18 (c 18 + 1) 10), .int .i64 (up c 18 (c 18 + 1) 11), .int .i64 (up c 18 (c 18 + 1) 12), .int .i64 (up c 18 (c 18 + 1) 13), .int .i64 (up c 18 (c 18 + 1) 14), .int .i64 (up c 18 (c 18 + 1) 15), .int .i64 (up c 18 (c 18 + 1) 16), .int .i64 (up c 18 (c 18 + 1) 17), .int .i64 (up c 18 (c 18 + 1) 18), .int .i64 (up c 18 (c 18 + 1) 19)] _ HNW.out Try.underlying26 rfl (by kernel_rfl) ?_)
              | (go_at_call 17; refine (HU.out _).mono ?_; rintro E w6 ⟨rfl, o6⟩; have O6 : Hid (Only none_ w4 w6) := (hO.out.alloc (.cells #[.int .i64 (up c 18 (c 18 + 1) 0), .int .i64 (up c 18 (c 18 + 1) 1), .int .i64 (up c 18 (c 18 + 1) 2), .int .i64 (up c 18 (c 18 + 1) 3), .int .i64 (up c 18 (c 18 + 1) 4), .int .i64 (up c 18 (c 18 + 1) 5), .int .i64 (up c 18 (c 18 + 1) 6), .int .i64 (up c 18 (c 18 + 1) 7), .int .i64 (up c 18 (c 18 + 1) 8), .int .i64 (up c 18 (c 18 + 1) 9), .int .i64 (up c 18 (c 18 + 1) 10), .int .i64 (up c 18 (c 18 + 1) 11), .int .i64 (up c 18 (c 18 + 1) 12), .int .i64 (up c 18 (c 18 + 1) 13), .int .i64 (up c 18 (c 18 + 1) 14), .int .i64 (up c 18 (c 18 + 1) 15), .int .i64 (up c 18 (c 18 + 1) 16), .int .i64 (up c 18 (c 18 + 1) 17), .int .i64 (up c 18 (c 18 + 1) 18), .int .i64 (up c 18 (c 18 + 1) 19)] 26)).trans o6; clear o6))
            go_roundw
            case rel => exact ⟨2 + 1, by omega, by go_num, O6.out⟩
            case measure => simp [intOf]
          | true =>
            have hnm : n ≤ m := GK.out rfl
            go_wp2_with (first
              | (refine wpl_load rfl 26 _ rfl h rfl _ #[.int .i64 (c 0), .int .i64 (c 1), .int .i64 (c 2), .int .i64 (c 3), .int .i64 (c 4), .int .i64 (c 5), .int .i64 (c 6), .int .i64 (c 7), .int .i64 (c 8), .int .i64 (c 9), .int .i64 (c 10), .int .i64 (c 11), .int .i64 (c 12), .int .i64 (c 13), .int .i64 (c 14), .int .i64 (c 15), .int .i64 (c 16), .int .i64 (c 17), .int .i64 (c 18), .int .i64 (c 19)] _ D5.out.y Try.underlying26 rfl (by kernel_rfl) ?_)
              | (refine wpl_new rfl rfl 26 rfl _ _ rfl #[.int .i64 (c 0), .int .i64 (c 1), .int .i64 (c 2), .int .i64 (c 3), .int .i64 (c 4), .int .i64 (c 5), .int .i64 (c 6), .int .i64 (c 7), .int .i64 (c 8), .int .i64 (c 9), .int .i64 (c 10), .int .i64 (c 11), .int .i64 (c 12), .int .i64 (c 13), .int .i64 (c 14), .int .i64 (c 15), .int .i64 (c 16), .int .i64 (c 17), .int .i64 (c 18), .int .i64 (c 19)] rfl rfl (by kernel_rfl) (cf_one c) ?_)
              | (refine wpl_load rfl 26 _ rfl wr.heap.size rfl _ #[.int .i64 (up c 18 (c 18 + 1) 0), .int .i64 (up c 18 (c 18 + 1) 1), .int .i64 (up c 18 (c 18 + 1) 2), .int .i64 (up c 18 (c 18 + 1) 3), .int .i64 (up c 18 (c 18 + 1) 4), .int .i64 (up c 18 (c 18 + 1) 5), .int .i64 (up c 18 (c 18 + 1) 6), .int .i64 (up c 18 (c 18 + 1) 7), .int .i64 (up c 18 (c 18 + 1) 8), .int .i64 (up c 18 (c 18 + 1) 9), .int .i64 (up c 18 (c 18 + 1) 10), .int .i64 (up c 18 (c 18 + 1) 11), .int .i64 (up c 18 (c 18 + 1) 12), .int .i64 (up c 18 (c 18 + 1) 13), .int .i64 (up c 18 (c 18 + 1) 14), .int .i64 (up c 18 (c 18 + 1) 15), .int .i64 (up c 18 (c 18 + 1) 16), .int .i64 (up c 18 (c 18 + 1) 17), .int .i64 (up c 18 (c 18 + 1) 18), .int .i64 (up c 18 (c 18 + 1) 19)] _ HNW.out Try.underlying26 rfl (by kernel_rfl) ?_)
              | (go_at_call 17; refine (HU.out _).mono ?_; rintro E w6 ⟨rfl, o6⟩; have O6 : Hid (Only none_ w4 w6) := (hO.out.alloc (.cells #[.int .i64 (up c 18 (c 18 + 1) 0), .int .i64 (up c 18 (c 18 + 1) 1), .int .i64 (up c 18 (c 18 + 1) 2), .int .i64 (up c 18 (c 18 + 1) 3), .int .i64 (up c 18 (c 18 + 1) 4), .int .i64 (up c 18 (c 18 + 1) 5), .int .i64 (up c 18 (c 18 + 1) 6), .int .i64 (up c 18 (c 18 + 1) 7), .int .i64 (up c 18 (c 18 + 1) 8), .int .i64 (up c 18 (c 18 + 1) 9), .int .i64 (up c 18 (c 18 + 1) 10), .int .i64 (up c 18 (c 18 + 1) 11), .int .i64 (up c 18 (c 18 + 1) 12), .int .i64 (up c 18 (c 18 + 1) 13), .int .i64 (up c 18 (c 18 + 1) 14), .int .i64 (up c 18 (c 18 + 1) 15), .int .i64 (up c 18 (c 18 + 1) 16), .int .i64 (up c 18 (c 18 + 1) 17), .int .i64 (up c 18 (c 18 + 1) 18), .int .i64 (up c 18 (c 18 + 1) 19)] 26)).trans o6; clear o6))
            go_roundw
            case rel => exact ⟨2 + 1, by omega, by go_num, O6.out⟩
            case measure => simp [intOf]
        · have hn3 : decide (2 ≤ n) = true := by simp [hn2]
          have hs3 : decide (c 19 < st) = true := by simpa using HSC.out
          go_wp2_with fail
          have D11 := Lib.hid (D5.out.keep (Only.refl none_ wr).drew)
          (refine wp_region_steady (fun w' => Cd w g h 23 26 c c w') 10 (by kernel_rfl) (by kernel_rfl) (D11.out) ?_; simp only [List.take_succ_cons, List.take_zero, List.drop_succ_cons, List.drop_zero])
          repeat (first
            | (refine sd_value (v := ?_) (by rfl) (fun w0 hS => ?_) ?_; rotate_left; (· (have q19 := Blk.cell_ (i := 19) (Cd.y hS) rfl; go_simp; try (with_reducible rfl))); try simp only [Act.put, List.setIfInBounds_toArray, List.set_cons_zero, List.set_cons_succ])
            | (refine sd_load (by rfl) 26 _ rfl h rfl _ #[.int .i64 (c 0), .int .i64 (c 1), .int .i64 (c 2), .int .i64 (c 3), .int .i64 (c 4), .int .i64 (c 5), .int .i64 (c 6), .int .i64 (c 7), .int .i64 (c 8), .int .i64 (c 9), .int .i64 (c 10), .int .i64 (c 11), .int .i64 (c 12), .int .i64 (c 13), .int .i64 (c 14), .int .i64 (c 15), .int .i64 (c 16), .int .i64 (c 17), .int .i64 (c 18), .int .i64 (c 19)] _ (fun w hS => Cd.y hS) Try.underlying26 rfl (by kernel_rfl) ?_; try simp only [Act.put, List.setIfInBounds_toArray, List.set_cons_zero, List.set_cons_succ])
            | (refine sd_skip (by rfl) ?_; try simp only [Act.put, List.setIfInBounds_toArray, List.set_cons_zero, List.set_cons_succ])
            | (refine sd_call (v := ?_) (f := 23) (args := ?_) (by rfl) (fun w0 hS => ?_) (fun w0 hS => ?_) ?_; rotate_left 2; (· (skip; go_simp; try (with_reducible rfl))); (· (refine (HST.out _).mono ?_; rintro E w9 ⟨rfl, o9⟩; refine ⟨?_, hS.keep o9⟩; rfl)); try simp only [Act.put, List.setIfInBounds_toArray, List.set_cons_zero, List.set_cons_succ]))
          refine sd_nil ?_
          intro w10 t10
          go_wp2_with fail
          go_ret
          exact ⟨rfl, t10.ho.below (by omega) (fun k hk => hk.elim)⟩
end Go.Proofs.Ythhfpjecgdedgaa
