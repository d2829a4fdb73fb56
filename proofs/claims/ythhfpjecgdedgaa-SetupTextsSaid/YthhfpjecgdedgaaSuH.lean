/- The call of SetupTurned answers yes, and changes nothing that was there. The statement itself is proved in another text. -/
import Derived.Test.YthhfpjecgdedgaaSuG
import Derived.Test.YthhfpjecgdedgaaLif
namespace Go.Proofs.Ythhfpjecgdedgaa
open Go.RowKit
set_option maxRecDepth 100000
set_option linter.all false

/-- One number turned. -/
def up (c : Nat → Int) (i : Nat) (x : Int) : Nat → Int := fun j => if j = i then x else c j
theorem up_back (c : Nat → Int) (i : Nat) (x : Int) : up (up c i x) i (c i) = c := by
  funext j
  simp only [up]
  split
  · next h => rw [h]
  · rfl
theorem cf_set (c : Nat → Int) (i : Nat) (hi : i < 20) (x : Int) : (#[.int .i64 (c 0), .int .i64 (c 1), .int .i64 (c 2), .int .i64 (c 3), .int .i64 (c 4), .int .i64 (c 5), .int .i64 (c 6), .int .i64 (c 7), .int .i64 (c 8), .int .i64 (c 9), .int .i64 (c 10), .int .i64 (c 11), .int .i64 (c 12), .int .i64 (c 13), .int .i64 (c 14), .int .i64 (c 15), .int .i64 (c 16), .int .i64 (c 17), .int .i64 (c 18), .int .i64 (c 19)] : Array Value).setIfInBounds i (.int .i64 x) = #[.int .i64 (up c i x 0), .int .i64 (up c i x 1), .int .i64 (up c i x 2), .int .i64 (up c i x 3), .int .i64 (up c i x 4), .int .i64 (up c i x 5), .int .i64 (up c i x 6), .int .i64 (up c i x 7), .int .i64 (up c i x 8), .int .i64 (up c i x 9), .int .i64 (up c i x 10), .int .i64 (up c i x 11), .int .i64 (up c i x 12), .int .i64 (up c i x 13), .int .i64 (up c i x 14), .int .i64 (up c i x 15), .int .i64 (up c i x 16), .int .i64 (up c i x 17), .int .i64 (up c i x 18), .int .i64 (up c i x 19)] := by
  apply Array.ext_getElem?
  intro j
  by_cases hj : j < 20
  · rw [cf_at (up c i x) j hj]
    by_cases e : j = i
    · subst e
      rw [Array.getElem?_setIfInBounds_self_of_lt (by simpa using hj)]
      simp [up]
    · rw [Array.getElem?_setIfInBounds_ne (by omega), cf_at c j hj]
      simp [up, e]
  · rw [Array.getElem?_eq_none (by simp; omega), Array.getElem?_eq_none (by simp; omega)]
theorem bad_ahead (c : Nat → Int) (i : Nat) (x : Int) (j : Nat) (hj : j < i) (h20 : j < 20) : suBad (up c i x) j = suBad c j := by
  have H : ∀ m, m ≤ j → up c i x m = c m := fun m hm => by simp [up]; omega
  rcases (by omega : j = 0 ∨ j = 1 ∨ j = 2 ∨ j = 3 ∨ j = 4 ∨ j = 5 ∨ j = 6 ∨ j = 7 ∨ j = 8 ∨ j = 9 ∨ j = 10 ∨ j = 11 ∨ j = 12 ∨ j = 13 ∨ j = 14 ∨ j = 15 ∨ j = 16 ∨ j = 17 ∨ j = 18 ∨ j = 19) with rfl | rfl | rfl | rfl | rfl | rfl | rfl | rfl | rfl | rfl | rfl | rfl | rfl | rfl | rfl | rfl | rfl | rfl | rfl | rfl
  all_goals simp [suBad, suLo, suHi, H]
theorem Cd.set {B w : World} {g h : Nat} {s t : TypeId} {c d : Nat → Int} (b : Cd B g h s t c d w) (i : Nat) (hi : i < 20) (x : Int) (hg : g ≠ h) (hB : B.heap.size ≤ h) : Cd B g h s t c (up d i x) (w.setCell ⟨h, i, none⟩ (.int .i64 x)) := by
  refine ⟨b.x.far hg _, ?_, b.ho.setCell (.inr hB) _⟩
  have := b.y.set_ i (.int .i64 x)
  rwa [cf_set d i hi x] at this
theorem turned_at {c : Nat → Int} (hr : suRight c = true) (i : Nat) (hi : i < 20) (x : Int) : (suPlace (up c i x) = 0 ∧ suCode (up c i x) = 0) ∨ (suCode (up c i x) = 14 ∧ (i : Int) ≤ suPlace (up c i x) ∧ suPlace (up c i x) < 20) := by
  unfold suPlace suCode
  cases h : suAt (up c i x) with
  | none => exact .inl ⟨rfl, rfl⟩
  | some j =>
    obtain ⟨h1, h2, h3⟩ := suAt_lt h
    refine .inr ⟨rfl, ?_, by simp; omega⟩
    show (i : Int) ≤ (j : Int)
    by_cases hj : j < i
    · rw [bad_ahead c i x j hj h1] at h2
      have := suRight_of hr j h1
      simp [suBad] at h2
      omega
    · omega
theorem turned_ways {c : Nat → Int} (hr : suRight c = true) (i : Nat) (hi : i < 20) (x : Int) (p q : Int) (hp : suPlace (up c i x) = p) (hq : suCode (up c i x) = q) : (p = 0 ∧ q = 0) ∨ ∃ j : Nat, q = 14 ∧ p = (j : Int) ∧ i ≤ j ∧ j < 20 := by
  rcases turned_at hr i hi x with ⟨h1, h2⟩ | ⟨h1, h2, h3⟩
  · exact .inl ⟨by omega, by omega⟩
  · exact .inr ⟨p.toNat, by omega, by omega, by omega, by omega⟩

set_option maxHeartbeats 12800000 in
theorem turned_any (c : Nat → Int) (at_ : Nat) (hat : at_ < 256) (to : Int) (w : World) :
    Calls Try.prog 7 #[.agg #[.int .i64 (c 0), .int .i64 (c 1), .int .i64 (c 2), .int .i64 (c 3), .int .i64 (c 4), .int .i64 (c 5), .int .i64 (c 6), .int .i64 (c 7), .int .i64 (c 8), .int .i64 (c 9), .int .i64 (c 10), .int .i64 (c 11), .int .i64 (c 12), .int .i64 (c 13), .int .i64 (c 14), .int .i64 (c 15), .int .i64 (c 16), .int .i64 (c 17), .int .i64 (c 18), .int .i64 (c 19)], .int .u8 (at_ : Int), .int .i64 to] w fun E w' => E = .returned (.bool true) ∧ Below w.heap.size w w' := by
  have BX := Lib.hid (Cb.new w 23 c)
  have HR := Lib.hid (fun w => rf_right c w)
  cases hr : suRight c with
  | false =>
    rw [hr] at HR
    clear hr
    go_enter Try.func7, Try.ntmps7
    go_wp2_with (first
      | (refine wpl_load_if (by rfl) 23 _ rfl w.heap.size rfl _ #[.int .i64 (c 0), .int .i64 (c 1), .int .i64 (c 2), .int .i64 (c 3), .int .i64 (c 4), .int .i64 (c 5), .int .i64 (c 6), .int .i64 (c 7), .int .i64 (c 8), .int .i64 (c 9), .int .i64 (c 10), .int .i64 (c 11), .int .i64 (c 12), .int .i64 (c 13), .int .i64 (c 14), .int .i64 (c 15), .int .i64 (c 16), .int .i64 (c 17), .int .i64 (c 18), .int .i64 (c 19)] _ B1.out.x Try.underlying23 rfl (by kernel_rfl) ?_)
      | (go_at_call 8; have _t := BX; refine (su_speaks _).mono ?_; rintro E w1 ⟨rfl, o1⟩; have B1 := Lib.hid (BX.out.keep o1); clear o1 BX)
      | (go_at_call 26; refine (HR.out _).mono ?_; rintro E w2 ⟨rfl, o2⟩; have B2 := Lib.hid (B1.out.keep o2); clear o2)
      | (go_at_call 8; refine (su_speaks _).mono ?_; rintro E w3 ⟨rfl, o3⟩; have B3 := Lib.hid (B2.out.keep o3); clear o3))
    go_ret
    exact ⟨rfl, B3.out.ho.below (Nat.le_refl _) (fun k hk => hk.elim)⟩
  | true =>
    obtain ⟨i, hi⟩ : ∃ i, i = at_ % 20 := ⟨_, rfl⟩
    have hi20 : i < 20 := by omega
    have e0 : Hid (((at_ : Int)).tmod 20 = (i : Int)) := by rw [Hid, Int.tmod_eq_emod_of_nonneg (by omega)]; omega
    have e1 : ((at_ : Int)) % 20 = (i : Int) := by omega
    obtain ⟨p, hp⟩ : ∃ p, suPlace (up c i to) = p := ⟨_, rfl⟩
    obtain ⟨q, hq⟩ : ∃ q, suCode (up c i to) = q := ⟨_, rfl⟩
    have HW := Lib.hid (turned_ways hr i hi20 to p q hp hq)
    have H1 := Lib.hid (fun w => su_check (up c i to) w)
    rw [hp, hq] at H1
    have H2 := Lib.hid (fun w => su_check c w)
    rw [(suCode_iff c).1.2 hr, (suCode_iff c).2.1 hr] at H2
    rw [hr] at HR
    clear hr hp hq
    go_enter Try.func7, Try.ntmps7
    go_wp2_with (first
      | (refine wpl_load_if (by rfl) 23 _ rfl w.heap.size rfl _ #[.int .i64 (c 0), .int .i64 (c 1), .int .i64 (c 2), .int .i64 (c 3), .int .i64 (c 4), .int .i64 (c 5), .int .i64 (c 6), .int .i64 (c 7), .int .i64 (c 8), .int .i64 (c 9), .int .i64 (c 10), .int .i64 (c 11), .int .i64 (c 12), .int .i64 (c 13), .int .i64 (c 14), .int .i64 (c 15), .int .i64 (c 16), .int .i64 (c 17), .int .i64 (c 18), .int .i64 (c 19)] _ (by first | exact B2.out.x | exact B1.out.x) Try.underlying23 rfl (by kernel_rfl) ?_)
      | (refine wpl_new rfl rfl 22 rfl _ _ rfl #[.int .i64 (c 0), .int .i64 (c 1), .int .i64 (c 2), .int .i64 (c 3), .int .i64 (c 4), .int .i64 (c 5), .int .i64 (c 6), .int .i64 (c 7), .int .i64 (c 8), .int .i64 (c 9), .int .i64 (c 10), .int .i64 (c 11), .int .i64 (c 12), .int .i64 (c 13), .int .i64 (c 14), .int .i64 (c 15), .int .i64 (c 16), .int .i64 (c 17), .int .i64 (c 18), .int .i64 (c 19)] rfl rfl (by kernel_rfl) (cf_one c) ?_)
      | (go_at_call 8; refine (su_speaks _).mono ?_; rintro E w1 ⟨rfl, o1⟩; have B1 := Lib.hid (BX.out.keep o1); clear o1)
      | (go_at_call 26; refine (HR.out _).mono ?_; rintro E w2 ⟨rfl, o2⟩; have B2 := Lib.hid (B1.out.keep o2); clear o2)
      | (go_at_call 9; refine (lw_of c _).mono ?_; rintro E w3 ⟨rfl, o3⟩; have B3 := Lib.hid (B2.out.keep o3); clear o3)
      | (go_at_call 12; refine (su_list c _).mono ?_; rintro E w4 ⟨rfl, o4⟩
         have B4 := Lib.hid (B3.out.keep o4)
         have D4 : Hid (Cd w w.heap.size w4.heap.size 23 22 c c (w4.alloc (.cells #[.int .i64 (c 0), .int .i64 (c 1), .int .i64 (c 2), .int .i64 (c 3), .int .i64 (c 4), .int .i64 (c 5), .int .i64 (c 6), .int .i64 (c 7), .int .i64 (c 8), .int .i64 (c 9), .int .i64 (c 10), .int .i64 (c 11), .int .i64 (c 12), .int .i64 (c 13), .int .i64 (c 14), .int .i64 (c 15), .int .i64 (c 16), .int .i64 (c 17), .int .i64 (c 18), .int .i64 (c 19)] 22))) := ⟨B4.out.x.alloc _, Blk.new w4 _ _, B4.out.ho.alloc _⟩
         have x0 := D4.out.y.cell_ (cf_at c i hi20)
         have z0 := D4.out.y.frozen i
         clear o4))
    have hgh : Hid (w.heap.size ≠ w4.heap.size) := by have := B4.out.x.lt; intro e; omega
    have hwh : Hid (w.heap.size ≤ w4.heap.size) := B4.out.ho.size
    have e2 : IntKind.i64.wrap ((at_ : Int) % 20) = (i : Int) := by rw [e1]; exact IntWalk.i64_in _ (by omega)
    rw [e1]
    clear e0 e1 e2 B1 B2 B3 B4 BX HR hi hat
    generalize hW5 : w4.alloc _ = W5 at *
    clear hW5
    generalize w4.heap.size = h at *
    generalize hgg : w.heap.size = g at *
    obtain ⟨d, hd⟩ : ∃ d, d = up c i to := ⟨_, rfl⟩
    rw [← hd] at H1
    have D5 : Hid (Cd w g h 23 22 c d (W5.setCell ⟨h, i, none⟩ (.int .i64 to))) := by
      have := D4.out.set i hi20 to hgh.out (by have := hwh.out; omega)
      rw [← hd] at this
      exact this
    have hup : Hid (up d i (c i) = c) := by rw [hd]; exact up_back c i to
    obtain ⟨ci, hci⟩ : ∃ ci, c i = ci := ⟨_, rfl⟩
    rw [hci] at hup x0
    clear hd hci
    have tok : True := trivial
    have hi0 : (i : Int) < 20 := by omega
    rcases HW.out with ⟨rfl, rfl⟩ | ⟨j, rfl, rfl, hj1, hj2⟩
    all_goals
      go_wp2_with (first
        | (refine wpl_load rfl 22 _ rfl h rfl _ #[.int .i64 (d 0), .int .i64 (d 1), .int .i64 (d 2), .int .i64 (d 3), .int .i64 (d 4), .int .i64 (d 5), .int .i64 (d 6), .int .i64 (d 7), .int .i64 (d 8), .int .i64 (d 9), .int .i64 (d 10), .int .i64 (d 11), .int .i64 (d 12), .int .i64 (d 13), .int .i64 (d 14), .int .i64 (d 15), .int .i64 (d 16), .int .i64 (d 17), .int .i64 (d 18), .int .i64 (d 19)] _ D5.out.y Try.underlying22 rfl (by kernel_rfl) ?_)
        | (refine wpl_load rfl 22 _ rfl h rfl _ #[.int .i64 (c 0), .int .i64 (c 1), .int .i64 (c 2), .int .i64 (c 3), .int .i64 (c 4), .int .i64 (c 5), .int .i64 (c 6), .int .i64 (c 7), .int .i64 (c 8), .int .i64 (c 9), .int .i64 (c 10), .int .i64 (c 11), .int .i64 (c 12), .int .i64 (c 13), .int .i64 (c 14), .int .i64 (c 15), .int .i64 (c 16), .int .i64 (c 17), .int .i64 (c 18), .int .i64 (c 19)] _ D8.out.y Try.underlying22 rfl (by kernel_rfl) ?_)
        | (go_at_call 13; have _t := z0; refine (su_of d _).mono ?_; rintro E w6 ⟨rfl, o6⟩; have D6 := Lib.hid (D5.out.keep o6); clear o6 z0)
        | (go_at_call 10; have _t := tok; refine (H1.out _).mono ?_; rintro E w7 ⟨rfl, o7⟩; have D7 := Lib.hid (D6.out.keep o7); clear o7
           have z7 := D7.out.y.frozen i
           have x7 := D7.out.y.cell_ (cf_at d i hi20)
           have D8 : Hid (Cd w g h 23 22 c c (w7.setCell ⟨h, i, none⟩ (.int .i64 ci))) := by
             have := D7.out.set i hi20 ci hgh.out (by have := hwh.out; omega)
             rw [hup.out] at this
             exact this
           clear tok)
        | (go_at_call 13; refine (su_of c _).mono ?_; rintro E w8 ⟨rfl, o8⟩; have D9 := Lib.hid (D8.out.keep o8); clear o8)
        | (go_at_call 10; refine (H2.out _).mono ?_; rintro E w9 ⟨rfl, o9⟩; have D10 := Lib.hid (D9.out.keep o9); clear o9))
      have D11 := Lib.hid (D10.out.keep (Only.refl none_ w9).drew)
      (refine wp_region_steady (fun w' => Cd w g h 23 22 c c w') 14 (by kernel_rfl) (by kernel_rfl) (D11.out) ?_; simp only [List.take_succ_cons, List.take_zero, List.drop_succ_cons, List.drop_zero])
      repeat (first
        | (refine sd_value (v := ?_) (by rfl) (fun w0 hS => ?_) ?_; rotate_left; (· (have n2 := eq_cfg c w0; go_simp; try (with_reducible rfl))); try simp only [Act.put, List.setIfInBounds_toArray, List.set_cons_zero, List.set_cons_succ])
        | (refine sd_load (by rfl) 23 _ rfl g rfl _ #[.int .i64 (c 0), .int .i64 (c 1), .int .i64 (c 2), .int .i64 (c 3), .int .i64 (c 4), .int .i64 (c 5), .int .i64 (c 6), .int .i64 (c 7), .int .i64 (c 8), .int .i64 (c 9), .int .i64 (c 10), .int .i64 (c 11), .int .i64 (c 12), .int .i64 (c 13), .int .i64 (c 14), .int .i64 (c 15), .int .i64 (c 16), .int .i64 (c 17), .int .i64 (c 18), .int .i64 (c 19)] _ (fun w hS => Cd.x hS) Try.underlying23 rfl (by kernel_rfl) ?_; try simp only [Act.put, List.setIfInBounds_toArray, List.set_cons_zero, List.set_cons_succ])
        | (refine sd_load (by rfl) 22 _ rfl h rfl _ #[.int .i64 (c 0), .int .i64 (c 1), .int .i64 (c 2), .int .i64 (c 3), .int .i64 (c 4), .int .i64 (c 5), .int .i64 (c 6), .int .i64 (c 7), .int .i64 (c 8), .int .i64 (c 9), .int .i64 (c 10), .int .i64 (c 11), .int .i64 (c 12), .int .i64 (c 13), .int .i64 (c 14), .int .i64 (c 15), .int .i64 (c 16), .int .i64 (c 17), .int .i64 (c 18), .int .i64 (c 19)] _ (fun w hS => Cd.y hS) Try.underlying22 rfl (by kernel_rfl) ?_; try simp only [Act.put, List.setIfInBounds_toArray, List.set_cons_zero, List.set_cons_succ])
        | (refine sd_skip (by rfl) ?_; try simp only [Act.put, List.setIfInBounds_toArray, List.set_cons_zero, List.set_cons_succ])
        | (refine sd_call (v := ?_) (f := 13) (args := ?_) (by rfl) (fun w0 hS => ?_) (fun w0 hS => ?_) ?_; rotate_left 2; (· (skip; go_simp; try (with_reducible rfl))); (· (refine (su_of c _).mono ?_; rintro E w9 ⟨rfl, o9⟩; refine ⟨?_, hS.keep o9⟩; rfl)); try simp only [Act.put, List.setIfInBounds_toArray, List.set_cons_zero, List.set_cons_succ])
        | (refine sd_call (v := ?_) (f := 9) (args := ?_) (by rfl) (fun w0 hS => ?_) (fun w0 hS => ?_) ?_; rotate_left 2; (· (skip; go_simp; try (with_reducible rfl))); (· (refine (lw_of c _).mono ?_; rintro E w9 ⟨rfl, o9⟩; refine ⟨?_, hS.keep o9⟩; rfl)); try simp only [Act.put, List.setIfInBounds_toArray, List.set_cons_zero, List.set_cons_succ]))
      refine sd_nil ?_
      intro w10 t10
      go_wp2_with fail
      go_ret
      exact ⟨rfl, t10.ho.below (by omega) (fun k hk => hk.elim)⟩
end Go.Proofs.Ythhfpjecgdedgaa
