/- What the document's own calls Value, Take, Flag, Text and Done give. No statement of the seat is proved here. -/
import Derived.Test.YthhfpjecgdedgaaRefT
import Derived.Test.YthhfpjecgdedgaaRefN
namespace Go.Proofs.Ythhfpjecgdedgaa
open Go.RowKit
set_option linter.all false
set_option maxRecDepth 100000
attribute [local go_sem ↓] Go.wp_at_zero Go.wp_at_succ

theorem leVal_drop (xs : List UInt8) (j : Nat) (hj : j < xs.length) : leVal (xs.drop j) = xs[j].toNat + 256 * leVal (xs.drop (j + 1)) := by
  rw [List.drop_eq_getElem_cons hj]; rfl
theorem leVal_drop_lt (xs : List UInt8) (j : Nat) (h8 : xs.length ≤ 8) : leVal (xs.drop j) < 18446744073709551616 := by
  have h1 := leVal_lt (xs.drop j)
  have h2 : 256 ^ (xs.drop j).length ≤ 256 ^ 8 := Nat.pow_le_pow_right (by omega) (by simp; omega)
  omega

set_option maxHeartbeats 400000 in
theorem ref_value (A : Option Addr) (L c : Nat) (xs : List UInt8) (S : Nat → Prop) (w : World) (h : Byt w S (.slice A L c) xs) (h8 : xs.length ≤ 8) :
    Calls Try.prog 56 #[.slice A L c] w fun e w' => e = .returned (.int .u64 (leVal xs : Int)) ∧ w = w' := by
  obtain ⟨A', c', he, _, _, _, hc⟩ := h
  injection he with e1 e2 e3
  subst e1 e2 e3
  have HC := Lib.hid hc
  clear hc
  go_enter Try.func56, Try.ntmps56
  go_wp2
  go_loop [3, 4] (fun v i => ∃ j : Nat, j ≤ xs.length ∧ i = .int .i64 ((j : Int) - 1) ∧ v = .int .u64 (leVal (xs.drop j) : Int)) (fun _ i => (intOf i + 1).toNat)
  case atStart => exact ⟨xs.length, Nat.le_refl _, rfl, by simp [leVal]⟩
  case round =>
    obtain ⟨j, hj, rfl, rfl⟩ := hrel
    by_cases h0 : 0 < j
    · obtain ⟨b, off, rfl, _, _, hcell⟩ := HC.out (by omega)
      obtain ⟨k, rfl⟩ : ∃ k, j = k + 1 := ⟨j - 1, by omega⟩
      have hk := hcell k (by omega)
      have hstep := leVal_drop xs k (by omega)
      have hlt := leVal_drop_lt xs k h8
      obtain ⟨z, hz⟩ : ∃ z, z = xs[k]'(by omega) := ⟨_, rfl⟩
      simp only [byt, ← hz] at hk hstep
      have hz8 := z.toNat_lt
      obtain ⟨y, hy⟩ : ∃ y, y = leVal (xs.drop (k + 1)) := ⟨_, rfl⟩
      rw [← hy] at hstep ⊢
      rw [hstep] at hlt
      have HS := Lib.hid hstep
      have e1 : (((k + 1 : Nat) : Int) - 1) = (k : Int) := by omega
      rw [e1]
      clear hstep hz hcell hy e1
      go_wp2
      go_round
      case rel => exact ⟨k, by omega, rfl, by rw [HS.out]; go_num⟩
      case measure => simp [intOf]
    · obtain rfl : j = 0 := by omega
      go_wp2
      go_ret
      exact ⟨rfl, rfl⟩

theorem rawR_left (err : Int) (r : List UInt8) (n : Int) : (rawR err r n).2.1 = r.drop (rawR err r n).2.2.length := by
  unfold rawR
  split
  · rfl
  · split
    · rename_i h
      simp only [List.length_take]
      rw [Nat.min_eq_left h.2]
    · rfl
theorem rawR_len (err : Int) (r : List UInt8) (n : Int) : (rawR err r n).2.2.length ≤ r.length := by
  unfold rawR
  split
  · simp
  · split
    · simp only [List.length_take]; omega
    · simp
theorem rawR_told (err : Int) (r : List UInt8) (n : Int) (m : Nat) (h : n ≤ m) : (rawR err r n).2.2.length ≤ m := by
  unfold rawR
  split
  · simp
  · split
    · simp only [List.length_take]; omega
    · simp
theorem numR_raw {err : Int} {r : List UInt8} {n : Int} (h : isW n = true) : numR err r n = ((rawR err r n).1, (rawR err r n).2.1, leVal (rawR err r n).2.2) := by
  have hr : 1 ≤ n ∧ n ≤ 8 := by simpa [isW] using h
  have h0 : ¬ n < 0 := by omega
  unfold numR rawR
  rw [if_pos h, if_neg h0]
  split <;> simp [leVal]
theorem drop_more {bs : List UInt8} {k d : Nat} : (bs.drop k).drop d = bs.drop (k + d) := by rw [List.drop_drop]

set_option maxHeartbeats 800000 in
theorem ref_take (A : Option Addr) (L c : Nat) (bs : List UInt8) (k : Nat) (err n : Int) (S : Nat → Prop) (w : World) (h : Byt w S (.slice A L c) bs) (hS : ∀ b, S b → b < w.heap.size) (hk : k ≤ L) (hL : L ≤ 100000) (hn : n ≤ 9223372036854775807) :
    Calls Try.prog 43 #[.agg #[.slice A L c, .int .i64 (k : Int), .int .i64 err], .int .i64 n] w fun E w' =>
      ∃ d : Nat, E = .returned (.tuple #[.agg #[.slice A L c, .int .i64 ((k + d : Nat) : Int), .int .i64 (numR err (bs.drop k) n).1], .int .u64 ((numR err (bs.drop k) n).2.2 : Int)]) ∧
        (numR err (bs.drop k) n).2.1 = bs.drop (k + d) ∧ k + d ≤ L ∧ Only none_ w w' := by
  have hLb : L = bs.length := by obtain ⟨_, _, he, _⟩ := h; injection he
  have H := Lib.hid h
  by_cases hw : isW n = true
  · have hr : 1 ≤ n ∧ n ≤ 8 := by simpa [isW] using hw
    have HR : Hid (numR err (bs.drop k) n = ((rawR err (bs.drop k) n).1, (rawR err (bs.drop k) n).2.1, leVal (rawR err (bs.drop k) n).2.2)) := numR_raw hw
    have hT8 := rawR_told err (bs.drop k) n 8 (by omega)
    have hTL := rawR_len err (bs.drop k) n
    have HLeft := Lib.hid (rawR_left err (bs.drop k) n)
    have HW := Lib.hid hw
    have hB1 := blk_two w 79 #[.slice A L c, .int .i64 (k : Int), .int .i64 err] #[.slice none 0 0, .int .i64 0, .int .i64 0]
    have HRaw := fun w' hw' => ref_raw A L c bs k err n S w' hw' hk hL hn
    obtain ⟨rr, hrr⟩ : ∃ rr, rr = rawR err (bs.drop k) n := ⟨_, rfl⟩
    rw [← hrr] at HR hT8 hTL HLeft HRaw
    simp only [List.length_drop, ← hLb] at hTL
    have HLb := Lib.hid hLb
    clear h hw hrr hLb
    go_enter Try.func43, Try.ntmps43
    go_wp2_with (first
      | (go_at_call 53; refine (refWidth_any _ _).mono ?_; rintro e w' ⟨rfl, rfl⟩; rw [HW.out])
      | (go_at_call 55; refine (HRaw _ (H.out.only (((Only.refl none_ w).alloc _).alloc _) (fun _ _ h => h))).mono ?_; rintro e w1 ⟨A1, L1, c1, rfl, b1, o1⟩; have B1 := Lib.hid b1; have O1 := Lib.hid o1; clear b1 o1))
    have B4 := Lib.hid ((hB1.1.only O1.out (fun h => h)).alloc (.cells #[.slice A L c, .int .i64 ((k : Int) + (rr.2.2.length : Int)), .int .i64 rr.1] 79))
    have B6 := Lib.hid (Blk.new w1 79 #[.slice A L c, .int .i64 ((k : Int) + (rr.2.2.length : Int)), .int .i64 rr.1])
    have BV := Lib.hid (B1.out.alloc (.cells #[.slice A L c, .int .i64 ((k : Int) + (rr.2.2.length : Int)), .int .i64 rr.1] 79))
    have O2 := Lib.hid ((((((Only.refl none_ w).alloc _).alloc _).trans O1.out).alloc (.cells #[.slice A L c, .int .i64 ((k : Int) + (rr.2.2.length : Int)), .int .i64 rr.1] 79)))
    have hne : w.heap.size + 1 < w1.heap.size := by have := O1.out.size; simp at this; omega
    generalize w1.alloc (.cells #[.slice A L c, .int .i64 ((k : Int) + (rr.2.2.length : Int)), .int .i64 rr.1] 79) = W2 at *
    generalize w1.heap.size = g6 at *
    obtain ⟨f0, f1, f2, g0, g1, g2⟩ := cur_facts B4.out
    obtain ⟨d0, d1, d2, _, _, _⟩ := cur_facts B6.out
    clear hB1 O1 B1
    go_region_held3 (fun w' => w'.cell? ⟨g6, 0, none⟩ = some (.slice A L c) ∧ w'.cell? ⟨g6, 1, none⟩ = some (.int .i64 ((k : Int) + (rr.2.2.length : Int))) ∧ w'.cell? ⟨g6, 2, none⟩ = some (.int .i64 rr.1))
      (first | exact ⟨d0, d1, d2⟩ | exact far_fill B6.out (Nat.ne_of_lt hne) _ _ _)
      (first | (go_at_call 56; refine (ref_value _ _ _ _ _ _ (by exact BV.out) hT8).mono ?_; rintro e w' ⟨rfl, rfl⟩))
    all_goals
      go_wp2
      refine bodyPost_ret (results_cell_tmp rfl _ _ (w.heap.size + 1) 79 _ _ rfl (Blk.drew (blk_fill B4.out _ _ _)) Try.underlying79 rfl (by kernel_rfl) _ rfl) rfl ?_
      rw [HR.out]
      exact ⟨rr.2.2.length, rfl, by rw [HLeft.out, drop_more], by omega, (only_fill O2.out (.inr (by omega)) _ _ _).drew⟩
  · have hwf : isW n = false := by simpa using hw
    have HR : Hid (numR err (bs.drop k) n = (first_ err 1, bs.drop k, 0)) := by simp only [Hid, numR, if_neg hw]
    have HW := Lib.hid hwf
    clear h hLb hw hwf
    have hB1 := (blk_two w 79 #[.slice A L c, .int .i64 (k : Int), .int .i64 err] #[.slice none 0 0, .int .i64 0, .int .i64 0]).1
    go_enter Try.func43, Try.ntmps43
    go_wp2_with (first
      | (go_at_call 53; refine (refWidth_any _ _).mono ?_; rintro e w' ⟨rfl, rfl⟩; rw [HW.out])
      | (go_at_call 54; refine (ref_fail _ _ _ _ _ _ _).mono ?_; rintro e w1 ⟨rfl, o1⟩; obtain ⟨f0, f1, f2, g0, g1, g2⟩ := cur_facts (hB1.only o1 (fun h => h))))
    refine bodyPost_ret (results_cell_tmp rfl _ _ (w.heap.size + 1) 79 _ _ rfl (blk_fill (hB1.only o1 (fun h => h)) _ _ _) Try.underlying79 rfl (by kernel_rfl) _ rfl) rfl ?_
    rw [HR.out]
    exact ⟨0, rfl, rfl, by omega, only_fill ((((Only.refl none_ w).alloc _).alloc _).trans o1) (.inr (by simp)) _ _ _⟩

theorem first_ne (err e : Int) (h : e ≠ 0) : first_ err e ≠ 0 := by unfold first_; split <;> simp_all

end Go.Proofs.Ythhfpjecgdedgaa
