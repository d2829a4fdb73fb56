/- What the small calls of package crc do: one move, products of registers, bytes 0, a sum's bytes. No statement of the seat is proved here. -/
import Derived.Test.YtimhedjbpjakkaaCrcX
import Derived.Test.YtimhedjbpjakkaaCrcR
namespace Go.Proofs.Ytimhedjbpjakkaa
open Go.RowKit
attribute [local go_sem ↓] Go.wp_at_zero Go.wp_at_succ

theorem low_bit (u : Nat) (hu : u < 4294967296) : bits .and .u32 (u : Int) 1 = ((u % 2 : Nat) : Int) := by
  have := u32_and_nat u 1 hu (by omega)
  rw [Nat.and_one_is_mod] at this
  exact this
theorem move_any (v : Nat) (hv : v < 4294967296) (w : World) :
    Calls Try.prog 34 #[.int .u32 (v : Int)] w fun e w' => e = .returned (.int .u32 (cst v : Nat)) ∧ w = w' := by
  have hb := low_bit v hv
  by_cases h : v % 2 = 1
  · have hq : (((v % 2 : Nat) : Int) == 0) = false := by rw [h]; rfl
    have hx := cst_odd hv h
    clear h
    go_enter Try.func34, Try.ntmps34
    go_wp2
    go_ret
    exact ⟨rfl, rfl⟩
  · have hq : (((v % 2 : Nat) : Int) == 0) = true := by rw [show v % 2 = 0 from by omega]; rfl
    have hx := cst_even h
    clear h
    go_enter Try.func34, Try.ntmps34
    go_wp2
    go_ret
    exact ⟨rfl, rfl⟩
theorem bit_at (b n : Nat) (hb : b < 4294967296) : bits .and .u32 ((b : Int) / 2 ^ n) 1 = ((b / 2 ^ n % 2 : Nat) : Int) := by
  have h : (b : Int) / 2 ^ n = ((b / 2 ^ n : Nat) : Int) := by push_cast; rfl
  rw [h]
  exact low_bit _ (Nat.lt_of_le_of_lt (Nat.div_le_self _ _) hb)
theorem times_any (a b : Nat) (ha : a < 4294967296) (hb : b < 4294967296) (w : World) :
    Calls Try.prog 31 #[.int .u32 (a : Int), .int .u32 (b : Int)] w fun e w' => e = .returned (.int .u32 (mulN a b 32 : Nat)) ∧ w = w' := by
  go_enter Try.func31, Try.ntmps31
  go_wp2
  go_loop [0, 5, 7] (fun x p k => ∃ j : Nat, j ≤ 32 ∧ k = .int .i64 j ∧ x = .int .u32 (cstN j a : Nat) ∧ p = .int .u32 (mulN a b j : Nat)) (fun _ _ k => 32 - (intOf k).toNat)
  case atStart => exact ⟨0, by omega, rfl, rfl, rfl⟩
  case round =>
    obtain ⟨j, hj, rfl, rfl, rfl⟩ := hrel
    by_cases hlt : j < 32
    · have hm := move_any (cstN j a) (cstN_lt j ha)
      rw [← cstN_next] at hm
      have hxo := u32_xor_nat (mulN a b j) (cstN j a) (mulN_lt a b ha j) (cstN_lt j ha)
      by_cases hbt : b.testBit (31 - j) = true
      · have ht : (bits .and .u32 ((b : Int) / 2 ^ (31 - j)) 1 == 1) = true := by
          rw [bit_at b _ hb]
          rw [Nat.testBit_eq_decide_div_mod_eq] at hbt
          simp only [decide_eq_true_eq] at hbt
          rw [hbt]; rfl
        have HN : Hid (mulN a b (j + 1) = mulN a b j ^^^ cstN j a) := by rw [Hid, mulN, if_pos hbt]
        clear hbt
        go_wp2_with (go_at_call 34; refine (hm _).mono ?_; rintro e w' ⟨rfl, rfl⟩)
        go_round
        case rel => exact ⟨j + 1, by omega, by go_num, rfl, by rw [HN.out]⟩
        case measure => simp [intOf]; omega
      · have ht : (bits .and .u32 ((b : Int) / 2 ^ (31 - j)) 1 == 1) = false := by
          rw [bit_at b _ hb]
          rw [Nat.testBit_eq_decide_div_mod_eq] at hbt
          simp only [decide_eq_true_eq] at hbt
          rw [show b / 2 ^ (31 - j) % 2 = 0 from by omega]; rfl
        have HN : Hid (mulN a b (j + 1) = mulN a b j) := by rw [Hid, mulN, if_neg hbt, Nat.xor_zero]
        clear hbt
        go_wp2_with (go_at_call 34; refine (hm _).mono ?_; rintro e w' ⟨rfl, rfl⟩)
        go_round
        case rel => exact ⟨j + 1, by omega, by go_num, rfl, by rw [HN.out]⟩
        case measure => simp [intOf]; omega
    · obtain rfl : j = 32 := by omega
      go_wp2
      go_ret
      exact ⟨rfl, rfl⟩
theorem zeros_odd (m j : Nat) (h : j % 2 = 1) (u : Nat) : cstN ((m + m) * ((j : Int) / 2).toNat) (cstN m u) = cstN (m * ((j : Nat) : Int).toNat) u := by
  rw [← cstN_add]
  congr 1
  obtain ⟨q, rfl⟩ : ∃ q, j = 2 * q + 1 := ⟨j / 2, by omega⟩
  rw [show (((2 * q + 1 : Nat) : Int) / 2).toNat = q from by omega, show (((2 * q + 1 : Nat) : Int)).toNat = 2 * q + 1 from rfl, Nat.mul_add, Nat.mul_one, Nat.add_mul, Nat.mul_left_comm, Nat.two_mul]
  omega
theorem zeros_even (m j : Nat) (h : ¬ j % 2 = 1) (u : Nat) : cstN ((m + m) * ((j : Int) / 2).toNat) u = cstN (m * ((j : Nat) : Int).toNat) u := by
  congr 1
  obtain ⟨q, rfl⟩ : ∃ q, j = 2 * q := ⟨j / 2, by omega⟩
  rw [show (((2 * q : Nat) : Int) / 2).toNat = q from by omega, show (((2 * q : Nat) : Int)).toNat = 2 * q from rfl, Nat.add_mul, Nat.mul_left_comm, Nat.two_mul]
theorem zeros_any (v : Nat) (hv : v < 4294967296) (n : Int) (hn : n ≤ 9223372036854775807) (w : World) :
    Calls Try.prog 25 #[.int .u32 (v : Int), .int .i64 n] w fun e w' => e = .returned (.int .u32 (cstN (8 * n.toNat) v : Nat)) ∧ w = w' := by
  go_enter Try.func25, Try.ntmps25
  go_wp2
  go_loop [0, 5, 6] (fun x p k => ∃ (l : Int) (u m s : Nat), l ≤ 9223372036854775807 ∧ k = .int .i64 l ∧ u < 4294967296 ∧ x = .int .u32 (u : Nat) ∧ p = .int .u32 (s : Nat) ∧ s = cstN m 2147483648 ∧ cstN (m * l.toNat) u = cstN (8 * n.toNat) v) (fun _ _ k => (intOf k).toNat)
  case atStart => exact ⟨n, v, 8, 8388608, hn, rfl, hv, rfl, rfl, moves_eight.symm, rfl⟩
  case round =>
    obtain ⟨l, u, m, s, hl, rfl, hu, rfl, rfl, hs, hr⟩ := hrel
    have hsl : s < 4294967296 := by rw [hs]; exact cstN_lt m (by omega)
    have HS := Lib.hid hs
    have HR := Lib.hid hr
    have h2 : Hid (mulN s s 32 = cstN (m + m) 2147483648) := by rw [hs]; exact moves_twice m
    have h1 : Hid (mulN u s 32 = cstN m u) := by rw [hs]; exact mul_moves u hu m
    clear hs hr
    by_cases hp : 0 < l
    · obtain ⟨j, rfl⟩ : ∃ j : Nat, l = j := ⟨l.toNat, by omega⟩
      by_cases ho : j % 2 = 1
      · have ht : ((j : Int) % 2 == 1) = true := by have : (j : Int) % 2 = 1 := by omega
                                                    simp [this]
        go_wp2_with (go_at_call 31; refine (times_any _ _ (by assumption) (by assumption) _).mono ?_; rintro e w' ⟨rfl, rfl⟩)
        go_round
        case rel => exact ⟨_, mulN u s 32, m + m, mulN s s 32, by omega, rfl, mulN_lt u s hu 32, rfl, rfl, h2.out, by rw [h1.out, ← HR.out, zeros_odd m j ho]⟩
        case measure => simp [intOf]; omega
      · have ht : ((j : Int) % 2 == 1) = false := by have : (j : Int) % 2 = 0 := by omega
                                                     simp [this]
        go_wp2_with (go_at_call 31; refine (times_any _ _ (by assumption) (by assumption) _).mono ?_; rintro e w' ⟨rfl, rfl⟩)
        go_round
        case rel => exact ⟨_, u, m + m, mulN s s 32, by omega, rfl, hu, rfl, rfl, h2.out, by rw [← HR.out, zeros_even m j ho]⟩
        case measure => simp [intOf]; omega
    · have hl0 : l.toNat = 0 := by omega
      go_wp2
      go_ret
      have := HR.out
      rw [hl0] at this
      exact ⟨by rw [← this]; rfl, rfl⟩
end Go.Proofs.Ytimhedjbpjakkaa
