/- What the small calls of package crc do: one move, products of registers, bytes 0, a sum's bytes. No statement of the seat is proved here. -/
import Derived.Test.YtbhdnhnkiibaaaaCrcX
import Derived.Test.YtbhdnhnkiibaaaaCrcR
namespace Go.Proofs.Ytbhdnhnkiibaaaa
open Go.RowKit
attribute [local go_sem ↓] Go.wp_at_zero Go.wp_at_succ

theorem low_bit (u : Nat) (hu : u < 4294967296) : bits .and .u32 (u : Int) 1 = ((u % 2 : Nat) : Int) := by
  have := u32_and_nat u 1 hu (by omega)
  rw [Nat.and_one_is_mod] at this
  exact this
theorem move_any (v : Nat) (hv : v < 4294967296) (w : World) :
    Calls Try.prog 119 #[.int .u32 (v : Int)] w fun e w' => e = .returned (.int .u32 (cst v : Nat)) ∧ w = w' := by
  have hb := low_bit v hv
  by_cases h : v % 2 = 1
  · have hq : (((v % 2 : Nat) : Int) == 0) = false := by rw [h]; rfl
    have hx := cst_odd hv h
    clear h
    go_enter Try.func119, Try.ntmps119
    go_wp2
    go_ret
    exact ⟨rfl, rfl⟩
  · have hq : (((v % 2 : Nat) : Int) == 0) = true := by rw [show v % 2 = 0 from by omega]; rfl
    have hx := cst_even h
    clear h
    go_enter Try.func119, Try.ntmps119
    go_wp2
    go_ret
    exact ⟨rfl, rfl⟩
theorem bit_at (b n : Nat) (hb : b < 4294967296) : bits .and .u32 ((b : Int) / 2 ^ n) 1 = ((b / 2 ^ n % 2 : Nat) : Int) := by
  have h : (b : Int) / 2 ^ n = ((b / 2 ^ n : Nat) : Int) := by push_cast; rfl
  rw [h]
  exact low_bit _ (Nat.lt_of_le_of_lt (Nat.div_le_self _ _) hb)
end Go.Proofs.Ytbhdnhnkiibaaaa
