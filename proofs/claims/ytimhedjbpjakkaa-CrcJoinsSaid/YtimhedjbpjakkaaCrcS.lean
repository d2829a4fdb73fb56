/- The call of CrcSums answers yes, and changes nothing that was there, if the calls of a table do what is asked of them. The statement itself is proved in another text. -/
import Derived.Test.YtimhedjbpjakkaaCrcP
import Derived.Deep.Cut
import Derived.Deep.CutBlock
namespace Go.Proofs.Ytimhedjbpjakkaa
open Go.RowKit
attribute [local go_sem ↓] Go.wp_at_zero Go.wp_at_succ

/-- A place in a row of n: no less than 0, no more than n. -/
theorem clamp_cut (cut : Int) (n : Nat) : ∃ q : Nat, q ≤ n ∧ ∃ z : Int, (∀ ts t w, (Builtin.max_ ts t #[.int .i64 cut, .int .i64 0]).run Try.prog w = .ok (.int .i64 z) w) ∧ ∀ ts t w, (Builtin.min_ ts t #[.int .i64 z, .int .i64 (n : Int)]).run Try.prog w = .ok (.int .i64 (q : Int)) w := by
  have hmax : ∃ z : Int, 0 ≤ z ∧ (∀ ts t w, (Builtin.max_ ts t #[.int .i64 cut, .int .i64 0]).run Try.prog w = .ok (.int .i64 z) w) := by
    by_cases h : cut < 0
    · exact ⟨0, by omega, fun ts t w => by rw [run_max_int2]; simp [h]⟩
    · refine ⟨cut, by omega, fun ts t w => by rw [run_max_int2]; simp; omega⟩
  obtain ⟨z, hz1, hz3⟩ := hmax
  by_cases h : (n : Int) < z
  · exact ⟨n, Nat.le_refl _, z, hz3, fun ts t w => by rw [run_min_int2, if_pos h]⟩
  · exact ⟨z.toNat, by omega, z, hz3, fun ts t w => by rw [run_min_int2, if_neg h, show ((z.toNat : Nat) : Int) = z from by omega]⟩

section
variable {Tb : World → Nat → Prop} (C : TabC Tb)
include C
set_option maxRecDepth 100000 in
set_option maxHeartbeats 1600000 in
theorem sums_short (x : Value) (bs : List UInt8) (S : Nat → Prop) (W : World) (hx : Byt W S x bs) (hS : ∀ b, S b → b < W.heap.size) (hl : bs.length ≤ 400) (cut i : Int) (s : Nat) (hs : s < 4294967296) :
    Calls Try.prog 3 #[x, .int .i64 cut, .int .i64 i, .int .u32 (s : Int)] W fun e w' => e = .returned (.bool true) ∧ Below W.heap.size W w' := by
  have hv : ∃ A L c, L = bs.length ∧ x = .slice A L c := by obtain ⟨A, c, h, _⟩ := hx; exact ⟨A, _, c, rfl, h⟩
  obtain ⟨A, L, c, hL, rfl⟩ := hv
  obtain ⟨q, hq, z, hmx, hmn⟩ := clamp_cut cut L
  obtain ⟨i0, hi0, hz0, hz1, hz2⟩ := info_parts u8_info
  have HB := Lib.hid hx
  obtain ⟨A1, hsl1, hb1⟩ := byt_hi Try.underlying22 hi0 HB.out q hq (q : Int) rfl
  obtain ⟨A2, L2, c2, hsl2, hb2⟩ := byt_lo Try.underlying22 hi0 hz1 HB.out q hq (q : Int) rfl
  have HB1 := Lib.hid hb1
  have HB2 := Lib.hid hb2
  have hL4 : L ≤ 400 := by omega
  have hz := run_zero_tab
  have HT : Hid (bs.take q ++ bs.drop q = bs) := List.take_append_drop q bs
  have HJ : Hid (crcMore (crcSum (bs.take q)) (bs.drop q) = crcSum bs) := by rw [Hid, ← sum_append, HT.out]
  have hq1 := sum_lt (bs.take q)
  clear hx hl hi0 hz0 hz1 hz2 hL hb1 hb2
  go_enter Try.func3, Try.ntmps3
  go_wp2_with (first
    | (go_at_call 9; refine (speaks_any C _).mono ?_; rintro e W1 ⟨rfl, o1⟩))
  have P0 := Lib.hid (Pk.start C W1)
  have OB : Hid (Only none_ W (W1.alloc (.cells tabZero 38))) := o1.alloc _
  have hWg : Hid (W.heap.size ≤ W1.heap.size) := o1.size
  have FB := Lib.hid (byt_far HB.out hS OB.out hWg.out)
  have FB1 := Lib.hid (byt_far HB1.out hS OB.out hWg.out)
  have FB2 := Lib.hid (byt_far HB2.out hS OB.out hWg.out)
  clear HB HB1 HB2
  generalize W1.alloc (.cells tabZero 38) = W2 at *
  generalize W1.heap.size = g at *
  clear o1
  go_region_held3 (fun w' => Pk Tb W2 g w')
    (first | assumption | exact P0.out.drew C | exact Pk.alloc C (by assumption) _)
    (first
      | (go_at_call 10; refine (pk_row C (by assumption) i).mono ?_; rintro e w1 ⟨rfl, p1, _⟩)
      | (go_at_call 11; refine (refRow_any i _).mono ?_; rintro e w' ⟨rfl, rfl⟩)
      | (go_at_call_of 12 (1 : Nat); refine (pk_one C (by assumption) FB.out _ (by simp)).mono ?_; rintro e w1 ⟨rfl, p1, _⟩)
      | (go_at_call_of 12 (3 : Nat); refine (pk_three C (by assumption) FB1.out FB2.out _ (by simp) (by simp) (by simp)).mono ?_; rintro e w1 ⟨rfl, p1, _⟩; rw [HT.out])
      | (go_at_call 13; refine (refSum_any _ bs _ _ (Pk.byt (by assumption) FB.out)).mono ?_; rintro e w' ⟨rfl, rfl⟩))
  go_wp2_with fail
  go_region_held3 (fun w' => Pk Tb W2 g w')
    (first | assumption | exact Pk.drew C (by assumption) | exact Pk.alloc C (by assumption) _)
    (first
      | (go_at_call_of 14 L; refine (pk_more C (by assumption) FB.out s hs).mono ?_; rintro e w1 ⟨rfl, p1, _⟩)
      | (go_at_call 15; refine (refMore_any s hs _ bs _ _ (Pk.byt (by assumption) FB.out)).mono ?_; rintro e w' ⟨rfl, rfl⟩)
      | (go_at_call_of 12 (1 : Nat); refine (pk_one C (by assumption) FB1.out _ (by simp)).mono ?_; rintro e w1 ⟨rfl, p1, _⟩)
      | (go_at_call_of 14 L2; refine (pk_more C (by assumption) FB2.out _ hq1).mono ?_; rintro e w1 ⟨rfl, p1, _⟩; rw [HJ.out])
      | (go_at_call 13; refine (refSum_any _ bs _ _ (Pk.byt (by assumption) FB.out)).mono ?_; rintro e w' ⟨rfl, rfl⟩))
  go_wp2_with fail
  go_ret
  exact ⟨rfl, Pk.below (Tb := Tb) (g := g) (B := W2) (by assumption) OB.out hWg.out⟩
theorem sums_long (x : Value) (A : Option Addr) (n c : Nat) (W : World) (hx : x = .slice A n c) (hn : 400 < n) (cut i : Int) (s : Nat) :
    Calls Try.prog 3 #[x, .int .i64 cut, .int .i64 i, .int .u32 (s : Int)] W fun e w' => e = .returned (.bool true) ∧ Below W.heap.size W w' := by
  subst hx
  go_enter Try.func3, Try.ntmps3
  go_wp2_with fail
  refine (speaks_any C _).mono ?_
  rintro e W1 ⟨rfl, o1⟩
  go_wp2_with fail
  refine (speaks_any C _).mono ?_
  rintro e W3 ⟨rfl, o3⟩
  go_wp2
  go_ret
  exact ⟨rfl, (o1.trans o3).below (Nat.le_refl _) (fun k hk => hk.elim)⟩
end
end Go.Proofs.Ytimhedjbpjakkaa
