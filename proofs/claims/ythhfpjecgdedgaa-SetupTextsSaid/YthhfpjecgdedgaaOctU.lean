/- What Number of a reader of package octets does. No statement of the seat is proved here. -/
import Derived.Test.YthhfpjecgdedgaaOctE
namespace Go.Proofs.Ythhfpjecgdedgaa
open Go.RowKit
set_option linter.all false
/-- The number of bytes, the lowest first. -/
def leVal : List UInt8 → Nat
  | [] => 0
  | b :: r => b.toNat + 256 * leVal r
theorem leVal_lt : ∀ bs : List UInt8, leVal bs < 256 ^ bs.length
  | [] => by simp [leVal]
  | b :: r => by
    have h1 := leVal_lt r
    have h2 := b.toNat_lt
    simp only [leVal, List.length_cons, Nat.pow_succ]
    omega
theorem leVal_snoc : ∀ (bs : List UInt8) (b : UInt8), leVal (bs ++ [b]) = leVal bs + 256 ^ bs.length * b.toNat
  | [], b => by simp [leVal]
  | x :: r, b => by
    simp only [List.cons_append, leVal, leVal_snoc r b, List.length_cons, Nat.pow_succ]
    rw [Nat.mul_add, Nat.mul_comm (256 ^ r.length) 256, Nat.mul_assoc]
    omega

/-- A number asked for. -/
def numR (code : Int) (bs : List UInt8) (width : Int) : Int × List UInt8 × Nat :=
  if isW width = true then (if code = 0 ∧ width.toNat ≤ bs.length then (0, bs.drop width.toNat, leVal (bs.take width.toNat)) else (takeCode code bs width.toNat, bs, 0)) else (first_ code 1, bs, 0)

theorem or_step (v z k : Nat) (hk : k < 8) (hv : v < 256 ^ k) (hz : z < 256) :
    bits .or .u64 (v : Int) (IntKind.u64.wrap ((z : Int) * 2 ^ (8 * k))) = ((v + 256 ^ k * z : Nat) : Int) := by
  have e1 : (256 : Nat) ^ k = 2 ^ (8 * k) := by rw [Nat.pow_mul]
  rw [e1] at hv ⊢
  have h1 : 2 ^ (8 * k) * 256 ≤ 18446744073709551616 := by
    have : 2 ^ (8 * k) ≤ 2 ^ 56 := Nat.pow_le_pow_right (by omega) (by omega)
    omega
  have h2 : z * 2 ^ (8 * k) < 18446744073709551616 := by
    have : z * 2 ^ (8 * k) < 256 * 2 ^ (8 * k) := Nat.mul_lt_mul_of_pos_right hz (Nat.two_pow_pos _)
    rw [Nat.mul_comm 256] at this
    omega
  have e2 : ((z : Int) * 2 ^ (8 * k)) = ((z * 2 ^ (8 * k) : Nat) : Int) := by push_cast; rfl
  have e3 : IntKind.u64.wrap ((z * 2 ^ (8 * k) : Nat) : Int) = ((z * 2 ^ (8 * k) : Nat) : Int) := IntWalk.u64_in _ (by omega)
  rw [e2, e3, u64_or_nat _ _ (by omega) h2, Nat.or_comm, nat_join (8 * k) (z * 2 ^ (8 * k)) v (by simp) hv, Nat.mul_comm z, Nat.add_comm]
theorem le_take (xs : List UInt8) (k : Nat) (hk : k < xs.length) : leVal (xs.take (k + 1)) = leVal (xs.take k) + 256 ^ k * xs[k].toNat := by
  rw [List.take_succ_eq_append_getElem hk, leVal_snoc]
  congr 2
  rw [List.length_take, Nat.min_eq_left (by omega)]
theorem le_take_lt (xs : List UInt8) (k : Nat) (hk : k ≤ xs.length) : leVal (xs.take k) < 256 ^ k := by
  have := leVal_lt (xs.take k)
  rwa [List.length_take, Nat.min_eq_left hk] at this

set_option maxHeartbeats 400000 in
theorem reader_number (g : Nat) (S : Nat → Prop) (code : Int) (bs : List UInt8) (width : Int) (w : World) (h : Rd w g S code bs) (hm : bs.length ≤ 140737488355328) :
    Calls Try.prog 40 #[.pointer (some ⟨g, 0, none⟩), .int .i64 width] w fun e w' =>
      e = .returned (.int .u64 ((numR code bs width).2.2 : Int)) ∧ Rd w' g S (numR code bs width).1 (numR code bs width).2.1 ∧ Only (one g) w w' := by
  have H := Lib.hid h
  clear h
  by_cases hw : isW width = true
  · have hr : 1 ≤ width ∧ width ≤ 8 := by simpa [isW] using hw
    obtain ⟨m, rfl⟩ : ∃ m : Nat, width = m := ⟨width.toNat, by omega⟩
    obtain ⟨hm1, hm2⟩ : 1 ≤ m ∧ m ≤ 8 := by omega
    clear hr
    have HW := Lib.hid hw
    by_cases h1 : code = 0 ∧ m ≤ bs.length
    · obtain ⟨rfl, h1⟩ := h1
      have HR : Hid (numR 0 bs (m : Int) = (0, bs.drop m, leVal (bs.take m))) := by simp only [Hid, numR, hw, Int.toNat_natCast, h1, true_and, if_true]
      clear hw
      obtain ⟨xs, hxs⟩ : ∃ xs, xs = bs.take m := ⟨_, rfl⟩
      have hxl : Hid (xs.length = m) := by rw [hxs]; simp only [Hid, List.length_take]; omega
      rw [← hxs] at HR
      have HT := take_ok g S bs m w H.out h1 (by omega)
      rw [← hxs] at HT
      clear hxs
      go_enter Try.func40, Try.ntmps40
      go_wp2_with (first
        | (go_at_call 45; refine (isWidth_any _ _).mono ?_; rintro e w' ⟨rfl, rfl⟩; rw [HW.out])
        | (go_at_call 50; refine HT.mono ?_; rintro e w1 ⟨A, c, rfl, hb2, h2, o2⟩; have H2 := Lib.hid h2; clear h2))
      obtain ⟨A', c', he, _, _, _, hcs⟩ := hb2
      injection he with e1 e2 e3
      subst e1 e3
      obtain ⟨b, off, rfl, _, _, hc⟩ := hcs (by rw [hxl.out]; omega)
      have HC := Lib.hid hc
      clear hcs hc e2
      go_loop [7, 25] (fun v i => ∃ k : Nat, k ≤ m ∧ i = .int .i64 k ∧ v = .int .u64 (leVal (xs.take k))) (fun _ i => m - (intOf i).toNat)
      case atStart => exact ⟨0, by omega, rfl, by simp [leVal]⟩
      case round =>
        obtain ⟨k, hk, rfl, rfl⟩ := hrel
        by_cases hlt : k < m
        · have hz : w1.cell? ⟨b, off + k, none⟩ = some (.int .u8 ((xs[k]'(by rw [hxl.out]; exact hlt)).toNat : Int)) := HC.out k _
          obtain ⟨z, hzz⟩ : ∃ z, z = xs[k]'(by rw [hxl.out]; exact hlt) := ⟨_, rfl⟩
          rw [← hzz] at hz
          have hz8 := z.toNat_lt
          have HS : Hid (bits .or .u64 (leVal (xs.take k) : Int) (IntKind.u64.wrap ((z.toNat : Int) * 2 ^ (8 * k))) = (leVal (xs.take (k + 1)) : Int)) := by
            have h5 := le_take xs k (by rw [hxl.out]; exact hlt)
            rw [← hzz] at h5
            rw [Hid, h5]
            exact or_step _ _ k (by omega) (le_take_lt xs k (by rw [hxl.out]; exact hk)) hz8
          clear hzz
          go_wp2
          go_round
          case rel => exact ⟨k + 1, by omega, by go_num, by rw [HS.out]⟩
          case measure => simp [intOf]; omega
        · have HK : Hid (xs.take k = xs) := List.take_of_length_le (by rw [hxl.out]; omega)
          go_wp2
          go_ret
          rw [HR.out, HK.out]
          exact ⟨rfl, H2.out, o2⟩
    · have HR : Hid (numR code bs (m : Int) = (takeCode code bs m, bs, 0)) := by simp only [Hid, numR, hw, Int.toNat_natCast, h1, if_true, if_false]
      have h2 : code ≠ 0 ∨ bs.length < m := by
        by_cases hc : code = 0
        · exact .inr (by have : ¬ m ≤ bs.length := fun h => h1 ⟨hc, h⟩; omega)
        · exact .inl hc
      clear h1 hw
      have HC := Lib.hid h2
      clear h2
      go_enter Try.func40, Try.ntmps40
      go_wp2_with (first
        | (go_at_call 45; refine (isWidth_any _ _).mono ?_; rintro e w' ⟨rfl, rfl⟩; rw [HW.out])
        | (go_at_call 50; refine (take_no _ _ _ _ _ _ H.out HC.out (by omega)).mono ?_; rintro e w1 ⟨rfl, h2, o2⟩; have H2 := Lib.hid h2; clear h2))
      refine wp_loop_rounds 1 ?_
      rw [rounds_succ]
      go_wp2
      go_ret
      rw [HR.out]
      exact ⟨rfl, H2.out, o2⟩
  · have hw' : isW width = false := by simpa using hw
    have HR : Hid (numR code bs width = (first_ code 1, bs, 0)) := by simp [Hid, numR, hw']
    have HW := Lib.hid hw'
    clear hw hw'
    go_enter Try.func40, Try.ntmps40
    go_wp2_with (first
      | (go_at_call 45; refine (isWidth_any _ _).mono ?_; rintro e w' ⟨rfl, rfl⟩; rw [HW.out])
      | (go_at_call 46; refine (reader_fail _ _ _ _ _ _ H.out).mono ?_; rintro e w1 ⟨rfl, h2, o2⟩; have H2 := Lib.hid h2; clear h2))
    go_ret
    rw [HR.out]
    exact ⟨rfl, H2.out, o2⟩
end Go.Proofs.Ythhfpjecgdedgaa
