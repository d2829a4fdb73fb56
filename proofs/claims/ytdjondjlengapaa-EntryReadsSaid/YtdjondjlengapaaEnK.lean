/- Who keeps a site's certificates: as plain numbers; what package entry's bit and Keepers do. No statement of the seat is proved here. -/
import Derived.Test.YtdjondjlengapaaChecked
import Derived.Test.YtdjondjlengapaaBase
import Derived.Laws.BitsAllLaws
namespace Go.Proofs.Ytdjondjlengapaa
open Go.RowKit
set_option maxRecDepth 100000

def kpP (s n : Nat) : Nat → Nat
  | 0 => 0
  | i + 1 => kpP s n i ||| 2 ^ ((s + i) % n)
def kpR (s n r : Nat) : Nat → Nat
  | 0 => 0
  | i + 1 => if (i + n - s) % n < r then kpR s n r i + 2 ^ i else kpR s n r i
theorem kp_all : ∀ n, n ≤ 12 → ∀ s, s < n → ∀ r, r ≤ n → kpP s n r = kpR s n r n := by decide +kernel
theorem kp_small : ∀ n, n ≤ 12 → ∀ s, s < n → ∀ r, r ≤ n → kpP s n r < 4096 := by decide +kernel
def kpOk (site retain nodes : Int) : Prop := 1 ≤ nodes ∧ nodes ≤ 12 ∧ 0 ≤ site ∧ site < nodes ∧ 1 ≤ retain ∧ retain ≤ nodes
instance (a b c : Int) : Decidable (kpOk a b c) := by unfold kpOk; infer_instance
def enKeepers (site retain nodes : Int) : Int := if kpOk site retain nodes then (kpP site.toNat nodes.toNat retain.toNat : Int) else 0

theorem i64_or_small (a b : Nat) (ha : a < 4096) (hb : b < 4096) : bits .or .i64 (a : Int) (b : Int) = ((a ||| b : Nat) : Int) := by
  have hx : a ||| b < 2 ^ 12 := Nat.or_lt_two_pow (by omega) (by omega)
  have e : ∀ c : Nat, c < 4096 → (BitVec.ofInt 64 (c : Int)).toNat = c := fun c hc => by
    rw [BitVec.ofInt_natCast, BitVec.toNat_ofNat]; exact Nat.mod_eq_of_lt (by omega)
  show IntKind.i64.wrap ((BitVec.ofInt 64 (a : Int) ||| BitVec.ofInt 64 (b : Int)).toNat : Int) = _
  rw [BitVec.toNat_or, e a ha, e b hb, IntKind.wrap_i64]
  omega
theorem i64_and_small (a b : Nat) (ha : a < 4096) (hb : b < 4096) : bits .and .i64 (a : Int) (b : Int) = ((a &&& b : Nat) : Int) := by
  have hx : a &&& b < 2 ^ 12 := Nat.and_lt_two_pow _ (by omega)
  have e : ∀ c : Nat, c < 4096 → (BitVec.ofInt 64 (c : Int)).toNat = c := fun c hc => by
    rw [BitVec.ofInt_natCast, BitVec.toNat_ofNat]; exact Nat.mod_eq_of_lt (by omega)
  show IntKind.i64.wrap ((BitVec.ofInt 64 (a : Int) &&& BitVec.ofInt 64 (b : Int)).toNat : Int) = _
  rw [BitVec.toNat_and, e a ha, e b hb, IntKind.wrap_i64]
  omega

theorem pow_small (m : Nat) (h : m < 12) : 2 ^ m < 4096 := by
  have : 2 ^ m < 2 ^ 12 := Nat.pow_lt_pow_right (by omega) h
  omega
theorem en_bit (m : Nat) (h : m < 12) (w : World) :
    Calls Try.prog 67 #[.int .i64 (m : Int)] w fun e w' => e = .returned (.int .i64 ((2 ^ m : Nat) : Int)) ∧ w = w' := by
  have hp := pow_small m h
  have h0 : (0 : Int) ≤ (m : Int) := by omega
  have h1 : (m : Int) ≤ 64 := by omega
  go_enter Try.func67, Try.ntmps67
  go_wp2_with fail
  go_ret
  have e : ((2 : Int) ^ m) = ((2 ^ m : Nat) : Int) := by push_cast; rfl
  rw [e]
  generalize 2 ^ m = v at hp
  rw [IntWalk.wrap64_in _ (by omega)]
  exact ⟨rfl, rfl⟩
theorem en_keepers (site retain nodes : Int) (w : World) :
    Calls Try.prog 40 #[.int .i64 site, .int .i64 retain, .int .i64 nodes] w fun e w' => e = .returned (.int .i64 (enKeepers site retain nodes)) ∧ w = w' := by
  by_cases hok : kpOk site retain nodes
  · obtain ⟨h1, h2, h3, h4, h5, h6⟩ := hok
    obtain ⟨s, rfl⟩ := Int.eq_ofNat_of_zero_le h3
    obtain ⟨n, rfl⟩ := Int.eq_ofNat_of_zero_le (show 0 ≤ nodes by omega)
    obtain ⟨r, rfl⟩ := Int.eq_ofNat_of_zero_le (show 0 ≤ retain by omega)
    have d1 : decide ((n : Int) < 1) = false := by simp <;> omega
    have d2 : decide ((12 : Int) < (n : Int)) = false := by simp <;> omega
    have d3 : decide ((s : Int) < 0) = false := by simp <;> omega
    have d4 : decide (n ≤ s) = false := by simp <;> omega
    have d5 : decide ((r : Int) < 1) = false := by simp <;> omega
    have d6 : decide (n < r) = false := by simp <;> omega
    have HR : Hid (enKeepers (s : Int) (r : Int) (n : Int) = (kpP s n r : Int)) := by
      rw [Hid, enKeepers, if_pos ⟨h1, h2, h3, h4, h5, h6⟩]
      rfl
    go_enter Try.func40, Try.ntmps40
    go_wp2_with fail
    go_loop [7, 8, 34] (fun b _ i => ∃ k : Nat, k ≤ r ∧ i = .int .i64 (k : Int) ∧ b = .int .i64 (kpP s n k : Int)) (fun _ _ i => r - (intOf i).toNat)
    case atStart => exact ⟨0, by omega, rfl, rfl⟩
    case round =>
      obtain ⟨k, hk, rfl, rfl⟩ := hrel
      by_cases hlt : (k : Int) < r
      · have em : ((s : Int) + (k : Int)) % (n : Int) = (((s + k) % n : Nat) : Int) := by push_cast; rfl
        have hm : (s + k) % n < 12 := by
          have := Nat.mod_lt (s + k) (show 0 < n by omega)
          omega
        have HB := en_bit ((s + k) % n) hm w
        rw [← em] at HB
        have hor := i64_or_small (kpP s n k) (2 ^ ((s + k) % n)) (kp_small n (by omega) s (by omega) k (by omega)) (pow_small _ hm)
        have HO : Hid (kpP s n k ||| 2 ^ ((s + k) % n) = kpP s n (k + 1)) := rfl
        rw [HO.out] at hor
        generalize 2 ^ ((s + k) % n) = v at hor HB
        have HB1 := Lib.hid HB
        clear HB em hm HO
        go_wp2_with (go_at_call 67; refine HB1.out.mono ?_; rintro e w' ⟨rfl, rfl⟩)
        go_round
        case rel => exact ⟨k + 1, by omega, by go_num, rfl⟩
        case measure => simp [intOf]; omega
      · obtain rfl : k = r := by omega
        go_wp2_with fail
        go_ret
        rw [HR.out]
        exact ⟨rfl, rfl⟩
  · have HR : Hid (enKeepers site retain nodes = 0) := by rw [Hid, enKeepers, if_neg hok]
    have hall : nodes < 1 ∨ (1 ≤ nodes ∧ 12 < nodes) ∨ (1 ≤ nodes ∧ nodes ≤ 12 ∧ site < 0) ∨ (1 ≤ nodes ∧ nodes ≤ 12 ∧ 0 ≤ site ∧ nodes ≤ site) ∨ (1 ≤ nodes ∧ nodes ≤ 12 ∧ 0 ≤ site ∧ site < nodes ∧ retain < 1) ∨ (1 ≤ nodes ∧ nodes ≤ 12 ∧ 0 ≤ site ∧ site < nodes ∧ 1 ≤ retain ∧ nodes < retain) := by
      unfold kpOk at hok
      omega
    clear hok
    rcases hall with h1 | ⟨h1, h2⟩ | ⟨h1, h2, h3⟩ | ⟨h1, h2, h3, h4⟩ | ⟨h1, h2, h3, h4, h5⟩ | ⟨h1, h2, h3, h4, h5, h6⟩
    all_goals
      go_enter Try.func40, Try.ntmps40
      go_wp2_with fail
      go_ret
      rw [HR.out]
      exact ⟨rfl, rfl⟩
end Go.Proofs.Ytdjondjlengapaa
