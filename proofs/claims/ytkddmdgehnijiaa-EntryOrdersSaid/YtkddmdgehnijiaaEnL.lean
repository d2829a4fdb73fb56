/- Who keeps a site's certificates, by the document; layer 5's example. No statement of the seat is proved here. -/
import Derived.Test.YtkddmdgehnijiaaEnK
namespace Go.Proofs.Ytkddmdgehnijiaa
open Go.RowKit
set_option maxRecDepth 100000

theorem kpR_lt (s n r : Nat) : ∀ k, kpR s n r k < 2 ^ k
  | 0 => by simp [kpR]
  | k + 1 => by
    have := kpR_lt s n r k
    simp only [kpR]
    split <;> omega
theorem rf_keepers (site retain nodes : Int) (w : World) :
    Calls Try.prog 32 #[.int .i64 site, .int .i64 retain, .int .i64 nodes] w fun e w' => e = .returned (.int .i64 (enKeepers site retain nodes)) ∧ w = w' := by
  by_cases hok : kpOk site retain nodes
  · obtain ⟨h1, h2, h3, h4, h5, h6⟩ := hok
    obtain ⟨s, rfl⟩ := Int.eq_ofNat_of_zero_le h3
    obtain ⟨n, rfl⟩ := Int.eq_ofNat_of_zero_le (show 0 ≤ nodes by omega)
    obtain ⟨r, rfl⟩ := Int.eq_ofNat_of_zero_le (show 0 ≤ retain by omega)
    have d1 : decide ((n : Int) < 1) = false := by simp <;> omega
    have d2 : decide ((12 : Int) < (n : Int)) = false := by simp <;> omega
    have d3 : decide ((s : Int) < 0) = false := by simp <;> omega
    have d4 : decide (n ≤ s) = false := by simp <;> omega
    have d5 : decide ((r : Int) < 1) = false := by simp <;> omega
    have d6 : decide (n < r) = false := by simp <;> omega
    have HR : Hid (enKeepers (s : Int) (r : Int) (n : Int) = (kpR s n r n : Int)) := by
      rw [Hid, enKeepers, if_pos ⟨h1, h2, h3, h4, h5, h6⟩, ← kp_all n (by omega) s (by omega) r (by omega)]
      rfl
    go_enter Try.func32, Try.ntmps32
    go_wp2_with fail
    go_loop [7, 8, 9] (fun o b i => ∃ k v u : Nat, k ≤ n ∧ Hid (v = 2 ^ k) ∧ Hid (u = kpR s n r k) ∧ i = .int .i64 (k : Int) ∧ b = .int .i64 (v : Int) ∧ o = .int .i64 (u : Int)) (fun _ _ i => n - (intOf i).toNat)
    case atStart => exact ⟨0, 1, 0, by omega, rfl, rfl, rfl, rfl, rfl⟩
    case round =>
      obtain ⟨k, v, u, hk, hv, hu, rfl, rfl, rfl⟩ := hrel
      by_cases hlt : (k : Int) < n
      · have hvs : v ≤ 2048 := by
          have := Nat.pow_le_pow_right (show 0 < 2 by omega) (show k ≤ 11 by omega)
          rw [hv.out]
          omega
        have hus : u < v := by
          have := kpR_lt s n r k
          rw [hu.out, hv.out]
          exact this
        have hv2 : Hid (v * 2 = 2 ^ (k + 1)) := by rw [Hid, hv.out, Nat.pow_succ]
        have em : ((k : Int) + (n : Int) - (s : Int)) % (n : Int) = (((k + n - s) % n : Nat) : Int) := by
          rw [Int.natCast_emod]
          congr 1
          omega
        by_cases hb : ((k : Int) + (n : Int) - (s : Int)) % (n : Int) < (r : Int)
        · have hu2 : Hid (u + v = kpR s n r (k + 1)) := by
            rw [em] at hb
            rw [Hid, kpR, if_pos (by omega), hu.out, hv.out]
          clear em
          go_wp2_with fail
          go_round
          case rel => exact ⟨k + 1, v * 2, u + v, by omega, hv2, hu2, by go_num, by go_num, by go_num⟩
          case measure => simp [intOf]; omega
        · have hu2 : Hid (u = kpR s n r (k + 1)) := by
            rw [em] at hb
            rw [Hid, kpR, if_neg (by omega), hu.out]
          clear em
          go_wp2_with fail
          go_round
          case rel => exact ⟨k + 1, v * 2, u, by omega, hv2, hu2, by go_num, by go_num, by go_num⟩
          case measure => simp [intOf]; omega
      · obtain rfl : k = n := by omega
        go_wp2_with fail
        go_ret
        rw [HR.out, hu.out]
        exact ⟨rfl, rfl⟩
  · have HR : Hid (enKeepers site retain nodes = 0) := by rw [Hid, enKeepers, if_neg hok]
    have hall : nodes < 1 ∨ (1 ≤ nodes ∧ 12 < nodes) ∨ (1 ≤ nodes ∧ nodes ≤ 12 ∧ site < 0) ∨ (1 ≤ nodes ∧ nodes ≤ 12 ∧ 0 ≤ site ∧ nodes ≤ site) ∨ (1 ≤ nodes ∧ nodes ≤ 12 ∧ 0 ≤ site ∧ site < nodes ∧ retain < 1) ∨ (1 ≤ nodes ∧ nodes ≤ 12 ∧ 0 ≤ site ∧ site < nodes ∧ 1 ≤ retain ∧ nodes < retain) := by
      unfold kpOk at hok
      omega
    clear hok
    rcases hall with h1 | ⟨h1, h2⟩ | ⟨h1, h2, h3⟩ | ⟨h1, h2, h3, h4⟩ | ⟨h1, h2, h3, h4, h5⟩ | ⟨h1, h2, h3, h4, h5, h6⟩
    all_goals
      go_enter Try.func32, Try.ntmps32
      go_wp2_with fail
      go_ret
      rw [HR.out]
      exact ⟨rfl, rfl⟩

theorem en_speaks (w : World) : Calls Try.prog 10 #[] w fun e w' => e = .returned (.bool true) ∧ w = w' := by
  have HE : Hid (enKeepers 10 3 12 = 3073) := by rw [Hid]; decide +kernel
  go_enter Try.func10, Try.ntmps10
  go_wp2_with (go_at_call 31; refine (en_keepers 10 3 12 _).mono ?_; rintro e w' ⟨rfl, rfl⟩; rw [HE.out])
  go_ret
  exact ⟨rfl, rfl⟩
end Go.Proofs.Ytkddmdgehnijiaa
