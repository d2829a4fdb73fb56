/- Texts of mine, one behind the other: EnK, EnS, EnL, EnB, EnO. No statement of the seat is proved here. -/
import Derived.Test.YtniacolkjdmflaaChecked
import Derived.Test.YtniacolkjdmflaaPg1
import Derived.Laws.BitsAllLaws
import Derived.Test.YtniacolkjdmflaaPg9
import Derived.Test.YtniacolkjdmflaaPg15
import Derived.Test.YtniacolkjdmflaaPg10
section
namespace Go.Proofs.Ytniacolkjdmflaa
open Go.RowKit
set_option maxRecDepth 100000

def kpP (s n : Nat) : Nat → Nat
  | 0 => 0
  | i + 1 => kpP s n i ||| 2 ^ ((s + i) % n)
def kpR (s n r : Nat) : Nat → Nat
  | 0 => 0
  | i + 1 => if (i + n - s) % n < r then kpR s n r i + 2 ^ i else kpR s n r i
theorem kp_all : ∀ n, n ≤ 12 → ∀ s, s < n → ∀ r, r ≤ n → kpP s n r = kpR s n r n := by decide +kernel
theorem kp_small : ∀ n, n ≤ 12 → ∀ s, s < n → ∀ r, r ≤ n → kpP s n r < 4096 := by decide +kernel
def kpOk (site retain nodes : Int) : Prop := 1 ≤ nodes ∧ nodes ≤ 12 ∧ 0 ≤ site ∧ site < nodes ∧ 1 ≤ retain ∧ retain ≤ nodes
instance (a b c : Int) : Decidable (kpOk a b c) := by unfold kpOk; infer_instance
def enKeepers (site retain nodes : Int) : Int := if kpOk site retain nodes then (kpP site.toNat nodes.toNat retain.toNat : Int) else 0

theorem i64_or_small (a b : Nat) (ha : a < 4096) (hb : b < 4096) : bits .or .i64 (a : Int) (b : Int) = ((a ||| b : Nat) : Int) := by
  have hx : a ||| b < 2 ^ 12 := Nat.or_lt_two_pow (by omega) (by omega)
  have e : ∀ c : Nat, c < 4096 → (BitVec.ofInt 64 (c : Int)).toNat = c := fun c hc => by
    rw [BitVec.ofInt_natCast, BitVec.toNat_ofNat]; exact Nat.mod_eq_of_lt (by omega)
  show IntKind.i64.wrap ((BitVec.ofInt 64 (a : Int) ||| BitVec.ofInt 64 (b : Int)).toNat : Int) = _
  rw [BitVec.toNat_or, e a ha, e b hb, IntKind.wrap_i64]
  omega
theorem i64_and_small (a b : Nat) (ha : a < 4096) (hb : b < 4096) : bits .and .i64 (a : Int) (b : Int) = ((a &&& b : Nat) : Int) := by
  have hx : a &&& b < 2 ^ 12 := Nat.and_lt_two_pow _ (by omega)
  have e : ∀ c : Nat, c < 4096 → (BitVec.ofInt 64 (c : Int)).toNat = c := fun c hc => by
    rw [BitVec.ofInt_natCast, BitVec.toNat_ofNat]; exact Nat.mod_eq_of_lt (by omega)
  show IntKind.i64.wrap ((BitVec.ofInt 64 (a : Int) &&& BitVec.ofInt 64 (b : Int)).toNat : Int) = _
  rw [BitVec.toNat_and, e a ha, e b hb, IntKind.wrap_i64]
  omega

theorem pow_small (m : Nat) (h : m < 12) : 2 ^ m < 4096 := by
  have : 2 ^ m < 2 ^ 12 := Nat.pow_lt_pow_right (by omega) h
  omega
theorem en_bit (m : Nat) (h : m < 12) (w : World) :
    Calls Try.prog 82 #[.int .i64 (m : Int)] w fun e w' => e = .returned (.int .i64 ((2 ^ m : Nat) : Int)) ∧ w = w' := by
  have hp := pow_small m h
  have h0 : (0 : Int) ≤ (m : Int) := by omega
  have h1 : (m : Int) ≤ 64 := by omega
  go_enter Try.func82, Try.ntmps82
  go_wp2_with fail
  go_ret
  have e : ((2 : Int) ^ m) = ((2 ^ m : Nat) : Int) := by push_cast; rfl
  rw [e]
  generalize 2 ^ m = v at hp
  rw [IntWalk.wrap64_in _ (by omega)]
  exact ⟨rfl, rfl⟩
end Go.Proofs.Ytniacolkjdmflaa
end
section
namespace Go.Proofs.Ytniacolkjdmflaa
open Go.RowKit
set_option maxRecDepth 100000

end Go.Proofs.Ytniacolkjdmflaa
end
section
namespace Go.Proofs.Ytniacolkjdmflaa
open Go.RowKit
set_option maxRecDepth 100000

theorem kpR_lt (s n r : Nat) : ∀ k, kpR s n r k < 2 ^ k
  | 0 => by simp [kpR]
  | k + 1 => by
    have := kpR_lt s n r k
    simp only [kpR]
    split <;> omega
end Go.Proofs.Ytniacolkjdmflaa
end
section
namespace Go.Proofs.Ytniacolkjdmflaa
open Go.RowKit
set_option maxRecDepth 100000

theorem en_stamps (e : En) (w : World) :
    Calls Try.prog 109 #[.agg #[.string e.k, .string e.v, .bool e.d, .int .i64 e.s.c, .int .i64 e.s.s, .int .i64 e.a.c, .int .i64 e.a.s, .int .i64 e.p, .int .i64 e.g]] w fun E w' => E = .returned (.agg #[.int .i64 e.s.c, .int .i64 e.s.s, .int .i64 e.a.c, .int .i64 e.a.s]) ∧ Only none_ w w' := by
  have O := Lib.hid (((Only.refl none_ w).alloc (.cells #[.string e.k, .string e.v, .bool e.d, .int .i64 e.s.c, .int .i64 e.s.s, .int .i64 e.a.c, .int .i64 e.a.s, .int .i64 e.p, .int .i64 e.g] 51)).alloc (.cells #[.int .i64 e.s.c, .int .i64 e.s.s, .int .i64 e.a.c, .int .i64 e.a.s] 176))
  go_enter Try.func109, Try.ntmps109
  go_wp2_with fail
  exact bodyPost_ret (v := .agg #[.int .i64 e.s.c, .int .i64 e.s.s, .int .i64 e.a.c, .int .i64 e.a.s]) (by simp [results, Try.results109, go_sem]) rfl ⟨rfl, O.out⟩

theorem en_isCert (e : En) (w : World) :
    Calls Try.prog 80 #[.agg #[.string e.k, .string e.v, .bool e.d, .int .i64 e.s.c, .int .i64 e.s.s, .int .i64 e.a.c, .int .i64 e.a.s, .int .i64 e.p, .int .i64 e.g]] w fun E w' => E = .returned (.bool (enCert e)) ∧ Only none_ w w' := by
  have O := Lib.hid ((Only.refl none_ w).alloc (.cells #[.string e.k, .string e.v, .bool e.d, .int .i64 e.s.c, .int .i64 e.s.s, .int .i64 e.a.c, .int .i64 e.a.s, .int .i64 e.p, .int .i64 e.g] 51))
  have H : Hid (enCert e = (decide (1 ≤ e.p) && decide (e.p ≤ 4095) && decide (0 ≤ e.g) && decide (e.g ≤ 2147483647))) := rfl
  by_cases h1 : 1 ≤ e.p
  · by_cases h2 : e.p ≤ 4095
    · by_cases h3 : 0 ≤ e.g
      · have H2 : Hid (enCert e = decide (e.g ≤ 2147483647)) := by rw [Hid, H.out]; simp [h1, h2, h3]
        go_enter Try.func80, Try.ntmps80
        go_wp2
        go_ret
        rw [H2.out]
        exact ⟨rfl, O.out⟩
      · have H2 : Hid (enCert e = false) := by rw [Hid, H.out]; simp [h1, h2, h3]
        go_enter Try.func80, Try.ntmps80
        go_wp2
        go_ret
        rw [H2.out]
        exact ⟨rfl, O.out⟩
    · have H2 : Hid (enCert e = false) := by rw [Hid, H.out]; simp [h1, h2]
      go_enter Try.func80, Try.ntmps80
      go_wp2
      go_ret
      rw [H2.out]
      exact ⟨rfl, O.out⟩
  · have H2 : Hid (enCert e = false) := by rw [Hid, H.out]; simp [h1]
    go_enter Try.func80, Try.ntmps80
    go_wp2
    go_ret
    rw [H2.out]
    exact ⟨rfl, O.out⟩

theorem en_isLive (e : En) (w : World) :
    Calls Try.prog 81 #[.agg #[.string e.k, .string e.v, .bool e.d, .int .i64 e.s.c, .int .i64 e.s.s, .int .i64 e.a.c, .int .i64 e.a.s, .int .i64 e.p, .int .i64 e.g]] w fun E w' => E = .returned (.bool (enLive e)) ∧ Only none_ w w' := by
  have O := Lib.hid ((Only.refl none_ w).alloc (.cells #[.string e.k, .string e.v, .bool e.d, .int .i64 e.s.c, .int .i64 e.s.s, .int .i64 e.a.c, .int .i64 e.a.s, .int .i64 e.p, .int .i64 e.g] 51))
  have heq := fun w => eql_of (eq_api_stamp w e.a e.s 9998)
  have H : Hid (enLive e = (stEq e.a e.s && e.p == 0 && e.g == 0)) := rfl
  generalize stEq e.a e.s = b1 at *
  cases b1
  · have H2 : Hid (enLive e = false) := by rw [Hid, H.out]; simp
    go_enter Try.func81, Try.ntmps81
    go_wp2
    go_ret
    rw [H2.out]
    exact ⟨rfl, O.out⟩
  · cases h : e.p == 0
    · have H2 : Hid (enLive e = false) := by rw [Hid, H.out]; simp [h]
      go_enter Try.func81, Try.ntmps81
      go_wp2
      go_ret
      rw [H2.out]
      exact ⟨rfl, O.out⟩
    · have H2 : Hid (enLive e = (e.g == 0)) := by rw [Hid, H.out]; simp [h]
      go_enter Try.func81, Try.ntmps81
      go_wp2
      go_ret
      rw [H2.out]
      exact ⟨rfl, O.out⟩

theorem run_index_two (cs : Array Value) (a b c d : Value) (hcs : cs = #[a, b, c, d]) (w : World) :
    (Instr.index 176 (.agg cs) (.int .i64 0)).run Try.prog w = .ok (.agg #[a, b]) w ∧ (Instr.index 176 (.agg cs) (.int .i64 1)).run Try.prog w = .ok (.agg #[c, d]) w := by
  obtain ⟨i0, hi0, hz0⟩ : ∃ i0, Try.prog.info? 49 = some i0 ∧ i0.size = 2 := by
    have : (Try.prog.info? 49).map (·.size) = some 2 := by kernel_rfl
    cases h : Try.prog.info? 49 with
    | none => rw [h] at this; cases this
    | some i0 => rw [h] at this; simp at this; exact ⟨i0, rfl, this⟩
  subst hcs
  constructor <;> simp [Instr.index, asIntOf, run_underlying Try.underlying176, sizeOf, typeInfo, hi0, hz0, part, isAgg, run_underlying Try.underlying49]

set_option maxHeartbeats 800000 in
theorem en_stampsGood (e : En) (w : World) :
    Calls Try.prog 79 #[.agg #[.string e.k, .string e.v, .bool e.d, .int .i64 e.s.c, .int .i64 e.s.s, .int .i64 e.a.c, .int .i64 e.a.s, .int .i64 e.p, .int .i64 e.g]] w fun E w' => E = .returned (.bool (stGood e.s && stGood e.a)) ∧ Only none_ w w' := by
  have O := Lib.hid ((Only.refl none_ w).alloc (.cells #[.string e.k, .string e.v, .bool e.d, .int .i64 e.s.c, .int .i64 e.s.s, .int .i64 e.a.c, .int .i64 e.a.s, .int .i64 e.p, .int .i64 e.g] 51))
  have ix0 := fun w => (run_index_two _ _ _ _ _ (show #[.int .i64 e.s.c, .int .i64 e.s.s, .int .i64 e.a.c, .int .i64 e.a.s] = _ from rfl) w).1
  have ix1 := fun w => (run_index_two _ _ _ _ _ (show #[.int .i64 e.s.c, .int .i64 e.s.s, .int .i64 e.a.c, .int .i64 e.a.s] = _ from rfl) w).2
  obtain ⟨b1, hb1⟩ : ∃ b, stGood ⟨e.s.c, e.s.s⟩ = b := ⟨_, rfl⟩
  obtain ⟨b2, hb2⟩ : ∃ b, stGood ⟨e.a.c, e.a.s⟩ = b := ⟨_, rfl⟩
  have H : Hid ((stGood e.s && stGood e.a) = (b1 && b2)) := by rw [← hb1, ← hb2]; rfl
  have H1 := Lib.hid hb1
  have H2 := Lib.hid hb2
  clear hb1 hb2
  have tok : True := trivial
  cases b1
  · go_enter Try.func79, Try.ntmps79
    go_wp2_with (first
      | (go_at_call 109; refine (en_stamps _ _).mono ?_; rintro e w1 ⟨rfl, o1⟩; have O1 := Lib.hid (O.out.trans o1); clear o1))
    refine wp_loop_rounds 1 ?_
    rw [rounds_succ]
    go_wp2_with (first
      | (go_at_call 110; refine (st_good _ _ _).mono ?_; rintro e w2 ⟨rfl, o2⟩; rw [H1.out]; have O2 := Lib.hid ((O1.out.alloc (.cells #[.int .i64 e.s.c, .int .i64 e.s.s] 49)).trans o2)))
    go_ret
    rw [H.out]
    exact ⟨rfl, O2.out⟩
  · cases b2
    all_goals
      go_enter Try.func79, Try.ntmps79
      go_wp2_with (first
        | (go_at_call 109; refine (en_stamps _ _).mono ?_; rintro e w1 ⟨rfl, o1⟩; have O1 := Lib.hid (O.out.trans o1); clear o1))
      refine wp_loop_rounds 3 ?_
      rw [rounds_succ]
      go_wp2_with (first
        | (go_at_call 110; refine (st_good _ _ _).mono ?_; rintro e w2 ⟨rfl, o2⟩; rw [H1.out]; have O2 := Lib.hid ((O1.out.alloc (.cells #[.int .i64 e.s.c, .int .i64 e.s.s] 49)).trans o2); clear o2))
      rw [rounds_succ]
      go_wp2_with (first
        | (go_at_call 110; refine (st_good _ _ _).mono ?_; rintro e w3 ⟨rfl, o3⟩; rw [H2.out]; have O3 := Lib.hid ((O2.out.alloc (.cells #[.int .i64 e.a.c, .int .i64 e.a.s] 49)).trans o3); clear o3))
      try rw [rounds_succ]
      try go_wp2_with fail
      go_ret
      rw [H.out]
      exact ⟨rfl, O3.out⟩
end Go.Proofs.Ytniacolkjdmflaa
end
section
namespace Go.Proofs.Ytniacolkjdmflaa
open Go.RowKit
set_option maxRecDepth 100000

/-- Has p the bit of the site? -/
def dutyB (p : Nat) (site : Int) : Bool := decide (p / 2 ^ site.toNat % 2 = 1)
def enDuty (e : En) (site : Int) : Bool := e.d && stSite site && dutyB e.p.toNat site

theorem rf_bit (p m : Nat) (hp : p < 4096) (hm : m < 12) (w : World) :
    Calls Try.prog 59 #[.int .i64 (p : Int), .int .i64 (m : Int)] w fun e w' => e = .returned (.bool (dutyB p m)) ∧ w = w' := by
  go_enter Try.func59, Try.ntmps59
  go_wp2_with fail
  go_loop [0, 5] (fun b i => ∃ k v : Nat, k ≤ m ∧ Hid (v = p / 2 ^ k) ∧ v < 4096 ∧ i = .int .i64 (k : Int) ∧ b = .int .i64 (v : Int)) (fun _ i => m - (intOf i).toNat)
  case atStart => exact ⟨0, p, by omega, by simp [Hid], hp, rfl, rfl⟩
  case round =>
    obtain ⟨k, v, hk, hv, hvs, rfl, rfl⟩ := hrel
    by_cases hlt : (k : Int) < (m : Int)
    · have hv2 : Hid (v / 2 = p / 2 ^ (k + 1)) := by rw [Hid, hv.out, Nat.pow_succ, Nat.div_div_eq_div_mul]
      go_wp2_with fail
      go_round
      case rel => exact ⟨k + 1, v / 2, by omega, hv2, by omega, by go_num, by go_num⟩
      case measure => simp [intOf]; omega
    · obtain rfl : k = m := by omega
      have HD : Hid (dutyB p (k : Int) = decide (v % 2 = 1)) := by rw [Hid, dutyB, Int.toNat_natCast, hv.out]
      go_wp2_with fail
      go_ret
      rw [HD.out]
      refine ⟨?_, rfl⟩
      show Ending.returned (.bool ((v : Int) % 2 == 1)) = .returned (.bool (decide (v % 2 = 1)))
      congr 2
      rw [Bool.eq_iff_iff]
      simp only [beq_iff_eq, decide_eq_true_eq]
      omega

/-- The ways that Duty goes. -/
theorem duty_ways (e : En) (site : Int) (hp : e.d = true → 1 ≤ e.p ∧ e.p ≤ 4095) :
    (e.d = false ∧ enDuty e site = false) ∨ (e.d = true ∧ stSite site = false ∧ ¬ 0 ≤ site ∧ enDuty e site = false) ∨ (e.d = true ∧ stSite site = false ∧ 0 ≤ site ∧ ¬ site < 12 ∧ enDuty e site = false) ∨
    ∃ p m : Nat, e.d = true ∧ stSite site = true ∧ m < 12 ∧ 1 ≤ p ∧ p < 4096 ∧ site = (m : Int) ∧ e.p = (p : Int) ∧ enDuty e site = dutyB p m := by
  cases hd : e.d
  · left; simp [enDuty, hd]
  · obtain ⟨h1, h2⟩ := hp hd
    by_cases h0 : 0 ≤ site
    · by_cases h3 : site < 12
      · right; right; right
        have hs : stSite site = true := by simp [stSite]; omega
        refine ⟨e.p.toNat, site.toNat, rfl, hs, by omega, by omega, by omega, by omega, by omega, ?_⟩
        simp only [enDuty, hd, hs, Bool.true_and]
        congr 1
        omega
      · right; right; left
        have hs : stSite site = false := by simp [stSite]; omega
        simp [enDuty, hs, h0, h3]
    · right; left
      have hs : stSite site = false := by simp [stSite]; omega
      simp [enDuty, hs, h0]

set_option maxHeartbeats 1600000 in
theorem rf_duty (e : En) (site : Int) (w : World) (hp : e.d = true → 1 ≤ e.p ∧ e.p ≤ 4095) :
    Calls Try.prog 30 #[.agg #[.string e.k, .string e.v, .bool e.d, .int .i64 e.s.c, .int .i64 e.s.s, .int .i64 e.a.c, .int .i64 e.a.s, .int .i64 e.p, .int .i64 e.g], .int .i64 site] w fun E w' => E = .returned (.bool (enDuty e site)) ∧ Only none_ w w' := by
  have ways := duty_ways e site hp
  generalize enDuty e site = b at ways ⊢
  clear hp
  have HS := fun w => rf_site site w
  have O := Lib.hid ((Only.refl none_ w).alloc (.cells #[.string e.k, .string e.v, .bool e.d, .int .i64 e.s.c, .int .i64 e.s.s, .int .i64 e.a.c, .int .i64 e.a.s, .int .i64 e.p, .int .i64 e.g] 26))
  obtain ⟨k, v, d, s, a, p, g⟩ := e
  simp only at *
  rcases ways with ⟨rfl, rfl⟩ | ⟨rfl, h1, _, rfl⟩ | ⟨rfl, h1, _, _, rfl⟩ | ⟨p, m, rfl, h1, h2, h3, h4, rfl, rfl, rfl⟩
  · go_enter Try.func30, Try.ntmps30
    go_wp2_with fail
    go_ret
    exact ⟨rfl, O.out⟩
  · rw [h1] at HS
    have H := Lib.hid HS
    clear HS
    go_enter Try.func30, Try.ntmps30
    go_wp2_with (go_at_call 46; refine (H.out _).mono ?_; rintro e w' ⟨rfl, rfl⟩)
    go_ret
    exact ⟨rfl, O.out⟩
  · rw [h1] at HS
    have H := Lib.hid HS
    clear HS
    go_enter Try.func30, Try.ntmps30
    go_wp2_with (go_at_call 46; refine (H.out _).mono ?_; rintro e w' ⟨rfl, rfl⟩)
    go_ret
    exact ⟨rfl, O.out⟩
  · rw [h1] at HS
    have H := Lib.hid HS
    clear HS
    have hp0 : (0 : Int) < (p : Int) := by omega
    go_enter Try.func30, Try.ntmps30
    go_wp2_with (first
      | (go_at_call 46; refine (H.out _).mono ?_; rintro e w' ⟨rfl, rfl⟩)
      | (go_at_call 59; refine (rf_bit p m h4 h2 _).mono ?_; rintro e w' ⟨rfl, rfl⟩))
    go_ret
    exact ⟨rfl, O.out⟩

/-- One block whole; all else as in B. -/
structure Bx1 (B : World) (g : Nat) (t : TypeId) (e : En) (w : World) : Prop where
  x : Blk w g t #[.string e.k, .string e.v, .bool e.d, .int .i64 e.s.c, .int .i64 e.s.s, .int .i64 e.a.c, .int .i64 e.a.s, .int .i64 e.p, .int .i64 e.g]
  ho : Only none_ B w

theorem duty_and (p m : Nat) (hp : p < 4096) (hm : m < 12) : (bits .and .i64 (p : Int) ((2 ^ m : Nat) : Int) != 0) = dutyB p m := by
  rw [i64_and_small p (2 ^ m) hp (pow_small m hm), nat_bit, dutyB, Int.toNat_natCast]
  have h2 := Nat.mod_two_eq_zero_or_one (p / 2 ^ m)
  have h3 : 0 < 2 ^ m := Nat.two_pow_pos m
  generalize p / 2 ^ m % 2 = q at h2 ⊢
  rcases h2 with rfl | rfl
  · simp
  · rw [Nat.one_mul]
    have : ((2 ^ m : Nat) : Int) ≠ 0 := by omega
    simp only [decide_true]
    exact bne_iff_ne.2 this

set_option maxHeartbeats 1600000 in
theorem en_duty (e : En) (site : Int) (w : World) (hp : e.d = true → 1 ≤ e.p ∧ e.p ≤ 4095) :
    Calls Try.prog 51 #[.agg #[.string e.k, .string e.v, .bool e.d, .int .i64 e.s.c, .int .i64 e.s.s, .int .i64 e.a.c, .int .i64 e.a.s, .int .i64 e.p, .int .i64 e.g], .int .i64 site] w fun E w' => E = .returned (.bool (enDuty e site)) ∧ Only none_ w w' := by
  have ways := duty_ways e site hp
  generalize enDuty e site = b at ways ⊢
  clear hp
  have T := Lib.hid (Bx1.mk (B := w) (e := e) (Blk.new w 51 #[.string e.k, .string e.v, .bool e.d, .int .i64 e.s.c, .int .i64 e.s.s, .int .i64 e.a.c, .int .i64 e.a.s, .int .i64 e.p, .int .i64 e.g]).drew ((Only.refl none_ w).alloc (.cells #[.string e.k, .string e.v, .bool e.d, .int .i64 e.s.c, .int .i64 e.s.s, .int .i64 e.a.c, .int .i64 e.a.s, .int .i64 e.p, .int .i64 e.g] 51)).drew)
  obtain ⟨k, v, d, s, a, p, g⟩ := e
  simp only at *
  rcases ways with ⟨rfl, rfl⟩ | ⟨rfl, _, h1, rfl⟩ | ⟨rfl, _, h1, h2, rfl⟩ | ⟨p, m, rfl, _, h2, h3, h4, rfl, rfl, rfl⟩
  · by_cases h1 : 0 ≤ site
    · go_enter Try.func51, Try.ntmps51
      go_wp2_with fail
      (refine wp_region_steady (fun w' => Bx1 w w.heap.size 51 ⟨k, v, false, s, a, p, g⟩ w') 14 (by kernel_rfl) (by kernel_rfl) (T.out) ?_; simp only [List.take_succ_cons, List.take_zero, List.drop_succ_cons, List.drop_zero])
      repeat (first
        | (refine sd_value (v := ?_) (by rfl) (fun w0 hS => ?_) ?_; rotate_left; (· (have hc := nine_of hS.x; go_simp; try (with_reducible rfl))); try simp only [Act.put, List.setIfInBounds_toArray, List.set_cons_zero, List.set_cons_succ])
        | (refine sd_skip (by rfl) ?_; try simp only [Act.put, List.setIfInBounds_toArray, List.set_cons_zero, List.set_cons_succ]))
      refine sd_nil ?_
      intro w1 t1
      go_wp2_with fail
      go_ret
      exact ⟨rfl, t1.ho⟩
    · go_enter Try.func51, Try.ntmps51
      go_wp2_with fail
      (refine wp_region_steady (fun w' => Bx1 w w.heap.size 51 ⟨k, v, false, s, a, p, g⟩ w') 14 (by kernel_rfl) (by kernel_rfl) (T.out) ?_; simp only [List.take_succ_cons, List.take_zero, List.drop_succ_cons, List.drop_zero])
      repeat (first
        | (refine sd_value (v := ?_) (by rfl) (fun w0 hS => ?_) ?_; rotate_left; (· (have hc := nine_of hS.x; go_simp; try (with_reducible rfl))); try simp only [Act.put, List.setIfInBounds_toArray, List.set_cons_zero, List.set_cons_succ])
        | (refine sd_skip (by rfl) ?_; try simp only [Act.put, List.setIfInBounds_toArray, List.set_cons_zero, List.set_cons_succ]))
      refine sd_nil ?_
      intro w1 t1
      go_wp2_with fail
      go_ret
      exact ⟨rfl, t1.ho⟩
  · go_enter Try.func51, Try.ntmps51
    go_wp2_with fail
    (refine wp_region_steady (fun w' => Bx1 w w.heap.size 51 ⟨k, v, true, s, a, p, g⟩ w') 14 (by kernel_rfl) (by kernel_rfl) (T.out) ?_; simp only [List.take_succ_cons, List.take_zero, List.drop_succ_cons, List.drop_zero])
    repeat (first
      | (refine sd_value (v := ?_) (by rfl) (fun w0 hS => ?_) ?_; rotate_left; (· (have hc := nine_of hS.x; go_simp; try (with_reducible rfl))); try simp only [Act.put, List.setIfInBounds_toArray, List.set_cons_zero, List.set_cons_succ])
      | (refine sd_skip (by rfl) ?_; try simp only [Act.put, List.setIfInBounds_toArray, List.set_cons_zero, List.set_cons_succ]))
    refine sd_nil ?_
    intro w1 t1
    go_wp2_with fail
    go_ret
    exact ⟨rfl, t1.ho⟩
  · go_enter Try.func51, Try.ntmps51
    go_wp2_with fail
    (refine wp_region_steady (fun w' => Bx1 w w.heap.size 51 ⟨k, v, true, s, a, p, g⟩ w') 14 (by kernel_rfl) (by kernel_rfl) (T.out) ?_; simp only [List.take_succ_cons, List.take_zero, List.drop_succ_cons, List.drop_zero])
    repeat (first
      | (refine sd_value (v := ?_) (by rfl) (fun w0 hS => ?_) ?_; rotate_left; (· (have hc := nine_of hS.x; go_simp; try (with_reducible rfl))); try simp only [Act.put, List.setIfInBounds_toArray, List.set_cons_zero, List.set_cons_succ])
      | (refine sd_skip (by rfl) ?_; try simp only [Act.put, List.setIfInBounds_toArray, List.set_cons_zero, List.set_cons_succ]))
    refine sd_nil ?_
    intro w1 t1
    go_wp2_with fail
    go_ret
    exact ⟨rfl, t1.ho⟩
  · have HB := fun w => en_bit m h2 w
    have hand := duty_and p m h4 h2
    have g1 : (0 : Int) ≤ (m : Int) := by omega
    have g2 : (m : Int) < 12 := by omega
    generalize ((2 ^ m : Nat) : Int) = u at HB hand
    generalize dutyB p m = q at hand ⊢
    have H := Lib.hid HB
    clear HB
    go_enter Try.func51, Try.ntmps51
    go_wp2_with fail
    (refine wp_region_steady (fun w' => Bx1 w w.heap.size 51 ⟨k, v, true, s, a, (p : Int), g⟩ w') 14 (by kernel_rfl) (by kernel_rfl) (T.out) ?_; simp only [List.take_succ_cons, List.take_zero, List.drop_succ_cons, List.drop_zero])
    repeat (first
      | (refine sd_value (v := ?_) (by rfl) (fun w0 hS => ?_) ?_; rotate_left; (· (have hc := nine_of hS.x; go_simp; try (with_reducible rfl))); try simp only [Act.put, List.setIfInBounds_toArray, List.set_cons_zero, List.set_cons_succ])
      | (refine sd_skip (by rfl) ?_; try simp only [Act.put, List.setIfInBounds_toArray, List.set_cons_zero, List.set_cons_succ])
      | (refine sd_call (v := ?_) (f := 82) (args := ?_) (by rfl) (fun w0 hS => ?_) (fun w0 hS => ?_) ?_; rotate_left 2; (· (have hc := nine_of hS.x; go_simp; try (with_reducible rfl))); (· (refine (H.out _).mono ?_; rintro E w9 ⟨rfl, rfl⟩; refine ⟨?_, hS⟩; rfl)); try simp only [Act.put, List.setIfInBounds_toArray, List.set_cons_zero, List.set_cons_succ]))
    refine sd_nil ?_
    intro w1 t1
    go_wp2_with fail
    go_ret
    exact ⟨rfl, t1.ho⟩
end Go.Proofs.Ytniacolkjdmflaa
end
