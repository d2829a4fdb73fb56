/- Which site keeps a certificate: what package entry's Duty does, and the document's. No statement of the seat is proved here. -/
import Derived.Test.YtkddmdgehnijiaaEnL
import Derived.Test.YtkddmdgehnijiaaEnB
import Derived.Test.YtkddmdgehnijiaaEnE
import Derived.Test.YtkddmdgehnijiaaStE
namespace Go.Proofs.Ytkddmdgehnijiaa
open Go.RowKit
set_option maxRecDepth 100000

/-- Has p the bit of the site? -/
def dutyB (p : Nat) (site : Int) : Bool := decide (p / 2 ^ site.toNat % 2 = 1)
def enDuty (e : En) (site : Int) : Bool := e.d && stSite site && dutyB e.p.toNat site

theorem rf_bit (p m : Nat) (hp : p < 4096) (hm : m < 12) (w : World) :
    Calls Try.prog 61 #[.int .i64 (p : Int), .int .i64 (m : Int)] w fun e w' => e = .returned (.bool (dutyB p m)) ∧ w = w' := by
  go_enter Try.func61, Try.ntmps61
  go_wp2_with fail
  go_loop [0, 5] (fun b i => ∃ k v : Nat, k ≤ m ∧ Hid (v = p / 2 ^ k) ∧ v < 4096 ∧ i = .int .i64 (k : Int) ∧ b = .int .i64 (v : Int)) (fun _ i => m - (intOf i).toNat)
  case atStart => exact ⟨0, p, by omega, by simp [Hid], hp, rfl, rfl⟩
  case round =>
    obtain ⟨k, v, hk, hv, hvs, rfl, rfl⟩ := hrel
    by_cases hlt : (k : Int) < (m : Int)
    · have hv2 : Hid (v / 2 = p / 2 ^ (k + 1)) := by rw [Hid, hv.out, Nat.pow_succ, Nat.div_div_eq_div_mul]
      go_wp2_with fail
      go_round
      case rel => exact ⟨k + 1, v / 2, by omega, hv2, by omega, by go_num, by go_num⟩
      case measure => simp [intOf]; omega
    · obtain rfl : k = m := by omega
      have HD : Hid (dutyB p (k : Int) = decide (v % 2 = 1)) := by rw [Hid, dutyB, Int.toNat_natCast, hv.out]
      go_wp2_with fail
      go_ret
      rw [HD.out]
      refine ⟨?_, rfl⟩
      show Ending.returned (.bool ((v : Int) % 2 == 1)) = .returned (.bool (decide (v % 2 = 1)))
      congr 2
      rw [Bool.eq_iff_iff]
      simp only [beq_iff_eq, decide_eq_true_eq]
      omega

/-- The ways that Duty goes. -/
theorem duty_ways (e : En) (site : Int) (hp : e.d = true → 1 ≤ e.p ∧ e.p ≤ 4095) :
    (e.d = false ∧ enDuty e site = false) ∨ (e.d = true ∧ stSite site = false ∧ ¬ 0 ≤ site ∧ enDuty e site = false) ∨ (e.d = true ∧ stSite site = false ∧ 0 ≤ site ∧ ¬ site < 12 ∧ enDuty e site = false) ∨
    ∃ p m : Nat, e.d = true ∧ stSite site = true ∧ m < 12 ∧ 1 ≤ p ∧ p < 4096 ∧ site = (m : Int) ∧ e.p = (p : Int) ∧ enDuty e site = dutyB p m := by
  cases hd : e.d
  · left; simp [enDuty, hd]
  · obtain ⟨h1, h2⟩ := hp hd
    by_cases h0 : 0 ≤ site
    · by_cases h3 : site < 12
      · right; right; right
        have hs : stSite site = true := by simp [stSite]; omega
        refine ⟨e.p.toNat, site.toNat, rfl, hs, by omega, by omega, by omega, by omega, by omega, ?_⟩
        simp only [enDuty, hd, hs, Bool.true_and]
        congr 1
        omega
      · right; right; left
        have hs : stSite site = false := by simp [stSite]; omega
        simp [enDuty, hs, h0, h3]
    · right; left
      have hs : stSite site = false := by simp [stSite]; omega
      simp [enDuty, hs, h0]

set_option maxHeartbeats 1600000 in
theorem rf_duty (e : En) (site : Int) (w : World) (hp : e.d = true → 1 ≤ e.p ∧ e.p ≤ 4095) :
    Calls Try.prog 34 #[.agg #[.string e.k, .string e.v, .bool e.d, .int .i64 e.s.c, .int .i64 e.s.s, .int .i64 e.a.c, .int .i64 e.a.s, .int .i64 e.p, .int .i64 e.g], .int .i64 site] w fun E w' => E = .returned (.bool (enDuty e site)) ∧ Only none_ w w' := by
  have ways := duty_ways e site hp
  generalize enDuty e site = b at ways ⊢
  clear hp
  have HS := fun w => rf_site site w
  have O := Lib.hid ((Only.refl none_ w).alloc (.cells #[.string e.k, .string e.v, .bool e.d, .int .i64 e.s.c, .int .i64 e.s.s, .int .i64 e.a.c, .int .i64 e.a.s, .int .i64 e.p, .int .i64 e.g] 25))
  obtain ⟨k, v, d, s, a, p, g⟩ := e
  simp only at *
  rcases ways with ⟨rfl, rfl⟩ | ⟨rfl, h1, _, rfl⟩ | ⟨rfl, h1, _, _, rfl⟩ | ⟨p, m, rfl, h1, h2, h3, h4, rfl, rfl, rfl⟩
  · go_enter Try.func34, Try.ntmps34
    go_wp2_with fail
    go_ret
    exact ⟨rfl, O.out⟩
  · rw [h1] at HS
    have H := Lib.hid HS
    clear HS
    go_enter Try.func34, Try.ntmps34
    go_wp2_with (go_at_call 60; refine (H.out _).mono ?_; rintro e w' ⟨rfl, rfl⟩)
    go_ret
    exact ⟨rfl, O.out⟩
  · rw [h1] at HS
    have H := Lib.hid HS
    clear HS
    go_enter Try.func34, Try.ntmps34
    go_wp2_with (go_at_call 60; refine (H.out _).mono ?_; rintro e w' ⟨rfl, rfl⟩)
    go_ret
    exact ⟨rfl, O.out⟩
  · rw [h1] at HS
    have H := Lib.hid HS
    clear HS
    have hp0 : (0 : Int) < (p : Int) := by omega
    go_enter Try.func34, Try.ntmps34
    go_wp2_with (first
      | (go_at_call 60; refine (H.out _).mono ?_; rintro e w' ⟨rfl, rfl⟩)
      | (go_at_call 61; refine (rf_bit p m h4 h2 _).mono ?_; rintro e w' ⟨rfl, rfl⟩))
    go_ret
    exact ⟨rfl, O.out⟩

/-- One block whole; all else as in B. -/
structure Bx1 (B : World) (g : Nat) (t : TypeId) (e : En) (w : World) : Prop where
  x : Blk w g t #[.string e.k, .string e.v, .bool e.d, .int .i64 e.s.c, .int .i64 e.s.s, .int .i64 e.a.c, .int .i64 e.a.s, .int .i64 e.p, .int .i64 e.g]
  ho : Only none_ B w

theorem duty_and (p m : Nat) (hp : p < 4096) (hm : m < 12) : (bits .and .i64 (p : Int) ((2 ^ m : Nat) : Int) != 0) = dutyB p m := by
  rw [i64_and_small p (2 ^ m) hp (pow_small m hm), nat_bit, dutyB, Int.toNat_natCast]
  have h2 := Nat.mod_two_eq_zero_or_one (p / 2 ^ m)
  have h3 : 0 < 2 ^ m := Nat.two_pow_pos m
  generalize p / 2 ^ m % 2 = q at h2 ⊢
  rcases h2 with rfl | rfl
  · simp
  · rw [Nat.one_mul]
    have : ((2 ^ m : Nat) : Int) ≠ 0 := by omega
    simp only [decide_true]
    exact bne_iff_ne.2 this

set_option maxHeartbeats 1600000 in
theorem en_duty (e : En) (site : Int) (w : World) (hp : e.d = true → 1 ≤ e.p ∧ e.p ≤ 4095) :
    Calls Try.prog 33 #[.agg #[.string e.k, .string e.v, .bool e.d, .int .i64 e.s.c, .int .i64 e.s.s, .int .i64 e.a.c, .int .i64 e.a.s, .int .i64 e.p, .int .i64 e.g], .int .i64 site] w fun E w' => E = .returned (.bool (enDuty e site)) ∧ Only none_ w w' := by
  have ways := duty_ways e site hp
  generalize enDuty e site = b at ways ⊢
  clear hp
  have T := Lib.hid (Bx1.mk (B := w) (e := e) (Blk.new w 35 #[.string e.k, .string e.v, .bool e.d, .int .i64 e.s.c, .int .i64 e.s.s, .int .i64 e.a.c, .int .i64 e.a.s, .int .i64 e.p, .int .i64 e.g]).drew ((Only.refl none_ w).alloc (.cells #[.string e.k, .string e.v, .bool e.d, .int .i64 e.s.c, .int .i64 e.s.s, .int .i64 e.a.c, .int .i64 e.a.s, .int .i64 e.p, .int .i64 e.g] 35)).drew)
  obtain ⟨k, v, d, s, a, p, g⟩ := e
  simp only at *
  rcases ways with ⟨rfl, rfl⟩ | ⟨rfl, _, h1, rfl⟩ | ⟨rfl, _, h1, h2, rfl⟩ | ⟨p, m, rfl, _, h2, h3, h4, rfl, rfl, rfl⟩
  · by_cases h1 : 0 ≤ site
    · go_enter Try.func33, Try.ntmps33
      go_wp2_with fail
      (refine wp_region_steady (fun w' => Bx1 w w.heap.size 35 ⟨k, v, false, s, a, p, g⟩ w') 14 (by kernel_rfl) (by kernel_rfl) T.out ?_; simp only [List.take_succ_cons, List.take_zero, List.drop_succ_cons, List.drop_zero])
      repeat (first
        | (refine sd_value (v := ?_) (by rfl) (fun w0 hS => ?_) ?_; rotate_left; (· (have hc := nine_of hS.x; go_simp; try (with_reducible rfl))); try simp only [Act.put, List.setIfInBounds_toArray, List.set_cons_zero, List.set_cons_succ])
        | (refine sd_skip (by rfl) ?_; try simp only [Act.put, List.setIfInBounds_toArray, List.set_cons_zero, List.set_cons_succ]))
      refine sd_nil ?_
      intro w1 t1
      go_wp2_with fail
      go_ret
      exact ⟨rfl, t1.ho⟩
    · go_enter Try.func33, Try.ntmps33
      go_wp2_with fail
      (refine wp_region_steady (fun w' => Bx1 w w.heap.size 35 ⟨k, v, false, s, a, p, g⟩ w') 14 (by kernel_rfl) (by kernel_rfl) T.out ?_; simp only [List.take_succ_cons, List.take_zero, List.drop_succ_cons, List.drop_zero])
      repeat (first
        | (refine sd_value (v := ?_) (by rfl) (fun w0 hS => ?_) ?_; rotate_left; (· (have hc := nine_of hS.x; go_simp; try (with_reducible rfl))); try simp only [Act.put, List.setIfInBounds_toArray, List.set_cons_zero, List.set_cons_succ])
        | (refine sd_skip (by rfl) ?_; try simp only [Act.put, List.setIfInBounds_toArray, List.set_cons_zero, List.set_cons_succ]))
      refine sd_nil ?_
      intro w1 t1
      go_wp2_with fail
      go_ret
      exact ⟨rfl, t1.ho⟩
  · go_enter Try.func33, Try.ntmps33
    go_wp2_with fail
    (refine wp_region_steady (fun w' => Bx1 w w.heap.size 35 ⟨k, v, true, s, a, p, g⟩ w') 14 (by kernel_rfl) (by kernel_rfl) T.out ?_; simp only [List.take_succ_cons, List.take_zero, List.drop_succ_cons, List.drop_zero])
    repeat (first
      | (refine sd_value (v := ?_) (by rfl) (fun w0 hS => ?_) ?_; rotate_left; (· (have hc := nine_of hS.x; go_simp; try (with_reducible rfl))); try simp only [Act.put, List.setIfInBounds_toArray, List.set_cons_zero, List.set_cons_succ])
      | (refine sd_skip (by rfl) ?_; try simp only [Act.put, List.setIfInBounds_toArray, List.set_cons_zero, List.set_cons_succ]))
    refine sd_nil ?_
    intro w1 t1
    go_wp2_with fail
    go_ret
    exact ⟨rfl, t1.ho⟩
  · go_enter Try.func33, Try.ntmps33
    go_wp2_with fail
    (refine wp_region_steady (fun w' => Bx1 w w.heap.size 35 ⟨k, v, true, s, a, p, g⟩ w') 14 (by kernel_rfl) (by kernel_rfl) T.out ?_; simp only [List.take_succ_cons, List.take_zero, List.drop_succ_cons, List.drop_zero])
    repeat (first
      | (refine sd_value (v := ?_) (by rfl) (fun w0 hS => ?_) ?_; rotate_left; (· (have hc := nine_of hS.x; go_simp; try (with_reducible rfl))); try simp only [Act.put, List.setIfInBounds_toArray, List.set_cons_zero, List.set_cons_succ])
      | (refine sd_skip (by rfl) ?_; try simp only [Act.put, List.setIfInBounds_toArray, List.set_cons_zero, List.set_cons_succ]))
    refine sd_nil ?_
    intro w1 t1
    go_wp2_with fail
    go_ret
    exact ⟨rfl, t1.ho⟩
  · have HB := fun w => en_bit m h2 w
    have hand := duty_and p m h4 h2
    have g1 : (0 : Int) ≤ (m : Int) := by omega
    have g2 : (m : Int) < 12 := by omega
    generalize ((2 ^ m : Nat) : Int) = u at HB hand
    generalize dutyB p m = q at hand ⊢
    have H := Lib.hid HB
    clear HB
    go_enter Try.func33, Try.ntmps33
    go_wp2_with fail
    (refine wp_region_steady (fun w' => Bx1 w w.heap.size 35 ⟨k, v, true, s, a, (p : Int), g⟩ w') 14 (by kernel_rfl) (by kernel_rfl) T.out ?_; simp only [List.take_succ_cons, List.take_zero, List.drop_succ_cons, List.drop_zero])
    repeat (first
      | (refine sd_value (v := ?_) (by rfl) (fun w0 hS => ?_) ?_; rotate_left; (· (have hc := nine_of hS.x; go_simp; try (with_reducible rfl))); try simp only [Act.put, List.setIfInBounds_toArray, List.set_cons_zero, List.set_cons_succ])
      | (refine sd_skip (by rfl) ?_; try simp only [Act.put, List.setIfInBounds_toArray, List.set_cons_zero, List.set_cons_succ])
      | (refine sd_call (v := ?_) (f := 59) (args := ?_) (by rfl) (fun w0 hS => ?_) (fun w0 hS => ?_) ?_; rotate_left 2; (· (have hc := nine_of hS.x; go_simp; try (with_reducible rfl))); (· (refine (H.out _).mono ?_; rintro E w9 ⟨rfl, rfl⟩; refine ⟨?_, hS⟩; rfl)); try simp only [Act.put, List.setIfInBounds_toArray, List.set_cons_zero, List.set_cons_succ]))
    refine sd_nil ?_
    intro w1 t1
    go_wp2_with fail
    go_ret
    exact ⟨rfl, t1.ho⟩
end Go.Proofs.Ytkddmdgehnijiaa
