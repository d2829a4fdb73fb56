/- The call of EntryCounts answers yes, and changes nothing that was there. The statement itself is proved in another text. -/
import Derived.Test.YtkddmdgehnijiaaEnP
import Derived.Test.YtkddmdgehnijiaaEnH
namespace Go.Proofs.Ytkddmdgehnijiaa
open Go.RowKit
set_option maxRecDepth 100000
set_option linter.all false

/-- Of the first i sites, how many have their bit in p. -/
def cntB (p : Nat) : Nat → Nat
  | 0 => 0
  | i + 1 => if p / 2 ^ i % 2 = 1 then cntB p i + 1 else cntB p i
theorem counts_key' : ∀ n, n ≤ 12 → ∀ s, s < n → ∀ r, r < n → (cntB (kpP s n (r + 1)) 12 = r + 1 ∧ kpP s n (r + 1) / 2 ^ s % 2 = 1 ∧ kpP s n (r + 1) < 2 ^ n ∧ 1 ≤ kpP s n (r + 1)) := by decide +kernel
theorem counts_key (n : Nat) (hn : n ≤ 12) (s : Nat) (hs : s < n) (r : Nat) (hr : r ≤ n) (h1 : 1 ≤ r) : cntB (kpP s n r) 12 = r ∧ kpP s n r / 2 ^ s % 2 = 1 ∧ kpP s n r < 2 ^ n ∧ 1 ≤ kpP s n r := by
  obtain ⟨m, rfl⟩ : ∃ m, r = m + 1 := ⟨r - 1, by omega⟩
  exact counts_key' n hn s hs m (by omega)
theorem cntB_le (p : Nat) : ∀ i, cntB p i ≤ i
  | 0 => Nat.le_refl _
  | i + 1 => by
    have := cntB_le p i
    simp only [cntB]
    split <;> omega

set_option maxHeartbeats 1000000 in
theorem counts_any (x y z : Nat) (hx : x < 256) (hy : y < 256) (hz : z < 256) (W : World) :
    Calls Try.prog 9 #[.int .u8 (x : Int), .int .u8 (y : Int), .int .u8 (z : Int)] W fun E w' => E = .returned (.bool true) ∧ Below W.heap.size W w' := by
  obtain ⟨n, hn⟩ : ∃ n : Nat, 1 + (z : Int) % 12 = (n : Int) := ⟨1 + z % 12, by push_cast; rfl⟩
  have hn1 : 1 ≤ n ∧ n ≤ 12 := by omega
  obtain ⟨s, hs⟩ : ∃ s : Nat, (x : Int) % (n : Int) = (s : Int) := ⟨x % n, by push_cast; rfl⟩
  have hs1 : s < n := by
    have := Int.emod_lt_of_pos (x : Int) (show 0 < (n : Int) by omega)
    omega
  obtain ⟨r, hr⟩ : ∃ r : Nat, 1 + (y : Int) % (n : Int) = (r : Int) := ⟨1 + y % n, by push_cast; rfl⟩
  have hr1 : 1 ≤ r ∧ r ≤ n := by
    have h1 := Int.emod_lt_of_pos (y : Int) (show 0 < (n : Int) by omega)
    have h2 := Int.emod_nonneg (y : Int) (show (n : Int) ≠ 0 by omega)
    omega
  have hn0 : ¬ (n : Int) = 0 := by omega
  obtain ⟨q, hq⟩ : ∃ q : Nat, (y : Int) % (n : Int) = (q : Int) := ⟨y % n, by push_cast; rfl⟩
  have hqr : 1 + (q : Int) = (r : Int) := by rw [← hq]; exact hr
  have wx : IntKind.i64.wrap (x : Int) = (x : Int) := IntWalk.i64_in _ (by omega)
  have wy : IntKind.i64.wrap (y : Int) = (y : Int) := IntWalk.i64_in _ (by omega)
  have ws : IntKind.i64.wrap (s : Int) = (s : Int) := IntWalk.i64_in _ (by omega)
  have wq : IntKind.i64.wrap (q : Int) = (q : Int) := IntWalk.i64_in _ (by omega)
  have wr : IntKind.i64.wrap (1 + (q : Int)) = (r : Int) := by rw [hqr]; exact IntWalk.i64_in _ (by omega)
  have wr2 : IntKind.i64.wrap (r : Int) = (r : Int) := IntWalk.i64_in _ (by omega)
  have tx : (x : Int).tmod (n : Int) = (s : Int) := by rw [Int.tmod_eq_emod_of_nonneg (by omega)]; exact hs
  have ty : (y : Int).tmod (n : Int) = (q : Int) := by rw [Int.tmod_eq_emod_of_nonneg (by omega)]; exact hq
  have ny : ¬ n = 0 := by omega
  have nb : ((n : Int) == 0) = false := by simpa using hn0
  obtain ⟨k1, k2, k3, k4⟩ := counts_key n hn1.2 s hs1 r hr1.2 hr1.1
  have k5 := kp_small n hn1.2 s hs1 r hr1.2
  have HK := fun w => en_keepers (s : Int) (r : Int) (n : Int) w
  have hk : enKeepers (s : Int) (r : Int) (n : Int) = (kpP s n r : Int) := by
    rw [enKeepers, if_pos ⟨by omega, by omega, by omega, by omega, by omega, by omega⟩]
    rfl
  rw [hk] at HK
  generalize kpP s n r = p at *
  have HD := fun w => en_delete ⟨#[107]⟩ ⟨1, (s : Int)⟩ (p : Int) w
  have hgood : stGood ⟨1, (s : Int)⟩ = true := by simp [stGood, stSite]; omega
  have hlat : stLater ⟨1, (s : Int)⟩ ⟨1, (s : Int)⟩ = false := by simp [stLater]
  obtain ⟨e, he⟩ : ∃ e : En, e = ⟨⟨#[107]⟩, ⟨#[]⟩, true, ⟨1, (s : Int)⟩, ⟨1, (s : Int)⟩, (p : Int), 0⟩ := ⟨_, rfl⟩
  have hchk : enCheck e = 0 := by
    have h1 : enKeyBad e = false := by rw [he]; rfl
    have h2 : enValBad e = false := by rw [he]; rfl
    have h3 : enStBad e = false := by rw [he]; simp [enStBad, hgood, hlat]
    have h4 : enRestBad e = false := by rw [he]; simp [enRestBad, enCert]; omega
    simp [enCheck, h1, h2, h3, h4]
  have hck : enChecked e = (e, 0) := by rw [enChecked, if_pos hchk]
  rw [← he] at HD
  simp only [hck] at HD
  have hed : e.d = true := by rw [he]
  have hep : e.p = (p : Int) := by rw [he]
  have hp : e.d = true → 1 ≤ e.p ∧ e.p ≤ 4095 := fun _ => by rw [hep]; omega
  have hdut : ∀ i : Nat, i < 12 → enDuty e (i : Int) = decide (p / 2 ^ i % 2 = 1) := fun i hi => by
    have hsi : stSite (i : Int) = true := by simp [stSite]; omega
    simp [enDuty, hed, hsi, dutyB, hep]
  have HDs : Hid (enDuty e (s : Int) = true) := by rw [Hid, hdut s (by omega)]; simp [k2]
  have HDm : Hid (enDuty e (-1) = false) := by simp [Hid, enDuty, hed, stSite]
  have HDt : Hid (enDuty e 12 = false) := by simp [Hid, enDuty, hed, stSite]
  have HDu := Lib.hid hdut
  have H1 := Lib.hid HK
  have H2 := Lib.hid HD
  have HP := Lib.hid hp
  have HC := Lib.hid k1
  have hsh : e.p < 2 ^ n := by rw [hep]; exact_mod_cast k3
  have HED := Lib.hid hed
  have HEP := Lib.hid hep
  clear HK HD hp hdut hck hchk he hk hgood hlat k1 k2 k4 hed hep
  go_enter Try.func9, Try.ntmps9
  go_wp2_with (first
    | (go_at_call 10; refine (en_speaks _).mono ?_; rintro E w9 ⟨rfl, rfl⟩))
  (refine wp_region_steady (fun w' => Only none_ W w') 11 (by kernel_rfl) (by kernel_rfl) ((Only.refl none_ W).drew) ?_; simp only [List.take_succ_cons, List.take_zero, List.drop_succ_cons, List.drop_zero])
  repeat (refine sd_value (v := ?_) (by rfl) (fun w0 hS => ?_) ?_; rotate_left; (· (skip; go_simp; try (with_reducible rfl))); try simp only [Act.put, List.setIfInBounds_toArray, List.set_cons_zero, List.set_cons_succ])

  refine sd_nil ?_
  intro w1 o1
  have O1 := Lib.hid o1
  clear o1
  go_wp2_with (first
    | (go_at_call 31; refine (H1.out _).mono ?_; rintro E w9 ⟨rfl, rfl⟩)
    | (go_at_call 28; refine (H2.out _).mono ?_; rintro E w2 ⟨rfl, o2⟩; have O2 := Lib.hid (O1.out.trans o2); clear o2))
  have T2 : Hid (Bx1 W w2.heap.size 35 e (w2.alloc (.cells #[.string e.k, .string e.v, .bool e.d, .int .i64 e.s.c, .int .i64 e.s.s, .int .i64 e.a.c, .int .i64 e.a.s, .int .i64 e.p, .int .i64 e.g] 35))) := ⟨Blk.new w2 _ _, O2.out.alloc _⟩
  generalize w2.alloc (.cells #[.string e.k, .string e.v, .bool e.d, .int .i64 e.s.c, .int .i64 e.s.s, .int .i64 e.a.c, .int .i64 e.a.s, .int .i64 e.p, .int .i64 e.g] 35) = w3 at *
  generalize w2.heap.size = g2 at *
  clear hn hs hr hq hqr wx wy ws wq wr wr2 tx ty ny nb hn0 O2
  go_loopw [12, 41] (fun c i wr => ∃ k : Nat, k ≤ 12 ∧ i = .int .i64 (k : Int) ∧ c = .int .i64 (cntB p k : Int) ∧ Bx1 W g2 35 e wr) (fun _ i _ => 12 - (intOf i).toNat)
  case atStart => exact ⟨0, by omega, rfl, rfl, T2.out⟩
  case round =>
    obtain ⟨k, hk, rfl, rfl, ht⟩ := hrel
    have HT := Lib.hid ht
    clear ht
    by_cases hlt : (k : Int) < 12
    · obtain ⟨b, hb⟩ : ∃ b, decide (p / 2 ^ k % 2 = 1) = b := ⟨_, rfl⟩
      have HB : Hid (enDuty e (k : Int) = b) := (HDu.out k (by omega)).trans hb
      have HN : Hid (cntB p (k + 1) = if b = true then cntB p k + 1 else cntB p k) := by
        rw [Hid, ← hb, cntB]
        by_cases h : p / 2 ^ k % 2 = 1 <;> simp [h]
      have hle := cntB_le p k
      clear hb
      generalize cntB p k = c at *
      cases b
      · go_wp2_with (first
          | (refine wpList_load_row rfl 35 _ rfl g2 rfl 35 _ (0, 0) _ HT.out.x Try.underlying35 rfl (by kernel_rfl) ?_)
          | (go_at_call 33; refine (en_duty e _ _ HP.out).mono ?_; rintro E w9 ⟨rfl, o9⟩; rw [HB.out]))
        go_roundw
        case rel => exact ⟨k + 1, by omega, by go_num, by rw [HN.out]; rfl, HT.out.keep o9⟩
        case measure => simp [intOf]; omega
      · go_wp2_with (first
          | (refine wpList_load_row rfl 35 _ rfl g2 rfl 35 _ (0, 0) _ HT.out.x Try.underlying35 rfl (by kernel_rfl) ?_)
          | (go_at_call 33; refine (en_duty e _ _ HP.out).mono ?_; rintro E w9 ⟨rfl, o9⟩; rw [HB.out]))
        go_roundw
        case rel => exact ⟨k + 1, by omega, by go_num, by rw [HN.out]; go_num, HT.out.keep o9⟩
        case measure => simp [intOf]; omega
    · obtain rfl : k = 12 := by omega
      rw [HC.out]
      go_wp2_with fail
      have z0 : (0 : Int) ≤ (n : Int) := by omega
      have z1 : (n : Int) ≤ 64 := by omega
      have zr : ((r : Int) == (r : Int)) = true := by simp
      have p4 : 2 ^ n ≤ 2 ^ 12 := Nat.pow_le_pow_right (by omega) hn1.2
      have zw : IntKind.i64.wrap ((2 : Int) ^ n) = (2 : Int) ^ n := by
        have e : ((2 : Int) ^ n) = ((2 ^ n : Nat) : Int) := by push_cast; rfl
        rw [e]
        exact IntWalk.i64_in _ (by omega)
      have zd : decide (e.p < (2 : Int) ^ n) = true := decide_eq_true hsh
      clear p4
      (refine wp_region_steady (fun w' => Bx1 W g2 35 e w') 26 (by kernel_rfl) (by kernel_rfl) (HT.out.keep (Only.refl none_ wr).drew) ?_; simp only [List.take_succ_cons, List.take_zero, List.drop_succ_cons, List.drop_zero])
      repeat (first
        | (refine sd_value (v := ?_) (by rfl) (fun w0 hS => ?_) ?_; rotate_left; (· (have hc := nine_of hS.x; go_simp; try (with_reducible rfl))); try simp only [Act.put, List.setIfInBounds_toArray, List.set_cons_zero, List.set_cons_succ])
        | (refine sd_skip (by rfl) ?_; try simp only [Act.put, List.setIfInBounds_toArray, List.set_cons_zero, List.set_cons_succ])
        | (refine sd_call (v := ?_) (f := 33) (args := ?_) (by rfl) (fun w0 hS => ?_) (fun w0 hS => ?_) ?_; rotate_left 2; (· (have hc := nine_of hS.x; go_simp; try (with_reducible rfl))); (· (refine (en_duty e _ _ HP.out).mono ?_; rintro E w9 ⟨rfl, o9⟩; (first | rw [HDs.out] | rw [HDm.out] | rw [HDt.out]); refine ⟨?_, hS.keep o9⟩; rfl)); try simp only [Act.put, List.setIfInBounds_toArray, List.set_cons_zero, List.set_cons_succ]))
      refine sd_nil ?_
      intro w5 t5
      go_wp2_with fail
      go_ret
      exact ⟨rfl, t5.ho.below (Nat.le_refl _) (fun k hk => hk.elim)⟩
end Go.Proofs.Ytkddmdgehnijiaa
