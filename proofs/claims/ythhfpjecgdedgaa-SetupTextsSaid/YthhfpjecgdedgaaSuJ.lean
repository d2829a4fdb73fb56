/- What Encode of package setup does. No statement of the seat is proved here. -/
import Derived.Test.YthhfpjecgdedgaaSuN
namespace Go.Proofs.Ythhfpjecgdedgaa
open Go.RowKit
set_option maxRecDepth 100000
set_option linter.all false

set_option maxHeartbeats 3200000 in
theorem su_encode_no (c : Nat → Int) (hr : suRight c = false) (w : World) :
    Calls Try.prog 25 #[.agg #[.int .i64 (c 0), .int .i64 (c 1), .int .i64 (c 2), .int .i64 (c 3), .int .i64 (c 4), .int .i64 (c 5), .int .i64 (c 6), .int .i64 (c 7), .int .i64 (c 8), .int .i64 (c 9), .int .i64 (c 10), .int .i64 (c 11), .int .i64 (c 12), .int .i64 (c 13), .int .i64 (c 14), .int .i64 (c 15), .int .i64 (c 16), .int .i64 (c 17), .int .i64 (c 18), .int .i64 (c 19)]] w fun E w' => E = .returned (.tuple #[.slice none 0 0, .int .i64 14]) ∧ Only none_ w w' := by
  have BX := Lib.hid (Cb.new w 26 c)
  have O0 := Lib.hid ((Only.refl none_ w).alloc (.cells #[.int .i64 (c 0), .int .i64 (c 1), .int .i64 (c 2), .int .i64 (c 3), .int .i64 (c 4), .int .i64 (c 5), .int .i64 (c 6), .int .i64 (c 7), .int .i64 (c 8), .int .i64 (c 9), .int .i64 (c 10), .int .i64 (c 11), .int .i64 (c 12), .int .i64 (c 13), .int .i64 (c 14), .int .i64 (c 15), .int .i64 (c 16), .int .i64 (c 17), .int .i64 (c 18), .int .i64 (c 19)] 26))
  have H1 := Lib.hid (fun w => su_check c w)
  rw [(suCode_iff c).2.2 hr] at H1
  clear hr
  go_enter Try.func25, Try.ntmps25
  go_wp2_with (first
    | (refine wpl_load rfl 26 _ rfl w.heap.size rfl _ #[.int .i64 (c 0), .int .i64 (c 1), .int .i64 (c 2), .int .i64 (c 3), .int .i64 (c 4), .int .i64 (c 5), .int .i64 (c 6), .int .i64 (c 7), .int .i64 (c 8), .int .i64 (c 9), .int .i64 (c 10), .int .i64 (c 11), .int .i64 (c 12), .int .i64 (c 13), .int .i64 (c 14), .int .i64 (c 15), .int .i64 (c 16), .int .i64 (c 17), .int .i64 (c 18), .int .i64 (c 19)] _ BX.out.x Try.underlying26 rfl (by kernel_rfl) ?_)
    | (go_at_call 10; refine (H1.out _).mono ?_; rintro E w1 ⟨rfl, o1⟩; have O1 := Lib.hid (O0.out.trans o1); clear o1))
  go_ret2
  exact ⟨rfl, O1.out⟩

set_option maxHeartbeats 6400000 in
theorem su_encode (c : Nat → Int) (hr : suRight c = true) (w : World) :
    Calls Try.prog 25 #[.agg #[.int .i64 (c 0), .int .i64 (c 1), .int .i64 (c 2), .int .i64 (c 3), .int .i64 (c 4), .int .i64 (c 5), .int .i64 (c 6), .int .i64 (c 7), .int .i64 (c 8), .int .i64 (c 9), .int .i64 (c 10), .int .i64 (c 11), .int .i64 (c 12), .int .i64 (c 13), .int .i64 (c 14), .int .i64 (c 15), .int .i64 (c 16), .int .i64 (c 17), .int .i64 (c 18), .int .i64 (c 19)]] w fun E w' => ∃ A n k, E = .returned (.tuple #[.slice A n k, .int .i64 0]) ∧ w'.ownsRow w.heap.size 5 1 (.slice A n k) (suBytes c 20).length (byts (suBytes c 20)) ∧ Only none_ w w' := by
  have BX := Lib.hid (Cb.new w 26 c)
  have O0 := Lib.hid ((Only.refl none_ w).alloc (.cells #[.int .i64 (c 0), .int .i64 (c 1), .int .i64 (c 2), .int .i64 (c 3), .int .i64 (c 4), .int .i64 (c 5), .int .i64 (c 6), .int .i64 (c 7), .int .i64 (c 8), .int .i64 (c 9), .int .i64 (c 10), .int .i64 (c 11), .int .i64 (c 12), .int .i64 (c 13), .int .i64 (c 14), .int .i64 (c 15), .int .i64 (c 16), .int .i64 (c 17), .int .i64 (c 18), .int .i64 (c 19)] 26))
  have H1 := Lib.hid (fun w => su_check c w)
  rw [(suCode_iff c).1.2 hr, (suCode_iff c).2.1 hr] at H1
  have HN := Lib.hid (fun k hk => su_nat hr k hk)
  clear hr
  go_enter Try.func25, Try.ntmps25
  go_wp2_with (first
    | (refine wpl_load rfl 26 _ rfl w.heap.size rfl _ #[.int .i64 (c 0), .int .i64 (c 1), .int .i64 (c 2), .int .i64 (c 3), .int .i64 (c 4), .int .i64 (c 5), .int .i64 (c 6), .int .i64 (c 7), .int .i64 (c 8), .int .i64 (c 9), .int .i64 (c 10), .int .i64 (c 11), .int .i64 (c 12), .int .i64 (c 13), .int .i64 (c 14), .int .i64 (c 15), .int .i64 (c 16), .int .i64 (c 17), .int .i64 (c 18), .int .i64 (c 19)] _ (by first | exact B2.out.x | exact BX.out.x) Try.underlying26 rfl (by kernel_rfl) ?_)
    | (go_at_call 10; refine (H1.out _).mono ?_; rintro E w1 ⟨rfl, o1⟩
       have O1 := Lib.hid (O0.out.trans o1)
       have L1 := Lib.hid (Lw.new w1)
       have B2 := Lib.hid ((BX.out.keep o1).keep ((Only.refl none_ w1).alloc (.cells #[.int .i64 0, .slice none 0 0] 67)))
       clear o1)
    | (go_at_call 12; refine (su_list c _).mono ?_; rintro E w2 ⟨rfl, o2⟩
       have L2 := Lib.hid (L1.out.keep o2)
       clear o2))
  clear BX B2 L1
  generalize w1.heap.size = g at *
  go_loopw [19] (fun i wr => ∃ k : Nat, k ≤ 20 ∧ i = .int .i64 (k : Int) ∧ ∃ v, Lw w1 g (suBytes c k) v wr) (fun i _ => 20 - (intOf i).toNat)
  case atStart => exact ⟨0, by omega, rfl, _, L2.out⟩
  case round =>
    obtain ⟨k, hk, rfl, v, hl⟩ := hrel
    have HL := Lib.hid hl
    clear hl
    have HLen := Lib.hid (suBytes_len c k)
    by_cases hlt : k < 20
    · have ix := index_cf c k hlt
      have HS := Lib.hid (suBytes_succ c k)
      have hn := HN.out k hlt
      obtain ⟨x, hx⟩ : ∃ x : Nat, c k = x := ⟨(c k).toNat, by omega⟩
      rw [hx] at ix hn
      rw [hx, Int.toNat_natCast] at HS
      have u1 : IntKind.u64.wrap (x : Int) = (x : Int) := IntWalk.u64_in _ (by omega)
      have HX : Hid (x < 2 ^ (8 * 4)) := by simp only [Hid]; omega
      have hki : (k : Int) < 20 := by omega
      clear hx hn
      go_wp2_with (first
        | (go_at_call 37; refine (lw_num HL.out x 4 (by omega) HX.out (by rw [HLen.out]; omega)).mono ?_; rintro E w3 ⟨rfl, v3, l3, o3⟩; have L3 := Lib.hid l3; clear l3 o3))
      go_roundw
      case rel => exact ⟨k + 1, by omega, by go_num, v3, by rw [HS.out]; exact L3.out⟩
      case measure => simp [intOf]; omega
    · obtain rfl : k = 20 := by omega
      have hk20 : ¬ ((20 : Nat) : Int) < 20 := by omega
      generalize hbs : suBytes c 20 = bs at HL HLen
      have HB := Lib.hid hbs
      clear hbs
      go_wp2_with (first
        | (go_at_call 38; refine (lw_bytes HL.out (by rw [HLen.out]; omega)).mono ?_; rintro E w4 ⟨A, n, q, rfl, own, o4⟩; have X4 := Lib.hid own; have O4 := Lib.hid (HL.out.ho.trans o4); have G4 := HL.out.ho.size; have GG := Lib.hid G4; clear own o4 G4))
      go_ret2
      exact ⟨A, n, q, rfl, by rw [HB.out]; exact owns_base X4.out (Nat.le_trans O1.out.size GG.out), O1.out.trans O4.out⟩
end Go.Proofs.Ythhfpjecgdedgaa
