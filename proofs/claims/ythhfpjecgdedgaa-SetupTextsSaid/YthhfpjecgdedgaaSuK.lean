/- What the document's Encode of a configuration does. No statement of the seat is proved here. -/
import Derived.Test.YthhfpjecgdedgaaSuN
import Derived.Test.YthhfpjecgdedgaaRefN
namespace Go.Proofs.Ythhfpjecgdedgaa
open Go.RowKit
set_option maxRecDepth 100000
set_option linter.all false

set_option maxHeartbeats 6400000 in
theorem rf_encode (c : Nat → Int) (hr : suRight c = true) (w : World) :
    Calls Try.prog 28 #[.agg #[.int .i64 (c 0), .int .i64 (c 1), .int .i64 (c 2), .int .i64 (c 3), .int .i64 (c 4), .int .i64 (c 5), .int .i64 (c 6), .int .i64 (c 7), .int .i64 (c 8), .int .i64 (c 9), .int .i64 (c 10), .int .i64 (c 11), .int .i64 (c 12), .int .i64 (c 13), .int .i64 (c 14), .int .i64 (c 15), .int .i64 (c 16), .int .i64 (c 17), .int .i64 (c 18), .int .i64 (c 19)]] w fun E w' => ∃ A n k, E = .returned (.slice A n k) ∧ w'.ownsRow w.heap.size 5 1 (.slice A n k) (suBytes c 20).length (byts (suBytes c 20)) ∧ Only none_ w w' := by
  obtain ⟨i0, hi0, hz0, hz1, hz2⟩ := info_parts u8_info
  have BX := Lib.hid (Cb.new w 23 c)
  have HN := Lib.hid (fun k hk => su_nat hr k hk)
  clear hr
  go_enter Try.func28, Try.ntmps28
  go_wp2_with fail
  go_loopw [3, 4] (fun o i wr => ∃ (k : Nat) (A : Option Addr) (n' c' : Nat), k ≤ 20 ∧ i = .int .i64 (k : Int) ∧ o = .slice A n' c' ∧ wr.ownsRow w.heap.size 5 1 (.slice A n' c') (suBytes c k).length (byts (suBytes c k)) ∧ Cb w w.heap.size 23 c wr) (fun _ i _ => 20 - (intOf i).toNat)
  case atStart =>
    refine ⟨0, _, _, _, by omega, rfl, rfl, ?_, BX.out.keep ((Only.refl none_ _).alloc _)⟩
    have := World.ownsRow_made (base := w.heap.size) (e := 5) (size := 1) (w.alloc (.cells #[.int .i64 (c 0), .int .i64 (c 1), .int .i64 (c 2), .int .i64 (c 3), .int .i64 (c 4), .int .i64 (c 5), .int .i64 (c 6), .int .i64 (c 7), .int .i64 (c 8), .int .i64 (c 9), .int .i64 (c 10), .int .i64 (c 11), .int .i64 (c 12), .int .i64 (c 13), .int .i64 (c 14), .int .i64 (c 15), .int .i64 (c 16), .int .i64 (c 17), .int .i64 (c 18), .int .i64 (c 19)] 23)) #[] 0 (by simp) (by simp [maxLen]) rfl
    simpa [suBytes, byts] using this
  case round =>
    obtain ⟨k, A, n', c', hk, rfl, rfl, hown, hcb⟩ := hrel
    have H1 := Lib.hid hown
    have C1 := Lib.hid hcb
    clear hown hcb
    have HLen := Lib.hid (suBytes_len c k)
    by_cases hlt : k < 20
    · have q := C1.out.x.cell_ (cf_at c k hlt)
      have HS := Lib.hid (suBytes_succ c k)
      have hn := HN.out k hlt
      obtain ⟨x, hx⟩ : ∃ x : Nat, c k = x := ⟨(c k).toNat, by omega⟩
      rw [hx] at q hn
      rw [hx, Int.toNat_natCast] at HS
      have u1 : IntKind.u64.wrap (x : Int) = (x : Int) := IntWalk.u64_in _ (by omega)
      have HX : Hid (x < 18446744073709551616) := by simp only [Hid]; omega
      have hki : (k : Int) < 20 := by omega
      clear hx hn
      go_wp2_with (first
        | (go_at_call 42; refine (refNumber_any x 4 HX.out (by omega) _).mono ?_; rintro E w3 ⟨A1, k1, c1, T1, rfl, _, own, o3⟩
           have C3 := Lib.hid (C1.out.keep o3)
           have H3 := Lib.hid (owns_only H1.out o3 (fun _ _ h => h))
           have L3 : Hid (Byt w3 (fun b => (Value.slice A1 k1 c1).ownBlock = some b) (.slice A1 k1 c1) (leBytes x 4)) := Byt.of_own own
           have g3 := C3.out.ho.size
           have G3 := Lib.hid g3
           clear own o3 g3)
        | (at_builtin; refine wpList_append_byt _ rfl (.tmp 20) (.tmp 21) _ rfl w.heap.size 5 i0 (.int .u8 0) Try.underlying48 hi0 hz0 hz1 hz2 rfl (.slice A n' c') (suBytes c k) rfl H3.out _ _ (leBytes x 4) rfl L3.out (by rw [HLen.out, leBytes_length]; omega) G3.out ?_
           intro A2 n2 c2 w2 hown2 hgrow2 hmv2
           have C4 : Hid (Cb w w.heap.size 23 c w2) := ⟨C3.out.x.grown' hgrow2 (own_blk_ne H3.out C3.out.x (by decide)), C3.out.ho.grown hgrow2 (fun b hb => .inr (H3.out.lt b hb).1)⟩
           have N2 := Lib.hid hown2
           clear hown2 hgrow2 hmv2))
      go_roundw
      case rel => exact ⟨k + 1, A2, n2, c2, by omega, by go_num, rfl, by rw [HS.out]; exact N2.out, C4.out⟩
      case measure => simp [intOf]; omega
    · obtain rfl : k = 20 := by omega
      have hk20 : ¬ ((20 : Nat) : Int) < 20 := by omega
      go_wp2_with fail
      go_ret
      exact ⟨A, n', c', rfl, H1.out, C1.out.ho⟩
end Go.Proofs.Ythhfpjecgdedgaa
