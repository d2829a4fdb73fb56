/- The example of layer 7 that each statement calls first. No statement of the seat is proved here. -/
import Derived.Test.YtbhdnhnkiibaaaaJnE
import Derived.Test.YtbhdnhnkiibaaaaJnB
import Derived.Test.YtbhdnhnkiibaaaaCrcT
import Derived.Deep.RegionHeld3
namespace Go.Proofs.Ytbhdnhnkiibaaaa
open Go.RowKit
set_option maxRecDepth 100000
set_option linter.all false

set_option maxHeartbeats 1600000 in
theorem j_speaks (w : World) : Calls Try.prog 29 #[] w fun e w' => e = .returned (.bool true) ∧ Only none_ w w' := by
  have B0 := Lib.hid (byt_lit w [7] (by simp [maxLen]) 5 #[.int .u8 7] rfl w.heap.size rfl 1 rfl)
  have O0 := Lib.hid ((Only.refl none_ w).alloc (.cells #[.int .u8 7] 5))
  have hc : recCode ([7] : List UInt8).length = 0 := rfl
  obtain ⟨RB, hRB⟩ : ∃ r, recB [7] = r := ⟨_, rfl⟩
  have hl : RB.length = 11 := by rw [← hRB, recB_len]; rfl
  have HC := Lib.hid hc
  have HR := Lib.hid hRB
  have HL := Lib.hid hl
  have h512 : ([7] : List UInt8).length ≤ 512 := by decide
  clear hc hRB hl
  go_enter Try.func29, Try.ntmps29
  go_wp2_with (first
    | (go_at_call 54; refine (record_any _ _ [7] _ B0.out).mono ?_; rw [HC.out]; rintro e w1 ⟨v, rfl, r, o⟩
       have rr : ∃ A n c, v = .slice A n c ∧ w1.ownsRow (w.alloc (.cells #[.int .u8 7] 5)).heap.size 5 1 (.slice A n c) RB.length (byts RB) := by
         rcases r with ⟨_, h⟩ | ⟨h, _⟩
         · rw [← HR.out]; exact h
         · exact absurd HC.out h
       obtain ⟨A1, n1, c1, rfl, own1⟩ := rr
       obtain rfl : n1 = 11 := by rw [own_len own1]; exact HL.out
       have B1 := Lib.hid (Byt.of_own own1)
       have O1 := Lib.hid (O0.out.trans o)
       clear r o own1))
  have k0 := run_bytes_string w1.drew _ _ _ B1.out.drew
  have B2 := Lib.hid (byt_lit w1 [7] (by simp [maxLen]) 5 #[.int .u8 7] rfl w1.heap.size rfl 1 rfl).drew
  have P2 := Lib.hid ((Only.refl none_ w1).alloc (.cells #[.int .u8 7] 5)).drew
  have k1 := run_bytes_string (w1.alloc (.cells #[.int .u8 7] 5)).drew _ _ _ (B1.out.only P2.out (fun _ _ h => h))
  go_region_held3 (fun w' => (convert 71 9 (.slice A1 11 c1)).run Try.prog w' = .ok (.string ⟨RB.toArray⟩) w')
    (first | with_reducible exact k0 | with_reducible exact k1 | with_reducible exact ⟨k3, k2⟩)
    (first
      | (go_at_call 55; refine (rf_record7 _ [7] _ _ B2.out h512).mono ?_; rw [HR.out]; rintro e w2 ⟨A2, n2, c2, rfl, hm2, o2⟩
         have O2 := P2.out.trans o2
         have k2 := run_bytes_string w2 _ _ _ (Byt.of_own hm2)
         have k3 := run_bytes_string w2 _ _ _ (B1.out.only O2 (fun _ _ h => h))
         clear hm2 o2
         have eK := shut_more (fun w' => (convert 71 9 (.slice A1 11 c1)).run Try.prog w' = .ok (.string ⟨RB.toArray⟩) w' ∧ (convert 71 9 (.slice A2 n2 c2)).run Try.prog w' = .ok (.string ⟨RB.toArray⟩) w') (fun _ h => h.1) ‹Shut _›
         simp only [eK] at *
         clear eK))
  all_goals
    go_wp2_with fail
    go_ret
    exact ⟨rfl, O1.out.trans O2⟩
end Go.Proofs.Ytbhdnhnkiibaaaa
