/- What the document's own calls Done and Text give. No statement of the seat is proved here. -/
import Derived.Test.YthhfpjecgdedgaaRefU
namespace Go.Proofs.Ythhfpjecgdedgaa
open Go.RowKit
set_option linter.all false
set_option maxRecDepth 100000
attribute [local go_sem ↓] Go.wp_at_zero Go.wp_at_succ

set_option maxHeartbeats 800000 in
theorem ref_done (A : Option Addr) (L c : Nat) (bs : List UInt8) (k : Nat) (err : Int) (w : World) (hLb : L = bs.length) (hk : k ≤ L) (hL : L ≤ 100000) :
    Calls Try.prog 44 #[.agg #[.slice A L c, .int .i64 (k : Int), .int .i64 err]] w fun E w' =>
      E = .returned (.agg #[.slice A L c, .int .i64 (k : Int), .int .i64 (doneCode err (bs.drop k))]) ∧ Only none_ w w' := by
  have hB1 := blk_two w 79 #[.slice A L c, .int .i64 (k : Int), .int .i64 err] #[.slice none 0 0, .int .i64 0, .int .i64 0]
  by_cases h : k < L
  · have HR : Hid (doneCode err (bs.drop k) = first_ err 4) := by rw [Hid, doneCode, if_pos (by simp; omega)]
    clear hLb
    go_enter Try.func44, Try.ntmps44
    go_wp2_with (first
      | (go_at_call 54; refine (ref_fail _ _ _ _ _ _ _).mono ?_; rintro e w1 ⟨rfl, o1⟩; have O1 := Lib.hid o1
         have B4 := Lib.hid (hB1.1.only o1 (fun h => h))
         obtain ⟨f0, f1, f2, g0, g1, g2⟩ := cur_facts B4.out
         clear o1))
    refine bodyPost_ret (results_cell_row rfl _ _ (w.heap.size + 1) 79 _ (0, 0) _ rfl (blk_fill B4.out _ _ _) Try.underlying79 rfl (by kernel_rfl)) rfl ?_
    rw [HR.out]
    exact ⟨rfl, only_fill ((((Only.refl none_ w).alloc _).alloc _).trans O1.out) (.inr (by simp)) _ _ _⟩
  · have HR : Hid (doneCode err (bs.drop k) = err) := by rw [Hid, doneCode, if_neg (by simp; omega)]
    clear hLb
    go_enter Try.func44, Try.ntmps44
    go_wp2
    refine bodyPost_ret (results_cell_row rfl _ _ (w.heap.size + 1) 79 _ (0, 0) _ rfl (blk_two _ _ _ _).1 Try.underlying79 rfl (by kernel_rfl)) rfl ?_
    rw [HR.out]
    exact ⟨rfl, ((Only.refl none_ w).alloc _).alloc _⟩

end Go.Proofs.Ythhfpjecgdedgaa
