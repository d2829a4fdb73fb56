/- The example of the document's chapter on dice. No statement of the seat is proved here. -/
import Derived.Test.YtifeapknnnhhnaaDcD
import Derived.Test.YtifeapknnnhhnaaDcF
namespace Go.Proofs.Ytifeapknnnhhnaa
open Go.RowKit
set_option linter.all false
set_option maxRecDepth 100000

theorem nm_made (w : World) (t : TypeId) (zs : List Int) (h : zs.length ≤ 4096) : Nm (w.alloc (.cells (nums zs).toArray t)) (fun b => b = w.heap.size) (.slice (some ⟨w.heap.size, 0, none⟩) zs.length zs.length) zs := by
  have := cel_made w t 1 zs.length (nums zs).toArray (by simp) (by simp only [maxLen]; omega)
  unfold Nm
  simpa using this

set_option maxHeartbeats 3200000 in
theorem dc_speaks (w : World) :
    Calls Try.prog 6 #[] w fun e w' => e = .returned (.bool true) ∧ Only none_ w w' := by
  have O0 : Hid (Only none_ w (w.alloc (.cells #[.int .i64 7, .int .i64 1] 3))) := (Only.refl none_ w).alloc _
  have N0 : Hid (Nm (w.alloc (.cells #[.int .i64 7, .int .i64 1] 3)) (fun b => b = w.heap.size) (.slice (some ⟨w.heap.size, 0, none⟩) 2 2) [7, 1]) := nm_made w 3 [7, 1] (by decide)
  go_enter Try.func6, Try.ntmps6
  go_wp2_with (first
    | (go_at_call 8; refine (dc_new _ [7, 1] _ _ N0.out (by decide)).mono ?_; rintro E w1 ⟨d, v1, rfl, d1, o1⟩
       have O1 := Lib.hid (O0.out.trans o1)
       have D1 := Lib.hid (d1.base O0.out.size)
       clear d1 o1)
    | (go_at_call 16; refine (dc_draw w.heap.size d v1 [7, 1] 4 _ D1.out ⟨by decide, by decide⟩).mono ?_; rintro E w2 ⟨rfl, v2, d2, o2, m2⟩
       have e2 : drN [7, 1] 4 = 3 := by decide
       have D2 : Hid (Dc w2 w.heap.size d v2 [1]) := d2
       have O2 : Hid (Only none_ w w2) := O1.out.trans' o2 (fun k hk e => by have e' : k = d := e; have := D1.out.ge; omega)
       have O3 : Hid (Only none_ w (w2.alloc (.cells #[.int .i64 5, .int .i64 6, .int .i64 7] 3))) := O2.out.alloc _
       have D3 : Hid (Dc (w2.alloc (.cells #[.int .i64 5, .int .i64 6, .int .i64 7] 3)) w.heap.size d v2 [1]) := d2.keep ((Only.refl none_ w2).alloc _)
       have N3 : Hid (Nm (w2.alloc (.cells #[.int .i64 5, .int .i64 6, .int .i64 7] 3)) (fun b => b = w2.heap.size) (.slice (some ⟨w2.heap.size, 0, none⟩) 3 3) [5, 6, 7]) := nm_made w2 3 [5, 6, 7] (by decide)
       rw [e2]
       clear d2 o2 m2 e2)
    | (go_at_call 14; refine (dc_some w.heap.size d v2 _ [1] [5, 6, 7] 2 _ _ D3.out N3.out (by decide)).mono ?_; rintro E w4 ⟨v4, v5, rfl, n4, d4, o4, m4⟩
       have e4 : (sqN [1] [5, 6, 7] (clampK 2 ([5, 6, 7] : List Int).length)).out = [6, 5] := by decide
       rw [e4] at n4
       obtain ⟨A4, c4, rfl⟩ := n4.shape
       have N4 : Hid (Nm (w4.alloc (.cells #[.int .i64 6, .int .i64 5] 3)) (fun b => (w2.alloc (.cells #[.int .i64 5, .int .i64 6, .int .i64 7] 3)).heap.size ≤ b) (.slice A4 2 c4) [6, 5]) := n4.keep ((Only.refl none_ w4).alloc _)
       have N5 : Hid (Nm (w4.alloc (.cells #[.int .i64 6, .int .i64 5] 3)) (fun b => b = w4.heap.size) (.slice (some ⟨w4.heap.size, 0, none⟩) 2 2) [6, 5]) := nm_made w4 3 [6, 5] (by decide)
       have O5 : Hid (Only none_ w (w4.alloc (.cells #[.int .i64 6, .int .i64 5] 3))) := (O3.out.trans' o4 (fun k hk e => by have e' : k = d := e; have := D1.out.ge; omega)).alloc _
       clear n4 d4 o4 m4 e4)
    | (go_at_call 13; refine (rf_same _ _ [6, 5] [6, 5] _ _ _ N4.out N5.out).mono ?_; rintro E w6 ⟨rfl, o6⟩
       have O6 := Lib.hid (O5.out.trans o6)
       clear o6))
  go_ret
  exact ⟨rfl, O6.out⟩
end Go.Proofs.Ytifeapknnnhhnaa
