/- What package stamp's Compare does, and what it calls. No statement of the seat is proved here. -/
import Derived.Test.YtclngnoapfjghaaStM
import Derived.Test.YtclngnoapfjghaaChecked
import Derived.Test.YtclngnoapfjghaaBase
import Derived.Deep.QuietTactic
import Derived.BigQuiet
namespace Go.Proofs.Ytclngnoapfjghaa
open Go.RowKit
set_option maxRecDepth 100000

theorem isNaN_int (n : Int) (w : World) :
    Calls Try.prog 94 #[.int .i64 n] w fun e w' => e = .returned (.bool false) ∧ w = w' := by
  have h : (n != n) = false := by simp
  go_enter Try.func94, Try.ntmps94
  go_wp2
  go_ret
  exact ⟨rfl, rfl⟩
theorem cmp_int (a b : Int) (w : World) :
    Calls Try.prog 73 #[.int .i64 a, .int .i64 b] w fun e w' => e = .returned (.int .i64 (cmpI a b)) ∧ w = w' := by
  by_cases h1 : a < b
  · have H : Hid (cmpI a b = -1) := by simp [Hid, cmpI, h1]
    go_enter Try.func73, Try.ntmps73
    go_wp2_with (go_at_call 94; refine (isNaN_int _ _).mono ?_; rintro e w' ⟨rfl, rfl⟩)
    go_ret
    rw [H.out]
    exact ⟨rfl, rfl⟩
  · by_cases h2 : b < a
    · have H : Hid (cmpI a b = 1) := by simp [Hid, cmpI, h1, h2]
      go_enter Try.func73, Try.ntmps73
      go_wp2_with (go_at_call 94; refine (isNaN_int _ _).mono ?_; rintro e w' ⟨rfl, rfl⟩)
      go_ret
      rw [H.out]
      exact ⟨rfl, rfl⟩
    · have H : Hid (cmpI a b = 0) := by simp [Hid, cmpI, h1, h2]
      go_enter Try.func73, Try.ntmps73
      go_wp2_with (go_at_call 94; refine (isNaN_int _ _).mono ?_; rintro e w' ⟨rfl, rfl⟩)
      go_ret
      rw [H.out]
      exact ⟨rfl, rfl⟩

theorem st_compare (c s c' s' : Int) (w : World) :
    Calls Try.prog 50 #[.agg #[.int .i64 c, .int .i64 s], .agg #[.int .i64 c', .int .i64 s']] w fun e w' => e = .returned (.int .i64 (stCmp ⟨c, s⟩ ⟨c', s'⟩)) ∧ Only none_ w w' := by
  have O := Lib.hid (((Only.refl none_ w).alloc (.cells #[.int .i64 c, .int .i64 s] 37)).alloc (.cells #[.int .i64 c', .int .i64 s'] 37))
  obtain ⟨r, hr⟩ : ∃ r, cmpI c c' = r := ⟨_, rfl⟩
  have HR := Lib.hid hr
  by_cases h : c = c'
  · have hz : (r != 0) = false := by subst h hr; simp [cmpI]
    have H : Hid (stCmp ⟨c, s⟩ ⟨c', s'⟩ = cmpI s s') := by simp [Hid, stCmp, h]
    clear h hr
    go_enter Try.func50, Try.ntmps50
    go_wp2_with (first
      | (go_at_call 73; refine (cmp_int _ _ _).mono ?_; rintro e w' ⟨rfl, rfl⟩; first | rw [HR.out] | skip))
    go_ret
    rw [H.out]
    exact ⟨rfl, O.out⟩
  · have hz : (r != 0) = true := by
      have := mt (cmpI_zero c c').1 h
      rw [hr] at this
      simpa using this
    have H : Hid (stCmp ⟨c, s⟩ ⟨c', s'⟩ = r) := by simp [Hid, stCmp, h, hr]
    clear h hr
    go_enter Try.func50, Try.ntmps50
    go_wp2_with (first
      | (go_at_call 73; refine (cmp_int c c' _).mono ?_; rintro e w' ⟨rfl, rfl⟩; rw [HR.out]))
    go_ret
    rw [H.out]
    exact ⟨rfl, O.out⟩
end Go.Proofs.Ytclngnoapfjghaa
