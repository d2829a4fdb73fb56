/- The document's stamps: which may be, which is later; how they are turned to the program's and back. No statement of the seat is proved here. -/
import Derived.Test.YtclngnoapfjghaaStA
namespace Go.Proofs.Ytclngnoapfjghaa
open Go.RowKit
set_option maxRecDepth 100000

theorem rf_site (n : Int) (w : World) :
    Calls Try.prog 92 #[.int .i64 n] w fun e w' => e = .returned (.bool (stSite n)) ∧ w = w' := by
  by_cases h1 : 0 ≤ n
  · by_cases h2 : n < 12
    · have H : Hid (stSite n = true) := by simp [Hid, stSite, h1]; omega
      go_enter Try.func92, Try.ntmps92
      go_wp2
      go_ret
      rw [H.out]
      exact ⟨rfl, rfl⟩
    · have H : Hid (stSite n = false) := by simp [Hid, stSite]; omega
      go_enter Try.func92, Try.ntmps92
      go_wp2
      go_ret
      rw [H.out]
      exact ⟨rfl, rfl⟩
  · have H : Hid (stSite n = false) := by simp [Hid, stSite]; omega
    go_enter Try.func92, Try.ntmps92
    go_wp2
    go_ret
    rw [H.out]
    exact ⟨rfl, rfl⟩

theorem rf_good (c s : Int) (w : World) :
    Calls Try.prog 67 #[.agg #[.int .i64 c, .int .i64 s]] w fun e w' => e = .returned (.bool (stGood ⟨c, s⟩)) ∧ Only none_ w w' := by
  have O := Lib.hid ((Only.refl none_ w).alloc (.cells #[.int .i64 c, .int .i64 s] 29))
  obtain ⟨b, hb⟩ : ∃ b, stSite s = b := ⟨_, rfl⟩
  have HB := Lib.hid hb
  have HG : Hid (stGood ⟨c, s⟩ = (decide (1 ≤ c ∧ c ≤ 4294967295) && b)) := by rw [Hid, stGood, hb]
  clear hb
  by_cases h1 : 1 ≤ c
  · by_cases h2 : c ≤ 4294967295
    · have H : Hid (stGood ⟨c, s⟩ = b) := by rw [Hid, HG.out]; simp [h1, h2]
      go_enter Try.func67, Try.ntmps67
      go_wp2_with (first
        | (go_at_call 92; refine (rf_site _ _).mono ?_; rintro e w' ⟨rfl, rfl⟩; rw [HB.out]))
      go_ret
      rw [H.out]
      exact ⟨rfl, O.out⟩
    · have H : Hid (stGood ⟨c, s⟩ = false) := by rw [Hid, HG.out]; simp [h1, h2]
      go_enter Try.func67, Try.ntmps67
      go_wp2_with fail
      go_ret
      rw [H.out]
      exact ⟨rfl, O.out⟩
  · have H : Hid (stGood ⟨c, s⟩ = false) := by rw [Hid, HG.out]; simp [h1]
    go_enter Try.func67, Try.ntmps67
    go_wp2_with fail
    go_ret
    rw [H.out]
    exact ⟨rfl, O.out⟩

theorem rf_later (c s c' s' : Int) (w : World) :
    Calls Try.prog 52 #[.agg #[.int .i64 c, .int .i64 s], .agg #[.int .i64 c', .int .i64 s']] w fun e w' => e = .returned (.bool (stLater ⟨c, s⟩ ⟨c', s'⟩)) ∧ Only none_ w w' := by
  have O := Lib.hid (((Only.refl none_ w).alloc (.cells #[.int .i64 c, .int .i64 s] 29)).alloc (.cells #[.int .i64 c', .int .i64 s'] 29))
  by_cases h : c = c'
  · have hz : (c != c') = false := by simp [h]
    have H : Hid (stLater ⟨c, s⟩ ⟨c', s'⟩ = decide (s' < s)) := by simp [Hid, stLater, h]
    clear h
    go_enter Try.func52, Try.ntmps52
    go_wp2_with fail
    go_ret
    rw [H.out]
    exact ⟨rfl, O.out⟩
  · have hz : (c != c') = true := by simp [h]
    have H : Hid (stLater ⟨c, s⟩ ⟨c', s'⟩ = decide (c' < c)) := by simp [Hid, stLater, h]
    clear h
    go_enter Try.func52, Try.ntmps52
    go_wp2_with fail
    go_ret
    rw [H.out]
    exact ⟨rfl, O.out⟩

theorem st_to (c s : Int) (w : World) :
    Calls Try.prog 47 #[.agg #[.int .i64 c, .int .i64 s]] w fun e w' => e = .returned (.agg #[.int .i64 c, .int .i64 s]) ∧ Only none_ w w' := by
  have O := Lib.hid (((Only.refl none_ w).alloc (.cells #[.int .i64 c, .int .i64 s] 37)).alloc (.cells #[.int .i64 c, .int .i64 s] 29))
  go_enter Try.func47, Try.ntmps47
  go_wp2_with fail
  exact bodyPost_ret (v := .agg #[.int .i64 c, .int .i64 s]) (by simp [results, Try.results47, go_sem]) rfl ⟨rfl, O.out⟩
end Go.Proofs.Ytclngnoapfjghaa
