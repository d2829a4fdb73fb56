/- What package stamp's small calls do: which sites and stamps may be. No statement of the seat is proved here. -/
import Derived.Test.YtclngnoapfjghaaStM
import Derived.Test.YtclngnoapfjghaaChecked
import Derived.Test.YtclngnoapfjghaaBase
import Derived.Deep.QuietTactic
import Derived.BigQuiet
namespace Go.Proofs.Ytclngnoapfjghaa
open Go.RowKit
set_option maxRecDepth 100000

theorem st_isSite (n : Int) (w : World) :
    Calls Try.prog 122 #[.int .i64 n] w fun e w' => e = .returned (.bool (stSite n)) ∧ w = w' := by
  by_cases h1 : 0 ≤ n
  · by_cases h2 : n < 12
    · have H : Hid (stSite n = true) := by simp [Hid, stSite, h1]; omega
      go_enter Try.func122, Try.ntmps122
      go_wp2
      go_ret
      rw [H.out]
      exact ⟨rfl, rfl⟩
    · have H : Hid (stSite n = false) := by simp [Hid, stSite]; omega
      go_enter Try.func122, Try.ntmps122
      go_wp2
      go_ret
      rw [H.out]
      exact ⟨rfl, rfl⟩
  · have H : Hid (stSite n = false) := by simp [Hid, stSite]; omega
    go_enter Try.func122, Try.ntmps122
    go_wp2
    go_ret
    rw [H.out]
    exact ⟨rfl, rfl⟩

theorem st_good (c s : Int) (w : World) :
    Calls Try.prog 116 #[.agg #[.int .i64 c, .int .i64 s]] w fun e w' => e = .returned (.bool (stGood ⟨c, s⟩)) ∧ Only none_ w w' := by
  have O := Lib.hid ((Only.refl none_ w).alloc (.cells #[.int .i64 c, .int .i64 s] 37))
  obtain ⟨b, hb⟩ : ∃ b, stSite s = b := ⟨_, rfl⟩
  have HB := Lib.hid hb
  have HG : Hid (stGood ⟨c, s⟩ = (decide (1 ≤ c ∧ c ≤ 4294967295) && b)) := by rw [Hid, stGood, hb]
  clear hb
  by_cases h1 : 1 ≤ c
  · by_cases h2 : c ≤ 4294967295
    · have H : Hid (stGood ⟨c, s⟩ = b) := by rw [Hid, HG.out]; simp [h1, h2]
      go_enter Try.func116, Try.ntmps116
      go_wp2_with (first
        | (go_at_call 122; refine (st_isSite _ _).mono ?_; rintro e w' ⟨rfl, rfl⟩; rw [HB.out]))
      go_ret
      rw [H.out]
      exact ⟨rfl, O.out⟩
    · have H : Hid (stGood ⟨c, s⟩ = false) := by rw [Hid, HG.out]; simp [h1, h2]
      go_enter Try.func116, Try.ntmps116
      go_wp2_with fail
      go_ret
      rw [H.out]
      exact ⟨rfl, O.out⟩
  · have H : Hid (stGood ⟨c, s⟩ = false) := by rw [Hid, HG.out]; simp [h1]
    go_enter Try.func116, Try.ntmps116
    go_wp2_with fail
    go_ret
    rw [H.out]
    exact ⟨rfl, O.out⟩
end Go.Proofs.Ytclngnoapfjghaa
