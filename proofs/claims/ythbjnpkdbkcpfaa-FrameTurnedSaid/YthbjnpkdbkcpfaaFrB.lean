/- What the document's Check, and the copies of frames' fields, do. No statement of the seat is proved here. -/
import Derived.Test.YthbjnpkdbkcpfaaFrA
namespace Go.Proofs.Ythbjnpkdbkcpfaa
open Go.RowKit

set_option maxHeartbeats 1600000 in
theorem refCheck_any (f t k : Int) (A : Option Addr) (b : List UInt8) (c : Nat) (w : World) :
    Calls Try.prog 8 #[.agg #[.int .i64 f, .int .i64 t, .int .i64 k, .slice A b.length c]] w fun e w' => e = .returned (.int .i64 (frCode ⟨f, t, k, b⟩)) ∧ Only none_ w w' := by
  obtain ⟨n, hn⟩ : ∃ n, n = b.length := ⟨_, rfl⟩
  have HC : frCode ⟨f, t, k, b⟩ = if siteB f && siteB t && kindB k then (if 1024 < n then 7 else 0) else 1 := by rw [frCode, hn]; rfl
  rw [← hn]
  have O := Lib.hid ((Only.refl none_ w).alloc (.cells #[.int .i64 f, .int .i64 t, .int .i64 k, .slice A n c] 24))
  clear hn
  have hor : (f < 0 ∨ (0 ≤ f ∧ 11 < f) ∨ (0 ≤ f ∧ f ≤ 11 ∧ t < 0) ∨ (0 ≤ f ∧ f ≤ 11 ∧ 0 ≤ t ∧ 11 < t) ∨ (0 ≤ f ∧ f ≤ 11 ∧ 0 ≤ t ∧ t ≤ 11 ∧ k < 1) ∨ (0 ≤ f ∧ f ≤ 11 ∧ 0 ≤ t ∧ t ≤ 11 ∧ 1 ≤ k ∧ 31 < k)) ∨ (0 ≤ f ∧ f ≤ 11 ∧ 0 ≤ t ∧ t ≤ 11 ∧ 1 ≤ k ∧ k ≤ 31) := by omega
  rcases hor with hbad | ⟨h1, h2, h3, h4, h5, h6⟩
  · have HD : Hid (frCode ⟨f, t, k, b⟩ = 1) := by
      rw [Hid, HC, if_neg]
      simp only [siteB, kindB, Bool.and_eq_true, decide_eq_true_eq]
      omega
    clear HC
    rcases hbad with h1 | ⟨h1, h2⟩ | ⟨h1, h2, h3⟩ | ⟨h1, h2, h3, h4⟩ | ⟨h1, h2, h3, h4, h5⟩ | ⟨h1, h2, h3, h4, h5, h6⟩
    all_goals
      go_enter Try.func8, Try.ntmps8
      go_wp2
      go_ret
      rw [HD.out]
      exact ⟨rfl, O.out⟩
  · have HD : Hid (frCode ⟨f, t, k, b⟩ = if 1024 < n then 7 else 0) := by
      rw [Hid, HC, if_pos]
      simp only [siteB, kindB, Bool.and_eq_true, decide_eq_true_eq]
      omega
    clear HC
    by_cases hl : 1024 < n
    · rw [if_pos hl] at HD
      go_enter Try.func8, Try.ntmps8
      go_wp2
      go_ret
      rw [HD.out]
      exact ⟨rfl, O.out⟩
    · rw [if_neg hl] at HD
      go_enter Try.func8, Try.ntmps8
      go_wp2
      go_ret
      rw [HD.out]
      exact ⟨rfl, O.out⟩

theorem head_any (f t k : Int) (A : Option Addr) (n c : Nat) (w : World) :
    Calls Try.prog 19 #[.agg #[.int .i64 f, .int .i64 t, .int .i64 k, .slice A n c]] w fun e w' => e = .returned (.agg #[.int .i64 f, .int .i64 t, .int .i64 k]) ∧ Only none_ w w' := by
  go_enter Try.func19, Try.ntmps19
  go_wp2
  exact bodyPost_ret (v := .agg #[.int .i64 f, .int .i64 t, .int .i64 k]) (by simp [results, Try.results19, go_sem]) rfl ⟨rfl, ((Only.refl none_ w).alloc _).alloc _⟩
theorem of_any (f t k : Int) (A : Option Addr) (n c : Nat) (w : World) :
    Calls Try.prog 10 #[.agg #[.int .i64 f, .int .i64 t, .int .i64 k, .slice A n c]] w fun e w' => e = .returned (.agg #[.int .i64 f, .int .i64 t, .int .i64 k, .slice A n c]) ∧ Only none_ w w' := by
  go_enter Try.func10, Try.ntmps10
  go_wp2
  exact bodyPost_ret (v := .agg #[.int .i64 f, .int .i64 t, .int .i64 k, .slice A n c]) (by simp [results, Try.results10, go_sem]) rfl ⟨rfl, ((Only.refl none_ w).alloc _).alloc _⟩
end Go.Proofs.Ythbjnpkdbkcpfaa
