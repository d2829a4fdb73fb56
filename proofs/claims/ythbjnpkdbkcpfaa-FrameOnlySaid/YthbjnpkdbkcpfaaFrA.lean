/- What the small calls of package frame, and the document's Check, do. No statement of the seat is proved here. -/
import Derived.Test.YthbjnpkdbkcpfaaFrM
import Derived.Test.YthbjnpkdbkcpfaaByt
namespace Go.Proofs.Ythbjnpkdbkcpfaa
open Go.RowKit

theorem isSite_any (n : Int) (w : World) :
    Calls Try.prog 24 #[.int .i64 n] w fun e w' => e = .returned (.bool (siteB n)) ∧ w = w' := by
  by_cases h1 : 0 ≤ n
  · by_cases h2 : n < 12
    · have H : Hid (siteB n = true) := by simp [Hid, siteB, h1]; omega
      go_enter Try.func24, Try.ntmps24
      go_wp2
      go_ret
      rw [H.out]
      exact ⟨rfl, rfl⟩
    · have H : Hid (siteB n = false) := by simp [Hid, siteB]; omega
      go_enter Try.func24, Try.ntmps24
      go_wp2
      go_ret
      rw [H.out]
      exact ⟨rfl, rfl⟩
  · have H : Hid (siteB n = false) := by simp [Hid, siteB]; omega
    go_enter Try.func24, Try.ntmps24
    go_wp2
    go_ret
    rw [H.out]
    exact ⟨rfl, rfl⟩
theorem isKind_any (n : Int) (w : World) :
    Calls Try.prog 25 #[.int .i64 n] w fun e w' => e = .returned (.bool (kindB n)) ∧ w = w' := by
  by_cases h1 : 1 ≤ n
  · by_cases h2 : n ≤ 31
    · have H : Hid (kindB n = true) := by simp [Hid, kindB, h1, h2]
      go_enter Try.func25, Try.ntmps25
      go_wp2
      go_ret
      rw [H.out]
      exact ⟨rfl, rfl⟩
    · have H : Hid (kindB n = false) := by simp [Hid, kindB]; omega
      go_enter Try.func25, Try.ntmps25
      go_wp2
      go_ret
      rw [H.out]
      exact ⟨rfl, rfl⟩
  · have H : Hid (kindB n = false) := by simp [Hid, kindB]; omega
    go_enter Try.func25, Try.ntmps25
    go_wp2
    go_ret
    rw [H.out]
    exact ⟨rfl, rfl⟩

/-- A frame, by value: its numbers, and a slice that reads as its body, in blocks of which S holds. -/
def FrV (w : World) (S : Nat → Prop) (v : Value) (x : Fr) : Prop :=
  ∃ A c, v = .agg #[.int .i64 x.f, .int .i64 x.t, .int .i64 x.k, .slice A x.b.length c] ∧ Byt w S (.slice A x.b.length c) x.b

set_option maxHeartbeats 1600000 in
theorem check_any (f t k : Int) (A : Option Addr) (b : List UInt8) (c : Nat) (w : World) :
    Calls Try.prog 11 #[.agg #[.int .i64 f, .int .i64 t, .int .i64 k, .slice A b.length c]] w fun e w' => e = .returned (.int .i64 (frCode ⟨f, t, k, b⟩)) ∧ Only none_ w w' := by
  obtain ⟨n, hn⟩ : ∃ n, n = b.length := ⟨_, rfl⟩
  have HC : Hid (frCode ⟨f, t, k, b⟩ = if siteB f && siteB t && kindB k then (if 1024 < n then 7 else 0) else 1) := by rw [Hid, frCode, hn]; rfl
  rw [← hn]
  have O := Lib.hid ((Only.refl none_ w).alloc (.cells #[.int .i64 f, .int .i64 t, .int .i64 k, .slice A n c] 47))
  clear hn
  cases hf : siteB f
  · have F := Lib.hid hf
    rw [hf] at HC
    clear hf
    go_enter Try.func11, Try.ntmps11
    go_wp2_with (first
      | (go_at_call 24; refine (isSite_any _ _).mono ?_; rintro e w' ⟨rfl, rfl⟩; rw [F.out]))
    go_ret
    rw [HC.out]
    exact ⟨rfl, O.out⟩
  · have F := Lib.hid hf
    rw [hf] at HC
    clear hf
    cases ht : siteB t
    · have T := Lib.hid ht
      rw [ht] at HC
      clear ht
      go_enter Try.func11, Try.ntmps11
      go_wp2_with (first
        | (go_at_call 24; refine (isSite_any _ _).mono ?_; rintro e w' ⟨rfl, rfl⟩; first | rw [F.out] | rw [T.out]))
      go_ret
      rw [HC.out]
      exact ⟨rfl, O.out⟩
    · have T := Lib.hid ht
      rw [ht] at HC
      clear ht
      cases hk : kindB k
      · have K := Lib.hid hk
        rw [hk] at HC
        clear hk
        go_enter Try.func11, Try.ntmps11
        go_wp2_with (first
          | (go_at_call 24; refine (isSite_any _ _).mono ?_; rintro e w' ⟨rfl, rfl⟩; first | rw [F.out] | rw [T.out])
          | (go_at_call 25; refine (isKind_any k _).mono ?_; rintro e w' ⟨rfl, rfl⟩; rw [K.out]))
        go_ret
        rw [HC.out]
        exact ⟨rfl, O.out⟩
      · have K := Lib.hid hk
        rw [hk] at HC
        clear hk
        by_cases hl : 1024 < n
        · rw [if_pos hl] at HC
          go_enter Try.func11, Try.ntmps11
          go_wp2_with (first
            | (go_at_call 24; refine (isSite_any _ _).mono ?_; rintro e w' ⟨rfl, rfl⟩; first | rw [F.out] | rw [T.out])
            | (go_at_call 25; refine (isKind_any k _).mono ?_; rintro e w' ⟨rfl, rfl⟩; rw [K.out]))
          go_ret
          rw [HC.out]
          exact ⟨rfl, O.out⟩
        · rw [if_neg hl] at HC
          go_enter Try.func11, Try.ntmps11
          go_wp2_with (first
            | (go_at_call 24; refine (isSite_any _ _).mono ?_; rintro e w' ⟨rfl, rfl⟩; first | rw [F.out] | rw [T.out])
            | (go_at_call 25; refine (isKind_any k _).mono ?_; rintro e w' ⟨rfl, rfl⟩; rw [K.out]))
          go_ret
          rw [HC.out]
          exact ⟨rfl, O.out⟩
end Go.Proofs.Ythbjnpkdbkcpfaa
