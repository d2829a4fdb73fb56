/- What Flag and Text of package octets do. No statement of the seat is proved here. -/
import Derived.Test.YtdjondjlengapaaOctK
import Derived.Test.YtdjondjlengapaaOctE
namespace Go.Proofs.Ytdjondjlengapaa
open Go.RowKit

/-- A yes or a no asked for. -/
def flagR (code : Int) (bs : List UInt8) : Int × List UInt8 × Bool :=
  match bs with
  | [] => (first_ code 6, [], false)
  | b :: r => if code ≠ 0 then (code, b :: r, false) else if 1 < b.toNat then (4, b :: r, false) else (0, r, decide (b.toNat = 1))
theorem peekCode_cons (code : Int) (b : UInt8) (r : List UInt8) : peekCode code (b :: r) = code := by simp [peekCode]
theorem peekCode_nil (code : Int) : peekCode code [] = first_ code 6 := by simp [peekCode]

theorem reader_flag (g : Nat) (S : Nat → Prop) (code : Int) (bs : List UInt8) (w : World) (h : Rd w g S code bs) (hm : bs.length ≤ 140737488355328) :
    Calls Try.prog 70 #[.pointer (some ⟨g, 0, none⟩)] w fun e w' =>
      e = .returned (.bool (flagR code bs).2.2) ∧ Rd w' g S (flagR code bs).1 (flagR code bs).2.1 ∧ Only (one g) w w' := by
  have H := Lib.hid h
  clear h
  by_cases hc : code ≠ 0 ∨ bs.length = 0
  · have HR : Hid (flagR code bs = (peekCode code bs, bs, false)) := by
      cases bs with
      | nil => simp [Hid, flagR, peekCode_nil]
      | cons b r =>
        have : code ≠ 0 := by simpa using hc
        simp [Hid, flagR, peekCode_cons, this]
    have HC := Lib.hid hc
    clear hc
    go_enter Try.func70, Try.ntmps70
    go_wp2_with (first
        | (go_at_call 94; refine (peek_no _ _ _ _ _ H.out HC.out (by omega)).mono ?_; rintro e w1 ⟨rfl, h2, o2⟩; have H2 := Lib.hid h2; clear h2))
    go_ret
    rw [HR.out]
    exact ⟨rfl, H2.out, o2⟩
  · obtain ⟨rfl, h1⟩ : code = 0 ∧ bs.length ≠ 0 := by
      refine ⟨Classical.byContradiction fun h => hc (.inl h), fun h => hc (.inr h)⟩
    clear hc
    match bs, h1, H, hm with
    | b :: r, _, H, hm =>
    have hb := b.toNat_lt
    simp only [List.length_cons] at hm
    by_cases hb1 : 1 < b.toNat
    · have HR : Hid (flagR 0 (b :: r) = (first_ 0 4, b :: r, false)) := by simp [Hid, flagR, hb1, first_]
      go_enter Try.func70, Try.ntmps70
      go_wp2_with (first
        | (go_at_call 94; refine (peek_ok _ _ _ _ _ H.out (by omega)).mono ?_; rintro e w' ⟨rfl, rfl⟩)
        | (go_at_call 47; refine (reader_fail _ _ _ _ _ _ H.out).mono ?_; rintro e w1 ⟨rfl, h2, o2⟩; have H2 := Lib.hid h2; clear h2))
      go_ret
      rw [HR.out]
      exact ⟨rfl, H2.out, o2⟩
    · have HR : Hid (flagR 0 (b :: r) = (0, r, decide (b.toNat = 1))) := by simp [Hid, flagR, hb1]
      go_enter Try.func70, Try.ntmps70
      go_wp2_with (first
        | (go_at_call 94; refine (peek_ok _ _ _ _ _ H.out (by omega)).mono ?_; rintro e w' ⟨rfl, rfl⟩)
        | (go_at_call 95; refine (take_ok _ _ _ 1 _ H.out (by simp) (by simp only [List.length_cons]; omega)).mono ?_; rintro e w1 ⟨A, c, rfl, hb1, h2, o2⟩; have H2 := Lib.hid h2; clear h2))
      go_ret
      rw [HR.out]
      refine ⟨?_, H2.out, o2⟩
      show Ending.returned (.bool ((b.toNat : Int) == 1)) = .returned (.bool (decide (b.toNat = 1)))
      congr 2
      rw [Bool.eq_iff_iff]
      simp only [beq_iff_eq, decide_eq_true_eq]
      omega

/-- A text asked for. -/
def textR (code : Int) (bs : List UInt8) (most : Int) : Int × List UInt8 × List UInt8 :=
  match bs with
  | [] => (first_ code 6, [], [])
  | b :: r => if code ≠ 0 then (code, b :: r, []) else if most < (b.toNat : Int) then (4, b :: r, []) else if r.length < b.toNat then (6, b :: r, []) else (0, r.drop b.toNat, r.take b.toNat)

set_option maxRecDepth 100000 in
set_option maxHeartbeats 400000 in
theorem reader_text (g : Nat) (S : Nat → Prop) (code : Int) (bs : List UInt8) (most : Int) (w : World) (h : Rd w g S code bs) (hm : bs.length ≤ 140737488355328) :
    Calls Try.prog 69 #[.pointer (some ⟨g, 0, none⟩), .int .i64 most] w fun e w' =>
      e = .returned (.string ⟨(textR code bs most).2.2.toArray⟩) ∧ Rd w' g S (textR code bs most).1 (textR code bs most).2.1 ∧ Only (one g) w w' := by
  have H := Lib.hid h
  clear h
  by_cases hc : code ≠ 0 ∨ bs.length = 0
  · have HR : Hid (textR code bs most = (peekCode code bs, bs, [])) := by
      cases bs with
      | nil => simp [Hid, textR, peekCode_nil]
      | cons b r =>
        have : code ≠ 0 := by simpa using hc
        simp [Hid, textR, peekCode_cons, this]
    have HC := Lib.hid hc
    clear hc
    go_enter Try.func69, Try.ntmps69
    go_wp2_with (first
        | (go_at_call 94; refine (peek_no _ _ _ _ _ H.out HC.out (by omega)).mono ?_; rintro e w1 ⟨rfl, h2, o2⟩; have H2 := Lib.hid h2; clear h2))
    go_ret
    rw [HR.out]
    exact ⟨rfl, H2.out, o2⟩
  · obtain ⟨rfl, h1⟩ : code = 0 ∧ bs.length ≠ 0 := by
      refine ⟨Classical.byContradiction fun h => hc (.inl h), fun h => hc (.inr h)⟩
    clear hc
    match bs, h1, H, hm with
    | b :: r, _, H, hm =>
    have hb := b.toNat_lt
    simp only [List.length_cons] at hm
    by_cases hb1 : most < (b.toNat : Int)
    · have HR : Hid (textR 0 (b :: r) most = (first_ 0 4, b :: r, [])) := by simp [Hid, textR, hb1, first_]
      go_enter Try.func69, Try.ntmps69
      go_wp2_with (first
        | (go_at_call 94; refine (peek_ok _ _ _ _ _ H.out (by omega)).mono ?_; rintro e w' ⟨rfl, rfl⟩)
        | (go_at_call 47; refine (reader_fail _ _ _ _ _ _ H.out).mono ?_; rintro e w1 ⟨rfl, h2, o2⟩; have H2 := Lib.hid h2; clear h2))
      go_ret
      rw [HR.out]
      exact ⟨rfl, H2.out, o2⟩
    · by_cases hl : r.length < b.toNat
      · have HR : Hid (textR 0 (b :: r) most = (takeCode 0 (b :: r) (1 + b.toNat), b :: r, [])) := by
          have h6 : r.length + 1 < 1 + b.toNat := by omega
          simp [Hid, textR, takeCode, first_, hb1, hl, h6]
        have HT := take_no g S 0 (b :: r) (1 + b.toNat) w H.out (.inr (by simp only [List.length_cons]; omega)) (by simp only [List.length_cons]; omega)
        rw [show ((1 + b.toNat : Nat) : Int) = 1 + (b.toNat : Int) from by omega] at HT
        go_enter Try.func69, Try.ntmps69
        go_wp2_with (first
          | (go_at_call 94; refine (peek_ok _ _ _ _ _ H.out (by omega)).mono ?_; rintro e w' ⟨rfl, rfl⟩)
          | (go_at_call 95; refine HT.mono ?_; rintro e w1 ⟨rfl, h2, o2⟩; have H2 := Lib.hid h2; clear h2))
        go_ret
        rw [HR.out]
        exact ⟨rfl, H2.out, o2⟩
      · have HR : Hid (textR 0 (b :: r) most = (0, (b :: r).drop (1 + b.toNat), ((b :: r).take (1 + b.toNat)).tail)) := by
          simp only [Hid, textR, hb1, hl, if_false]
          rw [Nat.add_comm 1]
          simp
        have HT := take_ok g S (b :: r) (1 + b.toNat) w H.out (by simp only [List.length_cons]; omega) (by simp only [List.length_cons]; omega)
        rw [show ((1 + b.toNat : Nat) : Int) = 1 + (b.toNat : Int) from by omega] at HT
        obtain ⟨i0, hi0, _, hz1, _⟩ := info_parts u8_info
        have HI := Lib.hid hi0
        have HZ := Lib.hid hz1
        clear hi0 hz1
        go_enter Try.func69, Try.ntmps69
        go_wp2_with (first
          | (go_at_call 94; refine (peek_ok _ _ _ _ _ H.out (by omega)).mono ?_; rintro e w' ⟨rfl, rfl⟩)
          | (go_at_call 95; refine HT.mono ?_; rintro e w1 ⟨A, c, rfl, hb2, h2, o2⟩
             obtain ⟨A2, L2, c2, r2, b2⟩ := byt_lo Try.underlying22 HI.out HZ.out hb2 1 (by omega) 1 rfl
             have hs2 := run_bytes_string w1 _ _ _ b2
             have H2 := Lib.hid h2; clear h2 hb2 b2))
        go_ret
        rw [HR.out]
        exact ⟨rfl, H2.out, o2⟩

end Go.Proofs.Ytdjondjlengapaa
