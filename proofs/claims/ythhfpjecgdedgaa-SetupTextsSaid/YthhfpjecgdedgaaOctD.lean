/- What take of a reader of package octets does. No statement of the seat is proved here. -/
import Derived.Test.YthhfpjecgdedgaaOctR
namespace Go.Proofs.Ythhfpjecgdedgaa
open Go.RowKit
set_option linter.all false

theorem take_ok (g : Nat) (S : Nat → Prop) (bs : List UInt8) (n : Nat) (w : World) (h : Rd w g S 0 bs) (hn : n ≤ bs.length) (_hm : bs.length ≤ 9223372036854775807) :
    Calls Try.prog 50 #[.pointer (some ⟨g, 0, none⟩), .int .i64 (n : Int)] w fun e w' =>
      ∃ A c, e = .returned (.tuple #[.slice A n c, .bool true]) ∧ Byt w' S (.slice A n c) (bs.take n) ∧ Rd w' g S 0 (bs.drop n) ∧ Only (one g) w w' := by
  obtain ⟨A, c, hb, hy, hs⟩ := h
  have h1 : w.cell? ⟨g, 1, none⟩ = some (.slice A bs.length c) := hb.cell_ rfl
  have h0 := hb.frozen 1
  obtain ⟨i0, hi0, _, hz1, _⟩ := info_parts u8_info
  obtain ⟨A1, r1, b1⟩ := byt_hi Try.underlying48 hi0 hy n hn _ rfl
  obtain ⟨A2, L2, c2, r2, b2⟩ := byt_lo Try.underlying48 hi0 hz1 hy n hn _ rfl
  have HB := Lib.hid hb
  have HE : ∀ w', w = w' → Rd w' g S 0 bs := by rintro w' rfl; exact ⟨A, c, hb, hy, hs⟩
  have HH := Lib.hid HE
  have B1 := Lib.hid b1
  have B2 := Lib.hid b2
  clear hb hy HE b1 b2 hi0 hz1
  go_enter Try.func50, Try.ntmps50
  go_wp2_with (first
      | (go_at_call 52; refine (reader_err _ _ _ _ _ (HH.out _ rfl)).mono ?_; rintro e w' ⟨rfl, rfl⟩))
  go_ret2
  have o1 : Only (one g) w (w.setCell ⟨g, 1, none⟩ (.slice A2 L2 c2)) := (Only.refl (one g) w).setCell (.inl (show one g g from rfl)) _
  have hL : L2 = (bs.drop n).length := by
    obtain ⟨_, _, he, _⟩ := B2.out
    injection he
  refine ⟨A1, c, rfl, B1.out.only o1 (fun b hb e => hs (e ▸ hb)), ⟨A2, c2, ?_, ?_, hs⟩, o1⟩
  · rw [← hL]
    exact HB.out.set_ 1 (.slice A2 L2 c2)
  · rw [← hL]
    exact B2.out.only o1 (fun b hb e => hs (e ▸ hb))

def takeCode (code : Int) (bs : List UInt8) (n : Nat) : Int := if bs.length < n then first_ code 6 else code
theorem take_no (g : Nat) (S : Nat → Prop) (code : Int) (bs : List UInt8) (n : Nat) (w : World) (h : Rd w g S code bs) (hn : code ≠ 0 ∨ bs.length < n) (_hm : bs.length ≤ 9223372036854775807) :
    Calls Try.prog 50 #[.pointer (some ⟨g, 0, none⟩), .int .i64 (n : Int)] w fun e w' =>
      e = .returned (.tuple #[.slice none 0 0, .bool false]) ∧ Rd w' g S (takeCode code bs n) bs ∧ Only (one g) w w' := by
  have H := Lib.hid h
  obtain ⟨A, c, hb, hy, hs⟩ := h
  have h1 : w.cell? ⟨g, 1, none⟩ = some (.slice A bs.length c) := hb.cell_ rfl
  clear hb hy
  by_cases h0 : bs.length < n
  · have HT : Hid (takeCode code bs n = first_ code 6) := by simp only [Hid, takeCode, if_pos h0]
    have hf : (first_ code 6 != 0) = true := by unfold first_; split <;> simp_all
    clear hn
    go_enter Try.func50, Try.ntmps50
    go_wp2_with (first
      | (go_at_call 46; refine (reader_fail _ _ _ _ _ _ H.out).mono ?_; rintro e w1 ⟨rfl, h2, o2⟩; have H2 := Lib.hid h2; clear h2)
      | (go_at_call 52; refine (reader_err _ _ _ _ _ H2.out).mono ?_; rintro e w' ⟨rfl, rfl⟩))
    go_ret2
    rw [HT.out]
    exact ⟨rfl, H2.out, o2⟩
  · have HT : Hid (takeCode code bs n = code) := by simp only [Hid, takeCode, if_neg h0]
    have hf : (code != 0) = true := by rcases hn with h | h <;> simp_all
    clear hn
    go_enter Try.func50, Try.ntmps50
    go_wp2_with (first
      | (go_at_call 52; refine (reader_err _ _ _ _ _ H.out).mono ?_; rintro e w' ⟨rfl, rfl⟩))
    go_ret2
    rw [HT.out]
    exact ⟨rfl, H.out, Only.refl _ _⟩
end Go.Proofs.Ythhfpjecgdedgaa
