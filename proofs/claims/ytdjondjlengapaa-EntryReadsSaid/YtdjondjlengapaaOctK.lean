/- What peek of package octets does. No statement of the seat is proved here. -/
import Derived.Test.YtdjondjlengapaaOctD
import Derived.Test.YtdjondjlengapaaOctT
namespace Go.Proofs.Ytdjondjlengapaa
open Go.RowKit

theorem peek_ok (g : Nat) (S : Nat → Prop) (b : UInt8) (bs : List UInt8) (w : World) (h : Rd w g S 0 (b :: bs)) (hm : bs.length < 9223372036854775807) :
    Calls Try.prog 94 #[.pointer (some ⟨g, 0, none⟩)] w fun e w' =>
      e = .returned (.tuple #[.int .u8 (b.toNat : Int), .bool true]) ∧ w = w' := by
  have H := Lib.hid h
  obtain ⟨A, c, hb, hy, hs⟩ := h
  have h1 : w.cell? ⟨g, 1, none⟩ = some (.slice A (b :: bs).length c) := hb.cell_ rfl
  obtain ⟨A', c', he, _, _, _, h5⟩ := hy
  injection he with e1 e2 e3
  subst e1 e3
  obtain ⟨k, off, rfl, _, _, hc⟩ := h5 (by simp)
  have h2 := hc 0 (by simp)
  simp only [byt, List.getElem_cons_zero, Nat.add_zero] at h2
  simp only [List.length_cons] at h1
  clear hb h5 hc
  go_enter Try.func94, Try.ntmps94
  go_wp2_with (first
      | (go_at_call 17; refine (reader_err _ _ _ _ _ H.out).mono ?_; rintro e w' ⟨rfl, rfl⟩))
  go_ret2
  exact ⟨rfl, rfl⟩

def peekCode (code : Int) (bs : List UInt8) : Int := if bs.length = 0 then first_ code 6 else code
theorem peek_no (g : Nat) (S : Nat → Prop) (code : Int) (bs : List UInt8) (w : World) (h : Rd w g S code bs) (hn : code ≠ 0 ∨ bs.length = 0) (_hm : bs.length ≤ 9223372036854775807) :
    Calls Try.prog 94 #[.pointer (some ⟨g, 0, none⟩)] w fun e w' =>
      e = .returned (.tuple #[.int .u8 0, .bool false]) ∧ Rd w' g S (peekCode code bs) bs ∧ Only (one g) w w' := by
  have H := Lib.hid h
  obtain ⟨A, c, hb, hy, hs⟩ := h
  have h1 : w.cell? ⟨g, 1, none⟩ = some (.slice A bs.length c) := hb.cell_ rfl
  clear hb hy
  by_cases h0 : bs.length = 0
  · have HT : Hid (peekCode code bs = first_ code 6) := by simp only [Hid, peekCode, if_pos h0]
    have hf : (first_ code 6 != 0) = true := by unfold first_; split <;> simp_all
    have ht : ((bs.length : Int) == 0) = true := by simp [h0]
    clear hn h0
    go_enter Try.func94, Try.ntmps94
    go_wp2_with (first
      | (go_at_call 47; refine (reader_fail _ _ _ _ _ _ H.out).mono ?_; rintro e w1 ⟨rfl, h2, o2⟩; have H2 := Lib.hid h2; clear h2)
      | (go_at_call 17; refine (reader_err _ _ _ _ _ H2.out).mono ?_; rintro e w' ⟨rfl, rfl⟩))
    go_ret2
    rw [HT.out]
    exact ⟨rfl, H2.out, o2⟩
  · have HT : Hid (peekCode code bs = code) := by simp only [Hid, peekCode, if_neg h0]
    have hf : (code != 0) = true := by rcases hn with h | h <;> simp_all
    have ht : ((bs.length : Int) == 0) = false := by simp only [beq_eq_false_iff_ne, ne_eq]; omega
    clear hn h0
    go_enter Try.func94, Try.ntmps94
    go_wp2_with (first
      | (go_at_call 17; refine (reader_err _ _ _ _ _ H.out).mono ?_; rintro e w' ⟨rfl, rfl⟩))
    go_ret2
    rw [HT.out]
    exact ⟨rfl, H.out, Only.refl _ _⟩
end Go.Proofs.Ytdjondjlengapaa
