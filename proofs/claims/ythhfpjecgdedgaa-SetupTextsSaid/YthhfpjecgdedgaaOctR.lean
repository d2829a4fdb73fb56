/- What the calls of a reader of package octets do. No statement of the seat is proved here. -/
import Derived.Test.YthhfpjecgdedgaaOctC
namespace Go.Proofs.Ythhfpjecgdedgaa
open Go.RowKit
set_option linter.all false

/-- A reader at block g: its first error, and the bytes that are left, in blocks of which S holds. -/
def Rd (w : World) (g : Nat) (S : Nat → Prop) (code : Int) (bs : List UInt8) : Prop :=
  ∃ A c, Blk w g 90 #[.int .i64 code, .slice A bs.length c] ∧ Byt w S (.slice A bs.length c) bs ∧ ¬ S g
theorem Rd.only {w w' : World} {g : Nat} {S T : Nat → Prop} {code : Int} {bs : List UInt8} (h : Rd w g S code bs) (ho : Only T w w') (hg : ¬ T g) (hn : ∀ b, S b → ¬ T b) : Rd w' g S code bs := by
  obtain ⟨A, c, hb, hy, hs⟩ := h
  exact ⟨A, c, hb.only ho hg, hy.only ho hn, hs⟩
theorem Rd.lt {w : World} {g : Nat} {S : Nat → Prop} {code : Int} {bs : List UInt8} (h : Rd w g S code bs) : g < w.heap.size := by
  obtain ⟨A, c, hb, _⟩ := h
  exact hb.lt

theorem reader_err (g : Nat) (S : Nat → Prop) (code : Int) (bs : List UInt8) (w : World) (h : Rd w g S code bs) :
    Calls Try.prog 52 #[.pointer (some ⟨g, 0, none⟩)] w fun e w' => e = .returned (.int .i64 code) ∧ w = w' := by
  obtain ⟨A, c, hb, hy⟩ := h
  exact fault_err _ _ _ _ _ hb rfl
theorem reader_fail (g : Nat) (S : Nat → Prop) (code k : Int) (bs : List UInt8) (w : World) (h : Rd w g S code bs) :
    Calls Try.prog 46 #[.pointer (some ⟨g, 0, none⟩), .int .i64 k] w fun e w' => e = .returned (.tuple #[]) ∧ Rd w' g S (first_ code k) bs ∧ Only (one g) w w' := by
  obtain ⟨A, c, hb, hy, hs⟩ := h
  refine (fault_fail _ _ _ _ k _ hb rfl).mono ?_
  rintro e w' ⟨rfl, h1, h2⟩
  exact ⟨rfl, ⟨A, c, by simpa using h1, hy.only h2 (fun b hb e => hs (e ▸ hb)), hs⟩, h2⟩
theorem reader_left (g : Nat) (S : Nat → Prop) (code : Int) (bs : List UInt8) (w : World) (h : Rd w g S code bs) :
    Calls Try.prog 51 #[.pointer (some ⟨g, 0, none⟩)] w fun e w' => e = .returned (.int .i64 (bs.length : Int)) ∧ w = w' := by
  obtain ⟨A, c, hb, hy, hs⟩ := h
  have h1 : w.cell? ⟨g, 1, none⟩ = some (.slice A bs.length c) := hb.cell_ rfl
  clear hb hy
  go_enter Try.func51, Try.ntmps51
  go_wp2
  go_ret
  exact ⟨rfl, rfl⟩
def doneCode (code : Int) (bs : List UInt8) : Int := if 0 < bs.length then first_ code 4 else code
theorem reader_done (g : Nat) (S : Nat → Prop) (code : Int) (bs : List UInt8) (w : World) (h : Rd w g S code bs) :
    Calls Try.prog 41 #[.pointer (some ⟨g, 0, none⟩)] w fun e w' => e = .returned (.int .i64 (doneCode code bs)) ∧ Rd w' g S (doneCode code bs) bs ∧ Only (one g) w w' := by
  have H := Lib.hid h
  clear h
  by_cases h0 : 0 < bs.length
  · have HD : Hid (doneCode code bs = first_ code 4) := by simp only [Hid, doneCode, if_pos h0]
    go_enter Try.func41, Try.ntmps41
    go_wp2_with (first
      | (go_at_call 51; refine (reader_left _ _ _ _ _ H.out).mono ?_; rintro e w' ⟨rfl, rfl⟩)
      | (go_at_call 46; refine (reader_fail _ _ _ _ _ _ H.out).mono ?_; rintro e w1 ⟨rfl, h1, o1⟩; have H1 := Lib.hid h1; clear h1)
      | (go_at_call 52; refine (reader_err _ _ _ _ _ H1.out).mono ?_; rintro e w' ⟨rfl, rfl⟩))
    go_ret
    rw [HD.out]
    exact ⟨rfl, H1.out, o1⟩
  · have HD : Hid (doneCode code bs = code) := by simp only [Hid, doneCode, if_neg h0]
    go_enter Try.func41, Try.ntmps41
    go_wp2_with (first
      | (go_at_call 51; refine (reader_left _ _ _ _ _ H.out).mono ?_; rintro e w' ⟨rfl, rfl⟩)
      | (go_at_call 52; refine (reader_err _ _ _ _ _ H.out).mono ?_; rintro e w' ⟨rfl, rfl⟩))
    go_ret
    rw [HD.out]
    exact ⟨rfl, H.out, Only.refl _ _⟩
end Go.Proofs.Ythhfpjecgdedgaa
