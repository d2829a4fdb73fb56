/- What Raw and Read of package octets do. No statement of the seat is proved here. -/
import Derived.Test.YthhfpjecgdedgaaOctD
namespace Go.Proofs.Ythhfpjecgdedgaa
open Go.RowKit
set_option linter.all false

/-- Bytes asked for: the error, what is left, what is told. -/
def rawR (code : Int) (bs : List UInt8) (n : Int) : Int × List UInt8 × List UInt8 :=
  if n < 0 then (first_ code 1, bs, []) else if code = 0 ∧ n.toNat ≤ bs.length then (0, bs.drop n.toNat, bs.take n.toNat) else (takeCode code bs n.toNat, bs, [])

/-- What Read gives: a reader of its own, of the same bytes. -/
theorem read_any (x : Value) (bs : List UInt8) (S : Nat → Prop) (w : World) (h : Byt w S x bs) (hb : bs.length ≤ 140737488355328) :
    Calls Try.prog 39 #[x] w fun e w' => ∃ g S, e = .returned (.pointer (some ⟨g, 0, none⟩)) ∧ w.heap.size ≤ g ∧ Rd w' g S 0 bs ∧ (∀ b, S b → w.heap.size ≤ b ∧ b < w'.heap.size) ∧ Only none_ w w' := by
  have H := Lib.hid h
  clear h
  go_enter Try.func39, Try.ntmps39
  go_wp2_with (first
      | (go_at_call 49; refine (bytes_clone _ _ _ _ H.out hb).mono ?_; rintro e w2 ⟨A3, n3, c3, rfl, hw3, o3⟩))
  go_ret
  have h5 : Byt w2 (fun b => w.heap.size ≤ b ∧ b < w2.heap.size) (.slice A3 n3 c3) bs := by
    refine (Byt.of_own hw3).mono fun b hb hk => ?_
    have := hw3.lt b hk
    exact ⟨this.1, by omega⟩
  refine ⟨_, (fun b => w.heap.size ≤ b ∧ b < w2.heap.size), rfl, o3.size, ?_, fun b hb => ⟨hb.1, by simp only [World.size_alloc]; omega⟩, o3.alloc _⟩
  have h6 := h5
  obtain ⟨_, _, he, _⟩ := h6
  injection he with e1 e2 e3
  subst e2
  exact ⟨A3, c3, Blk.new _ _ _, h5.alloc _, fun h => absurd h.2 (Nat.lt_irrefl _)⟩
end Go.Proofs.Ythhfpjecgdedgaa
