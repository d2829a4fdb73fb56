/- What Raw and Read of package octets do. No statement of the seat is proved here. -/
import Derived.Test.YthbjnpkdbkcpfaaOctD
namespace Go.Proofs.Ythbjnpkdbkcpfaa
open Go.RowKit

/-- Bytes asked for: the error, what is left, what is told. -/
def rawR (code : Int) (bs : List UInt8) (n : Int) : Int × List UInt8 × List UInt8 :=
  if n < 0 then (first_ code 1, bs, []) else if code = 0 ∧ n.toNat ≤ bs.length then (0, bs.drop n.toNat, bs.take n.toNat) else (takeCode code bs n.toNat, bs, [])

theorem reader_raw (g : Nat) (S : Nat → Prop) (code : Int) (bs : List UInt8) (n : Int) (w : World) (h : Rd w g S code bs) (hm : bs.length ≤ 140737488355328) :
    Calls Try.prog 42 #[.pointer (some ⟨g, 0, none⟩), .int .i64 n] w fun e w' =>
      ∃ A k c, e = .returned (.slice A k c) ∧ w'.ownsRow w.heap.size 5 1 (.slice A k c) (rawR code bs n).2.2.length (byts (rawR code bs n).2.2) ∧ Rd w' g S (rawR code bs n).1 (rawR code bs n).2.1 ∧ Only (one g) w w' := by
  have H := Lib.hid h
  clear h
  by_cases h0 : n < 0
  · have HR : Hid (rawR code bs n = (first_ code 1, bs, [])) := by simp only [Hid, rawR, if_pos h0]
    go_enter Try.func42, Try.ntmps42
    go_wp2_with (first
      | (go_at_call 35; refine (reader_fail _ _ _ _ _ _ H.out).mono ?_; rintro e w1 ⟨rfl, h2, o2⟩; have H2 := Lib.hid h2; clear h2))
    go_ret
    rw [HR.out]
    exact ⟨_, _, _, rfl, World.ownsRow_nil _ _ _ _, H2.out, o2⟩
  · obtain ⟨m, rfl⟩ : ∃ m : Nat, n = m := ⟨n.toNat, by omega⟩
    clear h0
    by_cases h1 : code = 0 ∧ m ≤ bs.length
    · obtain ⟨rfl, h1⟩ := h1
      have HR : Hid (rawR 0 bs (m : Int) = (0, bs.drop m, bs.take m)) := by
        have : ¬ ((m : Int) < 0) := by omega
        simp only [Hid, rawR, this, if_false, Int.toNat_natCast, h1, true_and, if_true]
      go_enter Try.func42, Try.ntmps42
      go_wp2_with (first
        | (go_at_call 47; refine (take_ok _ _ _ _ _ H.out h1 (by omega)).mono ?_; rintro e w1 ⟨A, c, rfl, hb1, h2, o2⟩; have H2 := Lib.hid h2; clear h2)
        | (go_at_call 40; refine (bytes_clone _ _ _ _ hb1 (by simp only [List.length_take]; omega)).mono ?_; rintro e w2 ⟨A3, n3, c3, rfl, hw3, o3⟩))
      go_ret
      rw [HR.out]
      refine ⟨_, _, _, rfl, ?_, H2.out.only (T := none_) o3 (fun h => h) (fun _ _ h => h), o2.trans o3.of_none⟩
      exact owns_base hw3 o2.size
    · have HR : Hid (rawR code bs (m : Int) = (takeCode code bs m, bs, [])) := by
        have : ¬ ((m : Int) < 0) := by omega
        simp only [Hid, rawR, this, if_false, Int.toNat_natCast, h1]
      have h2 : code ≠ 0 ∨ bs.length < m := by
        by_cases hc : code = 0
        · exact .inr (by have : ¬ m ≤ bs.length := fun h => h1 ⟨hc, h⟩; omega)
        · exact .inl hc
      clear h1
      have HC := Lib.hid h2
      clear h2
      go_enter Try.func42, Try.ntmps42
      go_wp2_with (first
        | (go_at_call 47; refine (take_no _ _ _ _ _ _ H.out HC.out (by omega)).mono ?_; rintro e w1 ⟨rfl, h2, o2⟩; have H2 := Lib.hid h2; clear h2)
        | (go_at_call 40; refine (bytes_clone _ _ none_ _ (Byt.nil _ _) (by simp)).mono ?_; rintro e w2 ⟨A3, n3, c3, rfl, hw3, o3⟩))
      go_ret
      rw [HR.out]
      refine ⟨_, _, _, rfl, ?_, H2.out.only (T := none_) o3 (fun h => h) (fun _ _ h => h), o2.trans o3.of_none⟩
      exact owns_base hw3 o2.size

/-- What Read gives: a reader of its own, of the same bytes. -/
theorem read_any (x : Value) (bs : List UInt8) (S : Nat → Prop) (w : World) (h : Byt w S x bs) (hb : bs.length ≤ 140737488355328) :
    Calls Try.prog 29 #[x] w fun e w' => ∃ g S, e = .returned (.pointer (some ⟨g, 0, none⟩)) ∧ w.heap.size ≤ g ∧ Rd w' g S 0 bs ∧ (∀ b, S b → w.heap.size ≤ b ∧ b < w'.heap.size) ∧ Only none_ w w' := by
  have H := Lib.hid h
  clear h
  go_enter Try.func29, Try.ntmps29
  go_wp2_with (first
      | (go_at_call 40; refine (bytes_clone _ _ _ _ H.out hb).mono ?_; rintro e w2 ⟨A3, n3, c3, rfl, hw3, o3⟩))
  go_ret
  have h5 : Byt w2 (fun b => w.heap.size ≤ b ∧ b < w2.heap.size) (.slice A3 n3 c3) bs := by
    refine (Byt.of_own hw3).mono fun b hb hk => ?_
    have := hw3.lt b hk
    exact ⟨this.1, by omega⟩
  refine ⟨_, (fun b => w.heap.size ≤ b ∧ b < w2.heap.size), rfl, o3.size, ?_, fun b hb => ⟨hb.1, by simp only [World.size_alloc]; omega⟩, o3.alloc _⟩
  have h6 := h5
  obtain ⟨_, _, he, _⟩ := h6
  injection he with e1 e2 e3
  subst e2
  exact ⟨A3, c3, Blk.new _ _ _, h5.alloc _, fun h => absurd h.2 (Nat.lt_irrefl _)⟩
end Go.Proofs.Ythbjnpkdbkcpfaa
