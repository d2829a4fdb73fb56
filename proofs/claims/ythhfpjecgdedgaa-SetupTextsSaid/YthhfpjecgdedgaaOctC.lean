/- What Bytes of a writer does, and bytes.Clone. No statement of the seat is proved here. -/
import Derived.Test.YthhfpjecgdedgaaOctN
namespace Go.Proofs.Ythhfpjecgdedgaa
open Go.RowKit
set_option linter.all false

set_option maxHeartbeats 400000 in
/-- bytes.Clone: the same bytes, in a block of their own (nil stays nil). -/
theorem bytes_clone (x : Value) (bs : List UInt8) (S : Nat → Prop) (w : World) (h : Byt w S x bs) (hb : bs.length ≤ 140737488355328) :
    Calls Try.prog 49 #[x] w fun e w' => ∃ A n c, e = .returned (.slice A n c) ∧ w'.ownsRow w.heap.size 5 1 (.slice A n c) bs.length (byts bs) ∧ Only none_ w w' := by
  obtain ⟨i0, hi0, hz0, hz1, hz2⟩ := info_parts u8_info
  obtain ⟨A, c, rfl, h1, h2, h3, h4⟩ := h
  have H : Hid (Byt w S (.slice A bs.length c) bs) := ⟨A, c, rfl, h1, h2, h3, h4⟩
  rcases A with _ | ad
  · have hn : Hid (bs = []) := List.eq_nil_of_length_eq_zero (by have := h3 rfl; omega)
    have hnil := fun w a n c => Lib.run_eql_slice_nil (P := Try.prog) w 48 5 a n c 0 0 Try.underlying48
    clear h4
    go_enter Try.func49, Try.ntmps49
    go_wp2
    go_ret
    rw [hn.out]
    exact ⟨_, _, _, rfl, World.ownsRow_nil _ _ _ _, Only.refl _ _⟩
  · clear h4
    have hnil := fun w a n c => Lib.run_eql_slice_nil (P := Try.prog) w 48 5 a n c 0 0 Try.underlying48
    go_enter Try.func49, Try.ntmps49
    go_wp2_with (first
      | (at_builtin; refine wpList_append_byt _ rfl (.tmp 5) (.tmp 6) _ rfl w.heap.size 5 i0 (.int .u8 0) Try.underlying48 hi0 hz0 hz1 hz2 rfl (.slice (some ⟨w.heap.size, 0, none⟩) 0 0) [] rfl (World.ownsRow_made w #[] 0 (Nat.le_refl _) (by simp [maxLen]) rfl) S _ bs rfl (H.out.alloc _) (by simpa using hb) (by simp) ?_; intro A2 n2 c2 w2 hown2 hgrow2 hmv2))
    go_ret
    exact ⟨_, _, _, rfl, by simpa using hown2, ((Only.refl none_ w).alloc _).grown hgrow2 (fun k hk => .inr (by simp [Value.ownBlock] at hk; omega))⟩

theorem writer_bytes (g base : Nat) (code : Int) (v : Value) (bs : List UInt8) (w : World) (h : Wr w g base code v bs) (hb : bs.length ≤ 140737488355328) :
    Calls Try.prog 38 #[.pointer (some ⟨g, 0, none⟩)] w fun e w' => ∃ A n c, e = .returned (.slice A n c) ∧ w'.ownsRow w.heap.size 5 1 (.slice A n c) bs.length (byts bs) ∧ Only none_ w w' := by
  have hc := h.c1
  have H := Lib.hid h
  clear h
  go_enter Try.func38, Try.ntmps38
  go_wp2_with (first
      | (go_at_call 49; refine (bytes_clone _ bs _ _ (Byt.of_own H.out.2) hb).mono ?_; rintro e w1 ⟨A, n, c, rfl, h1, o1⟩))
  go_ret
  exact ⟨_, _, _, rfl, h1, o1⟩
end Go.Proofs.Ythhfpjecgdedgaa
