/- What the document's own calls Number and Width give. No statement of the seat is proved here. -/
import Derived.Test.YthhfpjecgdedgaaOctN
namespace Go.Proofs.Ythhfpjecgdedgaa
open Go.RowKit
set_option maxRecDepth 100000

theorem refWidth_any (n : Int) (w : World) :
    Calls Try.prog 53 #[.int .i64 n] w fun e w' => e = .returned (.bool (isW n)) ∧ w = w' := by
  by_cases h1 : 1 ≤ n
  · by_cases h2 : n ≤ 8
    · have H : Hid (isW n = true) := by simp [Hid, isW, h1, h2]
      go_enter Try.func53, Try.ntmps53
      go_wp2
      go_ret
      rw [H.out]
      exact ⟨rfl, rfl⟩
    · have H : Hid (isW n = false) := by simp [Hid, isW, h2]
      go_enter Try.func53, Try.ntmps53
      go_wp2
      go_ret
      rw [H.out]
      exact ⟨rfl, rfl⟩
  · have H : Hid (isW n = false) := by simp [Hid, isW, h1]
    go_enter Try.func53, Try.ntmps53
    go_wp2
    go_ret
    rw [H.out]
    exact ⟨rfl, rfl⟩

theorem byt_at_cell (w : World) (x : Value) (b : UInt8) (hx : x = byt b) (t : TypeId) : Byt (w.alloc (.cells #[x] t)) (fun k => k = w.heap.size) (.slice (some ⟨w.heap.size, 0, none⟩) 1 1) [b] := by
  subst hx
  refine ⟨_, 1, rfl, by simp, by simp [maxLen], by simp, fun _ => ⟨_, 0, rfl, rfl, by simp, fun j hj => ?_⟩⟩
  have hj0 : j = 0 := by simp at hj; omega
  subst hj0
  simp
theorem byt_mod (n k y : Nat) (hy : y = n / 256 ^ k) : Value.int .u8 ((y : Int) % 256) = byt (leByte n k) := by
  have h1 : byt (leByte n k) = .int .u8 ((n / 256 ^ k % 256 : Nat) : Int) := by
    unfold byt leByte
    rw [Nat.pow_mul]
    simp
  rw [h1, hy]
  rfl

set_option maxHeartbeats 400000 in
theorem refNumber_any (n m : Nat) (hn : n < 18446744073709551616) (hm : m ≤ 8) (w : World) :
    Calls Try.prog 42 #[.int .u64 (n : Int), .int .i64 (m : Int)] w fun e w' =>
      ∃ A k c T, e = .returned (.tuple #[.slice A k c, .bool T]) ∧ (T = true ↔ n / 2 ^ (8 * m) = 0) ∧ w'.ownsRow w.heap.size 5 1 (.slice A k c) m (byts (leBytes n m)) ∧ Only none_ w w' := by
  obtain ⟨i0, hi0, hz0, hz1, hz2⟩ := info_parts u8_info
  go_enter Try.func42, Try.ntmps42
  go_wp2
  go_loopw [0, 6, 7] (fun x o i wr => ∃ (k y : Nat) (A : Option Addr) (n' c' : Nat), k ≤ m ∧ i = .int .i64 k ∧ x = .int .u64 (y : Int) ∧ Hid (y = n / 256 ^ k) ∧ y < 18446744073709551616 ∧ o = .slice A n' c' ∧ wr.ownsRow w.heap.size 5 1 (.slice A n' c') (leBytes n k).length (byts (leBytes n k)) ∧ Only none_ w wr) (fun _ _ i _ => m - (intOf i).toNat)
  case atStart =>
    refine ⟨0, n, _, _, _, by omega, rfl, rfl, by simp [Hid], hn, rfl, ?_, (Only.refl none_ w).alloc _⟩
    have := World.ownsRow_made (base := w.heap.size) (e := 5) (size := 1) w #[] 0 (Nat.le_refl _) (by simp [maxLen]) rfl
    simpa [leBytes, byts] using this
  case round =>
    obtain ⟨k, y, A, n', c', hk, rfl, rfl, hy, hy2, rfl, hown, ho⟩ := hrel
    by_cases hlt : k < m
    · have H1 := Lib.hid hown
      have HO := Lib.hid ho
      clear hown ho
      have hb := byt_mod n k y hy.out
      have HB := Lib.hid (byt_at_cell wr _ _ hb 5)
      have hll : (leBytes n k).length + 1 ≤ 140737488355328 := by rw [leBytes_length]; omega
      clear hb
      go_wp2_with (first
        | (at_builtin; refine wpList_append_byt _ rfl (.tmp 14) (.tmp 18) _ rfl w.heap.size 5 i0 (.int .u8 0) Try.underlying48 hi0 hz0 hz1 hz2 rfl (.slice A n' c') (leBytes n k) rfl (H1.out.alloc _) _ _ [leByte n k] rfl HB.out hll (by have := HO.out.size; simp; omega) ?_
           intro A2 n2 c2 w2 hown2 hgrow2 hmv2
           have O2 : Hid (Only none_ w w2) := (HO.out.alloc _).grown hgrow2 (fun b hb => .inr (H1.out.lt b hb).1)
           have N2 := Lib.hid hown2
           clear hown2 hgrow2 hmv2))
      have HY : Hid (y / 256 = n / 256 ^ (k + 1)) := by
        rw [Hid, hy.out, Nat.div_div_eq_div_mul, Nat.pow_succ]
      go_roundw
      case rel => exact ⟨k + 1, y / 256, A2, n2, c2, by omega, by go_num, by go_num, HY.out, by omega, rfl, by rw [leBytes_succ]; exact N2.out, O2.out⟩
      case measure => simp [intOf]; omega
    · obtain rfl : k = m := by omega
      have H1 := Lib.hid hown
      have HO := Lib.hid ho
      have HT : Hid (((y : Int) == 0) = true ↔ n / 2 ^ (8 * k) = 0) := by
        rw [Hid, Nat.pow_mul, ← hy.out]
        simp
      clear hown ho
      go_wp2
      go_ret2
      refine ⟨A, n', c', _, rfl, ?_, by have := H1.out; rw [leBytes_length] at this; exact this, HO.out⟩
      exact HT.out
end Go.Proofs.Ythhfpjecgdedgaa
