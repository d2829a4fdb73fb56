/- What package crc's lowestFirst gives: a sum's four bytes in an array, the lowest first. No statement of the seat is proved here. -/
import Derived.Test.YtbhdnhnkiibaaaaCrcA
import Derived.Test.YtbhdnhnkiibaaaaCrcT
import Derived.Laws.Rows
namespace Go.Proofs.Ytbhdnhnkiibaaaa
open Go.RowKit
attribute [local go_sem ↓] Go.wp_at_zero Go.wp_at_succ

/-- A sum's bytes, and the array in which the first k of them lie. -/
def sumByte (n k : Nat) : UInt8 := UInt8.ofNat (n / 2 ^ (8 * k))
def sumArr (n k : Nat) : Array Value := ((List.range 4).map fun j => if j < k then byt (sumByte n j) else .int .u8 0).toArray
theorem byt_sumByte (n k : Nat) : byt (sumByte n k) = .int .u8 ((n : Int) / 2 ^ (8 * k) % 256) := by
  unfold byt sumByte
  have : (UInt8.ofNat (n / 2 ^ (8 * k))).toNat = n / 2 ^ (8 * k) % 256 := by simp
  rw [this, Int.natCast_emod, Int.natCast_ediv, Int.natCast_pow]
  rfl
theorem sumArr_set (n k : Nat) (hk : k < 4) : (sumArr n k).setIfInBounds k (byt (sumByte n k)) = sumArr n (k + 1) := by
  apply Array.ext_getElem?
  intro i
  rw [Array.getElem?_setIfInBounds]
  simp only [sumArr, List.size_toArray, List.length_map, List.length_range, List.getElem?_toArray, List.getElem?_map]
  by_cases hi : i < 4
  · rw [List.getElem?_range hi]
    by_cases hik : k = i
    · subst hik; simp [hk]
    · simp only [hik, if_false, Option.map_some]
      congr 1
      by_cases h1 : i < k
      · rw [if_pos h1, if_pos (by omega)]
      · rw [if_neg h1, if_neg (by omega)]
  · rw [if_neg (by omega)]
    simp [hi]
theorem sumArr_size (n k : Nat) : (sumArr n k).size = 4 := by simp [sumArr]
theorem sumArr_at (n k j : Nat) (hj : j < 4) : (sumArr n k)[j]? = some (if j < k then byt (sumByte n j) else .int .u8 0) := by
  simp [sumArr, hj]
theorem sumArr_one (n k : Nat) : (sumArr n k).all (·.oneCell') = true := by
  simp only [sumArr, List.all_toArray, List.all_map, List.all_eq_true, Function.comp]
  intro j _
  split <;> rfl
theorem sumArr_cell (n k j : Nat) (hj : j < 4) : ∃ z : Int, (sumArr n k)[j]? = some (.int .u8 z) := by
  rw [sumArr_at n k j hj]
  split
  · exact ⟨_, rfl⟩
  · exact ⟨_, rfl⟩
theorem sumByte_low (s : Nat) (hs : s < 4294967296) : lowB s = [sumByte s 0, sumByte s 1, sumByte s 2, sumByte s 3] := by
  have h : ∀ a b : Nat, a % 256 = b % 256 → UInt8.ofNat a = UInt8.ofNat b := fun a b h => by
    apply UInt8.toNat_inj.1
    simp [h]
  simp only [lowB, sumByte]
  rw [h (s % 256) (s / 2 ^ (8 * 0)) (by omega), h (s / 256 % 256) (s / 2 ^ (8 * 1)) (by omega), h (s / 65536 % 256) (s / 2 ^ (8 * 2)) (by omega), h (s / 16777216) (s / 2 ^ (8 * 3)) (by omega)]
theorem sumArr_byts (s : Nat) (hs : s < 4294967296) : (sumArr s 4).toList = byts (lowB s) := by
  rw [sumByte_low s hs]
  simp [sumArr, byts, List.range, List.range.loop]

set_option maxHeartbeats 400000 in
theorem lowest4_any (n : Nat) (_hn : n < 4294967296) (w : World) :
    Calls Try.prog 99 #[.int .u32 (n : Int)] w fun e w' => e = .returned (.agg (sumArr n 4)) ∧ Only none_ w w' := by
  have h0 : Hid (#[Value.int .u8 0, .int .u8 0, .int .u8 0, .int .u8 0] = sumArr n 0) := by
    simp [Hid, sumArr, List.range, List.range.loop]
  go_enter Try.func99, Try.ntmps99
  go_wp2
  go_loopw [5] (fun i wr => ∃ k : Nat, k ≤ 4 ∧ i = .int .i64 k ∧ Blk wr (w.heap.size + 1) 170 (sumArr n k) ∧ Blk wr w.heap.size 170 (sumArr n 0) ∧ Only none_ w wr) (fun i _ => 4 - (intOf i).toNat)
  case atStart =>
    refine ⟨0, by omega, rfl, ?_, ?_, ((Only.refl _ _).alloc _).alloc _⟩
    · rw [← h0.out]
      have := Blk.new (w.alloc (Obj.cells #[Value.int .u8 0, .int .u8 0, .int .u8 0, .int .u8 0] 170)) 170 #[Value.int .u8 0, .int .u8 0, .int .u8 0, .int .u8 0]
      simpa using this
    · rw [← h0.out]; exact (Blk.new w _ _).alloc _
  case round =>
    obtain ⟨k, hk, rfl, hb, hb0, ho⟩ := hrel
    by_cases hlt : k < 4
    · obtain ⟨z, hz⟩ := sumArr_cell n k k hlt
      have hc := hb.cell_ hz
      have hf := hb.frozen k
      have HB := Lib.hid hb
      have HB0 := Lib.hid hb0
      clear hb hz hb0
      go_wp2
      go_roundw
      case rel =>
        refine ⟨k + 1, by omega, by go_num, ?_, HB0.out.far (by simp) _, ho.setCell (.inr (by simp)) _⟩
        have := HB.out.set_ k (byt (sumByte n k))
        rw [sumArr_set n k hlt, byt_sumByte] at this
        exact this
      case measure => simp [intOf]; omega
    · have hk8 : k = 4 := by omega
      subst hk8
      have hs := Lib.hid (sumArr_size n 4)
      have HB := Lib.hid hb
      have HB0 := Lib.hid hb0
      have HO := Lib.hid ho
      clear hb hb0 ho
      go_wp2_with (first
        | (refine wpList_load_row rfl 170 _ rfl (w.heap.size + 1) rfl 170 (sumArr n 4) (0, 0) _ HB.out Try.underlying170 rfl (by rw [hs.out]; kernel_rfl) ?_)
        | (refine wpList_store_row rfl 170 _ _ rfl w.heap.size (sumArr n 4) rfl rfl 170 (sumArr n 0) HB0.out (by rw [hs.out]; kernel_rfl) (by rw [hs.out, sumArr_size]) (sumArr_one n 4) ?_))
      refine bodyPost_ret (results_cell_row rfl _ _ w.heap.size 170 (sumArr n 4) (0, 0) _ rfl (HB0.out.setRow (sumArr n 4)) Try.underlying170 rfl (by rw [hs.out]; kernel_rfl)) rfl ⟨rfl, HO.out.setRow (.inr (by simp)) _⟩

/-- The table's cells: what sync.Once keeps, and the first k rows. -/
def rowCells (d m : Int) (k : Nat) : Array Value := #[.int .u32 d, .int .i32 m, .int .u32 0] ++ ((List.range 256).map fun j => if j < k then Value.int .u32 (cstN 8 j : Nat) else .int .u32 0).toArray
theorem rowCells_size (d m : Int) (k : Nat) : (rowCells d m k).size = 259 := by simp [rowCells]
theorem rowCells_row (d m : Int) (k j : Nat) (hj : j < 256) : (rowCells d m k)[3 + j]? = some (if j < k then Value.int .u32 (cstN 8 j : Nat) else .int .u32 0) := by
  rw [rowCells, Array.getElem?_append_right (by simp)]
  simp [hj]
theorem rowCells_set (d m : Int) (k : Nat) (hk : k < 256) : (rowCells d m k).setIfInBounds (3 + k) (.int .u32 (cstN 8 k : Nat)) = rowCells d m (k + 1) := by
  apply Array.ext_getElem?
  intro i
  rw [Array.getElem?_setIfInBounds, rowCells_size]
  by_cases hi : i < 3
  · rw [if_neg (by omega), rowCells, rowCells, Array.getElem?_append_left (by simpa using hi), Array.getElem?_append_left (by simpa using hi)]
  · obtain ⟨j, rfl⟩ : ∃ j, i = 3 + j := ⟨i - 3, by omega⟩
    by_cases hj : j < 256
    · rw [rowCells_row _ _ _ _ hj, rowCells_row _ _ _ _ hj]
      by_cases e : k = j
      · subst e
        rw [if_pos rfl, if_pos (by omega), if_pos (by omega)]
      · rw [if_neg (by omega)]
        by_cases h1 : j < k
        · rw [if_pos h1, if_pos (by omega)]
        · rw [if_neg h1, if_neg (by omega)]
    · rw [if_neg (by omega), Array.getElem?_eq_none (by rw [rowCells_size]; omega), Array.getElem?_eq_none (by rw [rowCells_size]; omega)]
theorem rowCells_done (d d' m : Int) (k : Nat) : (rowCells d m k).setIfInBounds 0 (.int .u32 d') = rowCells d' m k := by
  unfold rowCells
  rw [Array.setIfInBounds_append_left (by simp)]
  rfl
theorem rowCells_lock (d m m' : Int) (k : Nat) : (rowCells d m k).setIfInBounds 1 (.int .i32 m') = rowCells d m' k := by
  unfold rowCells
  rw [Array.setIfInBounds_append_left (by simp)]
  rfl
theorem rowCells_zero : tabZero = rowCells 0 0 0 := by
  have h : tabZero = #[.int .u32 0, .int .i32 0, .int .u32 0] ++ Array.replicate 256 (.int .u32 0) := by kernel_rfl
  rw [h]
  have e : ∀ n, Array.replicate n (Value.int .u32 0) = ((List.range n).map fun j => if j < 0 then Value.int .u32 (cstN 8 j : Nat) else .int .u32 0).toArray := fun n => by
    apply Array.ext_getElem?
    intro i
    by_cases hi : i < n
    · simp [hi]
    · rw [Array.getElem?_eq_none (by simp; omega), Array.getElem?_eq_none (by simp; omega)]
  rw [e 256]
  rfl
theorem rowCells_head (d m : Int) (k j : Nat) (A : Option Addr) (n c : Nat) : (rowCells d m k)[j]? ≠ some (.slice A n c) := by
  by_cases hj : j < 3
  · rw [rowCells, Array.getElem?_append_left (by simpa using hj)]
    obtain rfl | rfl | rfl : j = 0 ∨ j = 1 ∨ j = 2 := by omega
    all_goals simp
  · obtain ⟨i, rfl⟩ : ∃ i, j = 3 + i := ⟨j - 3, by omega⟩
    by_cases hi : i < 256
    · rw [rowCells_row _ _ _ _ hi]
      split <;> simp
    · rw [Array.getElem?_eq_none (by rw [rowCells_size]; omega)]
      simp

set_option maxRecDepth 100000 in
set_option maxHeartbeats 400000 in
/-- The rows are made. -/
theorem makeRows_any {tt : TypeId} (g : Nat) (d m : Int) (w : World) (h : Blk w g tt (rowCells d m 0)) :
    Calls Try.prog 116 #[.pointer (some ⟨g, 0, none⟩)] w fun e w' => e = .returned (.tuple #[]) ∧ Blk w' g tt (rowCells d m 256) ∧ Only (one g) w w' := by
  have HB0 := Lib.hid h
  clear h
  go_enter Try.func116, Try.ntmps116
  go_wp2
  go_loopw [4] (fun i wr => ∃ k : Nat, k ≤ 256 ∧ i = .int .i64 k ∧ Blk wr g tt (rowCells d m k) ∧ Only (one g) w wr) (fun i _ => 256 - (intOf i).toNat)
  case atStart => exact ⟨0, by omega, rfl, HB0.out, Only.refl _ _⟩
  case round =>
    obtain ⟨k, hk, rfl, hb, ho⟩ := hrel
    have HB := Lib.hid hb
    have HO := Lib.hid ho
    by_cases hlt : k < 256
    · have hc := hb.cell_ (rowCells_row d m k k hlt)
      rw [if_neg (by omega)] at hc
      have hf := hb.frozen (3 + k)
      have hdk : decide ((k : Int) < 256) = true := by simp; omega
      clear hb ho
      go_wp2
      go_loop [3, 9] (fun x i => ∃ j : Nat, j ≤ 8 ∧ i = .int .i64 j ∧ x = .int .u32 (cstN j k : Nat)) (fun _ i => 8 - (intOf i).toNat)
      case atStart => exact ⟨0, by omega, rfl, rfl⟩
      case round =>
        obtain ⟨j, hj, rfl, rfl⟩ := hrel
        have hm := move_any (cstN j k) (cstN_lt j (by omega))
        rw [← cstN_next] at hm
        by_cases h8 : j < 8
        · go_wp2_with (go_at_call 119; refine (hm _).mono ?_; rintro e w' ⟨rfl, rfl⟩)
          go_round
          case rel => exact ⟨j + 1, by omega, by go_num, rfl⟩
          case measure => simp [intOf]; omega
        · obtain rfl : j = 8 := by omega
          clear hm
          go_wp2
          go_roundw
          case rel =>
            refine ⟨k + 1, by omega, by go_num, ?_, HO.out.setCell (.inl (show one g g from rfl)) _⟩
            have := HB.out.set_ (3 + k) (.int .u32 (cstN 8 k : Nat))
            rw [rowCells_set d m k hlt] at this
            exact this
          case measure => simp [intOf]; omega
    · obtain rfl : k = 256 := by omega
      clear hb ho
      go_wp2
      go_end0
      exact ⟨rfl, HB.out, HO.out⟩
end Go.Proofs.Ytbhdnhnkiibaaaa
