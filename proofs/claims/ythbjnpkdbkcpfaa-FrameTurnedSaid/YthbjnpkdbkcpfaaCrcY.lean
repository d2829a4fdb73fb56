/- Bytes of a call's own in which bits are turned, as blocks. No statement of the seat is proved here. -/
import Derived.Test.YthbjnpkdbkcpfaaCrcN
import Derived.Test.YthbjnpkdbkcpfaaCrcA
import Derived.StillTailTactics
namespace Go.Proofs.Ythbjnpkdbkcpfaa
open Go.RowKit
attribute [local go_sem ↓] Go.wp_at_zero Go.wp_at_succ

/-- The lowest sixteen bits of any integer. -/
theorem low_sixteen (a : Int) : ∃ n : Nat, n ≤ 65535 ∧ bits .and .i64 a 65535 = (n : Int) := by
  have h1 : (BitVec.ofInt 64 65535).toNat = 2 ^ 16 - 1 := by decide
  have key : (BitVec.ofInt 64 a &&& BitVec.ofInt 64 65535).toNat = (a % ((2 ^ 64 : Nat) : Int)).toNat % 2 ^ 16 := by
    rw [BitVec.toNat_and, BitVec.toNat_ofInt, h1, Nat.and_two_pow_sub_one_eq_mod]
  refine ⟨(a % ((2 ^ 64 : Nat) : Int)).toNat % 2 ^ 16, by omega, ?_⟩
  show IntKind.i64.wrap ((BitVec.ofInt 64 a &&& BitVec.ofInt 64 65535).toNat : Nat) = _
  rw [key, IntKind.wrap_i64]
  omega
/-- A slice of bytes of a call's own, in a block known whole. -/
theorem own_block {w : World} {base n : Nat} {A : Option Addr} {L c : Nat} {bs : List UInt8} (h : w.ownsRow base 5 1 (.slice A L c) n (byts bs)) (hp : 0 < bs.length) :
    ∃ g cur, A = some ⟨g, 0, none⟩ ∧ L = n ∧ base ≤ g ∧ Blk w g 5 cur ∧ cur.toList.take n = byts bs ∧ n ≤ c ∧ c ≤ maxLen := by
  rcases h.2 with ⟨h1, h2⟩ | ⟨g, cap, cur, h1, hb, hh, hc1, hc2, _, ht⟩
  · have := h.1
    simp at this
    omega
  · injection h1 with e1 e2 e3
    subst e3
    exact ⟨g, cur, e1, e2, hb, hh, by simpa using ht, hc1, hc2⟩
theorem blk_byt {w : World} {g n c : Nat} {cur : Array Value} {bs : List UInt8} (h : Blk w g 5 cur) (ht : cur.toList.take n = byts bs) (hn : bs.length = n) (h1 : n ≤ c) (h2 : c ≤ maxLen) : Byt w (fun b => b = g) (.slice (some ⟨g, 0, none⟩) n c) bs := by
  subst hn
  refine ⟨_, c, rfl, h1, h2, by simp, fun _ => ⟨g, 0, rfl, rfl, h.lt, fun j hj => ?_⟩⟩
  rw [Nat.zero_add, h.cell, ← Array.getElem?_toList]
  have h3 := congrArg (fun l => l[j]?) ht
  simp only [List.getElem?_take] at h3
  rw [if_pos hj] at h3
  rw [h3]
  simp [byts, hj]
/-- What one round lays. -/
theorem turn_cell (z : UInt8) (r : Nat) : Value.int .u8 (bits .xor .u8 (z.toNat : Int) (2 ^ r % 256)) = byt (z ^^^ UInt8.ofNat (2 ^ r)) := by
  have h1 : ((2 : Int) ^ r % 256) = ((2 ^ r % 256 : Nat) : Int) := by rw [Int.natCast_emod, Int.natCast_pow]; rfl
  rw [h1, u8_xor_nat z.toNat (2 ^ r % 256) z.toNat_lt (by omega)]
  simp [byt]
theorem turn_row {cur : Array Value} {n f i j r : Nat} {ts : List UInt8} (h : cur.toList.take n = byts ts) (hj : j = (f + i) / 8) (hr : r = (f + i) % 8) :
    (cur.setIfInBounds j (byt (ts.getD j 0 ^^^ UInt8.ofNat (2 ^ r)))).toList.take n = byts (turnBit f i ts) := by
  subst hj hr
  rw [Array.toList_setIfInBounds, List.take_set, h, byts, byts, turnBit, List.map_set]
end Go.Proofs.Ythbjnpkdbkcpfaa
