/- Bits of a number that are turned one by one in a row of bytes. No statement of the seat is proved here. -/
import Derived.Test.YthbjnpkdbkcpfaaCrcM
namespace Go.Proofs.Ythbjnpkdbkcpfaa

theorem mod_on (b i : Nat) (h : b / 2 ^ i % 2 = 1) : b % 2 ^ (i + 1) = b % 2 ^ i + 2 ^ i := by
  rw [Nat.pow_succ, Nat.mod_mul, h, Nat.mul_one]
theorem mod_off (b i : Nat) (h : b / 2 ^ i % 2 = 0) : b % 2 ^ (i + 1) = b % 2 ^ i := by
  rw [Nat.pow_succ, Nat.mod_mul, h, Nat.mul_zero, Nat.add_zero]
theorem add_is_xor (a i : Nat) (h : a < 2 ^ i) : a + 2 ^ i = a ^^^ 2 ^ i := by
  apply Nat.eq_of_testBit_eq
  intro j
  rw [Nat.testBit_xor, Nat.testBit_two_pow, Nat.add_comm]
  rcases Nat.lt_trichotomy j i with hj | hj | hj
  · rw [Nat.testBit_two_pow_add_gt hj]
    have : decide (i = j) = false := by simp; omega
    rw [this, Bool.xor_false]
  · subst hj
    rw [Nat.testBit_two_pow_add_eq, Nat.testBit_lt_two_pow h]
    simp
  · have hs : 2 ^ i + a < 2 ^ j := by
      have : 2 ^ (i + 1) ≤ 2 ^ j := Nat.pow_le_pow_right (by omega) (by omega)
      rw [Nat.pow_succ] at this
      omega
    rw [Nat.testBit_lt_two_pow hs, Nat.testBit_lt_two_pow (Nat.lt_of_lt_of_le h (Nat.pow_le_pow_right (by omega) (by omega)))]
    have : decide (i = j) = false := by simp; omega
    rw [this]
    rfl
/-- The bytes behind the turning of bit i of b, at place f + i. -/
def turnBit (f i : Nat) (ts : List UInt8) : List UInt8 := ts.set ((f + i) / 8) (ts.getD ((f + i) / 8) 0 ^^^ UInt8.ofNat (2 ^ ((f + i) % 8)))
theorem turn_len (f i : Nat) (ts : List UInt8) : (turnBit f i ts).length = ts.length := by simp [turnBit]
theorem turn_leX (f i : Nat) (ts : List UInt8) (h : (f + i) / 8 < ts.length) : leX (turnBit f i ts) = leX ts ^^^ 2 ^ (f + i) := by
  have h1 := leX_set ts ((f + i) / 8) h (UInt8.ofNat (2 ^ ((f + i) % 8)))
  have h2 : ts.getD ((f + i) / 8) 0 = ts[(f + i) / 8] := by simp [h]
  have h3 : (UInt8.ofNat (2 ^ ((f + i) % 8))).toNat = 2 ^ ((f + i) % 8) := by
    have : 2 ^ ((f + i) % 8) < 2 ^ 8 := Nat.pow_lt_pow_right (by omega) (by omega)
    rw [UInt8.toNat_ofNat']
    exact Nat.mod_eq_of_lt this
  rw [turnBit, h2, h1, h3, ← Nat.pow_add, Nat.div_add_mod]
/-- What is held behind the first i bits: the bytes, and how many were turned. -/
structure Turn (ms : List UInt8) (f b i : Nat) (ts : List UInt8) (n : Nat) : Prop where
  len : ts.length = ms.length
  val : leX ts = leX ms ^^^ 2 ^ f * (b % 2 ^ i)
  cnt : n = 0 ↔ b % 2 ^ i = 0
  le : n ≤ i
theorem Turn.start (ms : List UInt8) (f b : Nat) : Turn ms f b 0 ms 0 := ⟨rfl, by simp [Nat.mod_one], by simp [Nat.mod_one], by omega⟩
theorem Turn.on {ms ts : List UInt8} {f b i n : Nat} (t : Turn ms f b i ts n) (h : (f + i) / 8 < ms.length) (hb : b / 2 ^ i % 2 = 1) : Turn ms f b (i + 1) (turnBit f i ts) (n + 1) := by
  have hi := mod_on b i hb
  have hp : 0 < 2 ^ i := Nat.two_pow_pos i
  refine ⟨by rw [turn_len, t.len], ?_, by rw [hi]; constructor <;> intro h <;> omega, by have := t.le; omega⟩
  rw [turn_leX f i ts (by rw [t.len]; exact h), t.val, hi, add_is_xor _ _ (Nat.mod_lt _ hp), xor_mul, Nat.pow_add, Nat.xor_assoc]
theorem Turn.off {ms ts : List UInt8} {f b i n : Nat} (t : Turn ms f b i ts n) (hb : ¬ b / 2 ^ i % 2 = 1) : Turn ms f b (i + 1) ts n := by
  have hi := mod_off b i (by omega)
  exact ⟨t.len, by rw [hi]; exact t.val, by rw [hi]; exact t.cnt, by have := t.le; omega⟩
/-- Marked bytes, some of whose bits are turned, aren't marked any more. -/
theorem Turn.told {ms ts : List UInt8} {f b i n : Nat} (t : Turn ms f b i ts n) (hm : crcHolds ms = true) (hf : f ≤ 8 * ms.length) (hi : i ≤ 32) (hn : n ≠ 0) : crcHolds ts = false := by
  refine turned_not hm t.len t.val hf ?_ (fun h => hn (t.cnt.2 h))
  have h1 : b % 2 ^ i < 2 ^ i := Nat.mod_lt _ (Nat.two_pow_pos i)
  have h2 : 2 ^ i ≤ 2 ^ 32 := Nat.pow_le_pow_right (by omega) hi
  omega
end Go.Proofs.Ythbjnpkdbkcpfaa
