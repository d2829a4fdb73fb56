/- The register as a polynomial: the product of two, term by term, and that it moves a register on. No statement of the seat is proved here. -/
import Derived.Test.YtbhdnhnkiibaaaaCrcM
namespace Go.Proofs.Ytbhdnhnkiibaaaa

theorem cstN_next : ∀ n v, cstN (n + 1) v = cst (cstN n v)
  | 0, _ => rfl
  | n + 1, v => cstN_next n (cst v)
/-- Two registers, multiplied: the first n terms. -/
def mulN (a b : Nat) : Nat → Nat
  | 0 => 0
  | n + 1 => mulN a b n ^^^ (if b.testBit (31 - n) = true then cstN n a else 0)
theorem xor_four (x y z u : Nat) : (x ^^^ y) ^^^ (z ^^^ u) = (x ^^^ z) ^^^ (y ^^^ u) := by
  apply Nat.eq_of_testBit_eq
  intro i
  simp only [Nat.testBit_xor]
  cases x.testBit i <;> cases y.testBit i <;> cases z.testBit i <;> cases u.testBit i <;> rfl
theorem mulN_right (a b c : Nat) : ∀ n, mulN a (b ^^^ c) n = mulN a b n ^^^ mulN a c n
  | 0 => by simp [mulN]
  | n + 1 => by
    rw [mulN, mulN, mulN, mulN_right a b c n, xor_four, Nat.testBit_xor]
    congr 1
    cases b.testBit (31 - n) <;> cases c.testBit (31 - n) <;> simp
theorem mulN_left (a c b : Nat) : ∀ n, mulN (a ^^^ c) b n = mulN a b n ^^^ mulN c b n
  | 0 => by simp [mulN]
  | n + 1 => by
    rw [mulN, mulN, mulN, mulN_left a c b n, xor_four, cstN_xor]
    congr 1
    cases b.testBit (31 - n) <;> simp
theorem mulN_bit (a j : Nat) (hj : j ≤ 31) : ∀ n, n ≤ 32 → mulN a (2 ^ j) n = if 31 - j < n then cstN (31 - j) a else 0
  | 0, _ => by simp [mulN]
  | n + 1, hn => by
    rw [mulN, mulN_bit a j hj n (by omega), Nat.testBit_two_pow]
    by_cases h : 31 - j = n
    · rw [if_neg (by omega), if_pos (by simp; omega), if_pos (by omega), h, Nat.zero_xor]
    · by_cases h1 : 31 - j < n
      · rw [if_pos h1, if_neg (by simp; omega), if_pos (by omega), Nat.xor_zero]
      · rw [if_neg h1, if_neg (by simp; omega), if_neg (by omega), Nat.xor_zero]
/-- What keeps an exclusive or is known by what it makes of single bits. -/
theorem by_bits (f g : Nat → Nat) (hf : ∀ a b, f (a ^^^ b) = f a ^^^ f b) (hg : ∀ a b, g (a ^^^ b) = g a ^^^ g b) (h : ∀ j, j < 32 → f (2 ^ j) = g (2 ^ j)) :
    ∀ n, n ≤ 32 → ∀ a, a < 2 ^ n → f a = g a
  | 0, _, a, ha => by
    have h0 : a = 0 := by simpa using ha
    have hz : ∀ k : Nat → Nat, (∀ a b, k (a ^^^ b) = k a ^^^ k b) → k 0 = 0 := fun k hk => by
      have := hk 0 0
      rw [Nat.xor_self, Nat.xor_self] at this
      exact this
    rw [h0, hz f hf, hz g hg]
  | n + 1, hn, a, ha => by
    by_cases hl : a < 2 ^ n
    · exact by_bits f g hf hg h n (by omega) a hl
    · have hs : (a ^^^ 2 ^ n) < 2 ^ n := by
        apply Nat.lt_pow_two_of_testBit
        intro i hi
        rw [Nat.testBit_xor, Nat.testBit_two_pow]
        by_cases e : n = i
        · subst e
          have : a / 2 ^ n = 1 := by
            have h1 : 0 < 2 ^ n := Nat.two_pow_pos n
            rw [Nat.pow_succ] at ha
            exact Nat.div_eq_of_lt_le (by omega) (by omega)
          rw [Nat.testBit_eq_decide_div_mod_eq, this]
          simp
        · have : a.testBit i = false := Nat.testBit_lt_two_pow (Nat.lt_of_lt_of_le ha (Nat.pow_le_pow_right (by omega) (by omega)))
          rw [this]
          simp [e]
      have ha' : a = (a ^^^ 2 ^ n) ^^^ 2 ^ n := by rw [Nat.xor_assoc, Nat.xor_self, Nat.xor_zero]
      rw [ha', hf, hg, by_bits f g hf hg h n (by omega) _ hs, h n (by omega)]
/-- The register whose highest bit fell out. -/
theorem mul_last (a : Nat) (ha : a < 4294967296) : mulN a 3988292384 32 = cst (cstN 31 a) :=
  by_bits (fun a => mulN a 3988292384 32) (fun a => cst (cstN 31 a)) (fun a b => mulN_left a b _ 32) (fun a b => by rw [cstN_xor, cst_xor])
    (by decide +kernel) 32 (Nat.le_refl _) a ha
theorem mul_cst (a b : Nat) (ha : a < 4294967296) (hb : b < 4294967296) : mulN a (cst b) 32 = cst (mulN a b 32) := by
  refine by_bits (fun b => mulN a (cst b) 32) (fun b => cst (mulN a b 32)) (fun x y => ?_) (fun x y => ?_) (fun j hj => ?_) 32 (Nat.le_refl _) b hb
  · rw [cst_xor, mulN_right]
  · rw [mulN_right, cst_xor]
  · rcases j with _ | j
    · show mulN a (cst 1) 32 = cst (mulN a (2 ^ 0) 32)
      rw [mulN_bit a 0 (by omega) 32 (by omega), if_pos (by omega), show cst 1 = 3988292384 from rfl, mul_last a ha]
    · show mulN a (cst (2 ^ (j + 1))) 32 = cst (mulN a (2 ^ (j + 1)) 32)
      rw [Nat.pow_succ, Nat.mul_comm, cst_two, mulN_bit a j (by omega) 32 (by omega), if_pos (by omega), Nat.mul_comm, ← Nat.pow_succ,
        mulN_bit a (j + 1) (by omega) 32 (by omega), if_pos (by omega), ← cstN_next, show 31 - j = 31 - (j + 1) + 1 from by omega]
/-- A product with what the highest bit becomes by some moves: so many moves. -/
theorem mul_moves (a : Nat) (ha : a < 4294967296) : ∀ k, mulN a (cstN k 2147483648) 32 = cstN k a
  | 0 => by
    have := mulN_bit a 31 (by omega) 32 (by omega)
    rw [if_pos (by omega)] at this
    exact this
  | k + 1 => by rw [cstN_next, mul_cst a _ ha (cstN_lt k (by omega)), mul_moves a ha k, ← cstN_next]
theorem mulN_lt (a b : Nat) (ha : a < 4294967296) : ∀ n, mulN a b n < 4294967296
  | 0 => by simp [mulN]
  | n + 1 => by
    rw [mulN]
    refine Nat.xor_lt_two_pow (n := 32) (mulN_lt a b ha n) ?_
    split
    · exact cstN_lt n ha
    · omega
theorem moves_twice (k : Nat) : mulN (cstN k 2147483648) (cstN k 2147483648) 32 = cstN (k + k) 2147483648 := by
  rw [mul_moves _ (cstN_lt k (by omega)), cstN_add]
theorem moves_eight : cstN 8 2147483648 = 8388608 := by decide +kernel
end Go.Proofs.Ytbhdnhnkiibaaaa
