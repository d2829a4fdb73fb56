/- The register of the sums as numbers of any width: its moves, runs over bytes, and what they keep of an exclusive or. No statement of the seat is proved here. -/
import Derived.WalkKit
namespace Go.Proofs.Ytbhdnhnkiibaaaa

/-- One move of the register. -/
def cst (v : Nat) : Nat := if v % 2 = 1 then v / 2 ^^^ 3988292384 else v / 2
/-- Some moves. -/
def cstN : Nat → Nat → Nat
  | 0, v => v
  | n + 1, v => cstN n (cst v)
/-- The register behind bytes. -/
def crcRun (v : Nat) : List UInt8 → Nat
  | [] => v
  | b :: r => crcRun (cstN 8 (v ^^^ b.toNat)) r
/-- Bytes as one number, the first the lowest. -/
def leX : List UInt8 → Nat
  | [] => 0
  | b :: r => b.toNat ^^^ 256 * leX r
def crcMore (s : Nat) (bs : List UInt8) : Nat := 4294967295 ^^^ crcRun (4294967295 ^^^ s) bs
def crcSum (bs : List UInt8) : Nat := crcMore 0 bs
def lowB (s : Nat) : List UInt8 := [UInt8.ofNat (s % 256), UInt8.ofNat (s / 256 % 256), UInt8.ofNat (s / 65536 % 256), UInt8.ofNat (s / 16777216)]
def crcMark (bs : List UInt8) : List UInt8 := bs ++ lowB (crcSum bs)
def crcHolds (bs : List UInt8) : Bool := decide (4 ≤ bs.length) && (crcMark (bs.take (bs.length - 4)) == bs)
def crcRow (i : Int) : Nat := if 0 ≤ i ∧ i ≤ 255 then cstN 8 i.toNat else 0

theorem xor_same (x y p : Nat) : x ^^^ p ^^^ (y ^^^ p) = x ^^^ y := by
  rw [Nat.xor_assoc, Nat.xor_comm y p, ← Nat.xor_assoc p p y, Nat.xor_self, Nat.zero_xor]
theorem xor_same' (p x y : Nat) : p ^^^ x ^^^ (p ^^^ y) = x ^^^ y := by
  rw [Nat.xor_comm p x, Nat.xor_comm p y, xor_same]
theorem xor_back (x p : Nat) : p ^^^ (p ^^^ x) = x := by
  rw [← Nat.xor_assoc, Nat.xor_self, Nat.zero_xor]
theorem xor_move (x y p : Nat) : x ^^^ p ^^^ y = x ^^^ y ^^^ p := by
  rw [Nat.xor_assoc, Nat.xor_comm p y, ← Nat.xor_assoc]
theorem xor_inj {x y p : Nat} (h : p ^^^ x = p ^^^ y) : x = y := by
  rw [← xor_back x p, h, xor_back]
theorem xor_left (x y z : Nat) : x ^^^ (y ^^^ z) = y ^^^ (x ^^^ z) := by
  rw [← Nat.xor_assoc, Nat.xor_comm x y, Nat.xor_assoc]
/-- An exclusive or of numbers is one of bits. -/
theorem xor_five (f g x y z : Nat) : f ^^^ (g ^^^ (x ^^^ y ^^^ z)) = f ^^^ (g ^^^ x) ^^^ (f ^^^ (g ^^^ y)) ^^^ (f ^^^ (g ^^^ z)) := by
  apply Nat.eq_of_testBit_eq
  intro i
  simp only [Nat.testBit_xor]
  cases f.testBit i <;> cases g.testBit i <;> cases x.testBit i <;> cases y.testBit i <;> cases z.testBit i <;> rfl
theorem xor_zero_eq {x y : Nat} (h : x ^^^ y = 0) : x = y := by
  have := xor_back y x
  rw [h, Nat.xor_zero] at this
  exact this
theorem xor_div256 (x y : Nat) : (x ^^^ y) / 256 = x / 256 ^^^ y / 256 := by
  have := @Nat.xor_div_two_pow x y 8
  simpa using this
theorem xor_mod256 (x y : Nat) : (x ^^^ y) % 256 = x % 256 ^^^ y % 256 := by
  have := @Nat.xor_mod_two_pow x y 8
  simpa using this
theorem xor_mul (k x y : Nat) : 2 ^ k * (x ^^^ y) = 2 ^ k * x ^^^ 2 ^ k * y := by
  have h : ∀ z, 2 ^ k * z = z <<< k := fun z => by rw [Nat.shiftLeft_eq, Nat.mul_comm]
  rw [h, h, h, Nat.shiftLeft_xor_distrib]
theorem xor_add256 (x y : Nat) (h : x < 256) : x ^^^ 256 * y = x + 256 * y := by
  have h1 := xor_div256 x (256 * y)
  have h2 := xor_mod256 x (256 * y)
  rw [show x / 256 = 0 from by omega, show 256 * y / 256 = y from by omega, Nat.zero_xor] at h1
  rw [show x % 256 = x from by omega, show 256 * y % 256 = 0 from by omega, Nat.xor_zero] at h2
  omega
theorem flip32 (v : Nat) (h : v < 4294967296) : 4294967295 - v = 4294967295 ^^^ v := by
  apply Nat.eq_of_testBit_eq
  intro i
  have h1 := @Nat.testBit_two_pow_sub_succ v 32 h i
  have h2 := Nat.testBit_two_pow_sub_one 32 i
  rw [show 2 ^ 32 - (v + 1) = 4294967295 - v from by omega] at h1
  rw [show 2 ^ 32 - 1 = 4294967295 from rfl] at h2
  rw [Nat.testBit_xor, h1, h2]
  by_cases hi : i < 32
  · simp [hi]
  · have : v.testBit i = false := Nat.testBit_lt_two_pow (Nat.lt_of_lt_of_le h (by have := Nat.pow_le_pow_right (n := 2) (by omega) (show 32 ≤ i from by omega); omega))
    simp [hi, this]

theorem cst_xor (a b : Nat) : cst (a ^^^ b) = cst a ^^^ cst b := by
  have h1 : (a ^^^ b) / 2 = a / 2 ^^^ b / 2 := Nat.xor_div_two
  have h2 := @Nat.xor_mod_two_pow a b 1
  simp only [Nat.pow_one] at h2
  unfold cst
  rw [h1]
  rcases Nat.mod_two_eq_zero_or_one a with ha | ha <;> rcases Nat.mod_two_eq_zero_or_one b with hb | hb <;> rw [ha, hb] at h2 <;> rw [h2] <;> simp [ha, hb]
  · rw [Nat.xor_assoc]
  · exact xor_move _ _ _
  · exact (xor_same _ _ _).symm
theorem cst_zero : cst 0 = 0 := by simp [cst]
theorem cst_lt {v : Nat} (h : v < 4294967296) : cst v < 4294967296 := by
  unfold cst
  split
  · exact Nat.xor_lt_two_pow (n := 32) (by omega) (by omega)
  · omega
theorem cst_ne {v : Nat} (h : v < 4294967296) (h0 : v ≠ 0) : cst v ≠ 0 := by
  unfold cst
  split
  · intro e
    have := xor_zero_eq e
    omega
  · omega
theorem cst_two (y : Nat) : cst (2 * y) = y := by
  unfold cst
  rw [if_neg (by omega)]
  omega
theorem cstN_xor : ∀ n a b, cstN n (a ^^^ b) = cstN n a ^^^ cstN n b
  | 0, _, _ => rfl
  | n + 1, a, b => by rw [cstN, cst_xor, cstN_xor n]; rfl
theorem cstN_zero : ∀ n, cstN n 0 = 0
  | 0 => rfl
  | n + 1 => by rw [cstN, cst_zero, cstN_zero n]
theorem cstN_lt : ∀ n {v}, v < 4294967296 → cstN n v < 4294967296
  | 0, _, h => h
  | n + 1, _, h => cstN_lt n (cst_lt h)
theorem cstN_ne : ∀ n {v}, v < 4294967296 → v ≠ 0 → cstN n v ≠ 0
  | 0, _, _, h0 => h0
  | n + 1, _, h, h0 => cstN_ne n (cst_lt h) (cst_ne h h0)
theorem cstN_add : ∀ m n v, cstN (m + n) v = cstN n (cstN m v)
  | 0, n, v => by rw [Nat.zero_add]; rfl
  | m + 1, n, v => by rw [show m + 1 + n = (m + n) + 1 from by omega, cstN, cstN_add m n]; rfl
theorem cstN_pow : ∀ k y, cstN k (2 ^ k * y) = y
  | 0, y => by simp [cstN]
  | k + 1, y => by
    rw [cstN, Nat.pow_succ, Nat.mul_assoc, Nat.mul_left_comm, cst_two, cstN_pow k]
theorem cstN_256 (y : Nat) : cstN 8 (256 * y) = y := cstN_pow 8 y
/-- A register's eight moves: the row of its lowest byte, and the others moved down. -/
theorem cstN_row (v : Nat) : cstN 8 v = v / 256 ^^^ cstN 8 (v % 256) := by
  have h : v = v % 256 ^^^ 256 * (v / 256) := by rw [xor_add256 _ _ (by omega)]; omega
  conv => lhs; rw [h, cstN_xor, cstN_256, Nat.xor_comm]

theorem run_cons (v : Nat) (b : UInt8) (r : List UInt8) : crcRun v (b :: r) = crcRun (cstN 8 (v ^^^ b.toNat)) r := rfl
theorem run_append : ∀ (a b : List UInt8) (v : Nat), crcRun v (a ++ b) = crcRun (crcRun v a) b
  | [], _, _ => rfl
  | x :: a, b, v => by rw [List.cons_append, run_cons, run_cons, run_append a b]
theorem run_snoc (a : List UInt8) (b : UInt8) (v : Nat) : crcRun v (a ++ [b]) = cstN 8 (crcRun v a ^^^ b.toNat) := by rw [run_append]; rfl
theorem run_lt : ∀ (bs : List UInt8) {v : Nat}, v < 4294967296 → crcRun v bs < 4294967296
  | [], _, h => h
  | b :: r, v, h => by
    rw [run_cons]
    exact run_lt r (cstN_lt 8 (Nat.xor_lt_two_pow (n := 32) h (by have := b.toNat_lt; omega)))
/-- Bytes as one number are moved down bit by bit. -/
theorem run_val : ∀ (bs : List UInt8) (v : Nat), crcRun v bs = cstN (8 * bs.length) (v ^^^ leX bs)
  | [], v => by
    show v = cstN 0 (v ^^^ 0)
    rw [Nat.xor_zero]
    rfl
  | b :: r, v => by
    rw [run_cons, run_val r, leX, List.length_cons, show 8 * (r.length + 1) = 8 + 8 * r.length from by omega, cstN_add, ← Nat.xor_assoc, cstN_xor 8 (v ^^^ b.toNat), cstN_256]
theorem run_zeros (n : Nat) (v : Nat) : crcRun v (List.replicate n 0) = cstN (8 * n) v := by
  have h : ∀ n, leX (List.replicate n 0) = 0 := by
    intro n
    induction n with
    | zero => rfl
    | succ n ih => rw [List.replicate_succ, leX, ih]; rfl
  rw [run_val, h, Nat.xor_zero, List.length_replicate]

theorem more_lt {s : Nat} (h : s < 4294967296) (bs : List UInt8) : crcMore s bs < 4294967296 :=
  Nat.xor_lt_two_pow (n := 32) (by omega) (run_lt bs (Nat.xor_lt_two_pow (n := 32) (by omega) h))
theorem sum_lt (bs : List UInt8) : crcSum bs < 4294967296 := more_lt (by omega) bs
theorem more_append (s : Nat) (a b : List UInt8) : crcMore s (a ++ b) = crcMore (crcMore s a) b := by
  unfold crcMore
  rw [run_append, xor_back]
theorem more_nil (s : Nat) : crcMore s [] = s := by
  unfold crcMore
  exact xor_back _ _
theorem sum_append (a b : List UInt8) : crcSum (a ++ b) = crcMore (crcSum a) b := more_append 0 a b
theorem sum_nil : crcSum [] = 0 := more_nil 0
/-- The sum of both together. -/
theorem sum_join (a b : List UInt8) : crcSum (a ++ b) = crcSum b ^^^ cstN (8 * b.length) (crcSum a) := by
  rw [sum_append]
  unfold crcSum crcMore
  rw [run_val b, run_val b, cstN_xor, cstN_xor _ (4294967295 ^^^ 0), cstN_xor _ 4294967295, Nat.xor_zero, Nat.xor_assoc, Nat.xor_assoc]
  congr 1
  rw [Nat.xor_comm _ (cstN _ (leX b)), ← Nat.xor_assoc, Nat.xor_comm (cstN _ 4294967295) (cstN _ (leX b))]

/-- Three rows that are as long as one another. -/
theorem leX_xor3 : ∀ (a b c : List UInt8), b.length = a.length → c.length = a.length →
    leX (List.zipWith (· ^^^ ·) (List.zipWith (· ^^^ ·) a b) c) = leX a ^^^ leX b ^^^ leX c
  | [], [], [], _, _ => rfl
  | x :: a, y :: b, z :: c, h1, h2 => by
    simp only [List.zipWith_cons_cons, leX, UInt8.toNat_xor]
    rw [leX_xor3 a b c (by simpa using h1) (by simpa using h2)]
    have h := xor_mul 8
    rw [show (2 : Nat) ^ 8 = 256 from rfl] at h
    rw [h, h]
    simp only [Nat.xor_assoc]
    congr 1
    rw [xor_left (256 * leX a) y.toNat]
    congr 1
    rw [xor_left (256 * leX b) z.toNat, xor_left (256 * leX a) z.toNat]
theorem sum_xor3 (a b c : List UInt8) (h1 : b.length = a.length) (h2 : c.length = a.length) :
    crcSum (List.zipWith (· ^^^ ·) (List.zipWith (· ^^^ ·) a b) c) = crcSum a ^^^ crcSum b ^^^ crcSum c := by
  unfold crcSum crcMore
  rw [run_val, run_val a, run_val b, run_val c, leX_xor3 a b c h1 h2]
  simp only [List.length_zipWith, h1, h2, Nat.min_self, cstN_xor, Nat.xor_zero]
  generalize cstN (8 * a.length) 4294967295 = f
  generalize cstN (8 * a.length) (leX a) = x
  generalize cstN (8 * a.length) (leX b) = y
  generalize cstN (8 * a.length) (leX c) = z
  exact xor_five _ _ _ _ _

/-- One byte of a row is turned. -/
theorem leX_set : ∀ (bs : List UInt8) (q : Nat) (h : q < bs.length) (e : UInt8), leX (bs.set q (bs[q] ^^^ e)) = leX bs ^^^ 2 ^ (8 * q) * e.toNat
  | b :: r, 0, _, e => by
    simp only [List.set_cons_zero, List.getElem_cons_zero, leX, UInt8.toNat_xor]
    rw [show 2 ^ (8 * 0) * e.toNat = e.toNat from by simp, xor_move]
  | b :: r, q + 1, h, e => by
    simp only [List.set_cons_succ, List.getElem_cons_succ, leX]
    rw [leX_set r q (by simpa using h) e, show (256 : Nat) = 2 ^ 8 from rfl, xor_mul, ← Nat.mul_assoc, ← Nat.pow_add, show 8 + 8 * q = 8 * (q + 1) from by omega, Nat.xor_assoc]
theorem leX_low (s : Nat) (h : s < 4294967296) : leX (lowB s) = s := by
  have h1 : ∀ n, n < 256 → (UInt8.ofNat n).toNat = n := fun n hn => by rw [UInt8.toNat_ofNat']; omega
  simp only [lowB, leX]
  rw [h1 _ (by omega), h1 _ (by omega), h1 _ (by omega), h1 _ (by omega), Nat.mul_zero, Nat.xor_zero, xor_add256 _ _ (by omega), xor_add256 _ _ (by omega), xor_add256 _ _ (by omega)]
  omega
theorem low_len (s : Nat) : (lowB s).length = 4 := rfl
/-- Behind marked bytes the register is always the same. -/
theorem mark_run (bs : List UInt8) : crcRun 4294967295 (crcMark bs) = cstN 32 4294967295 := by
  unfold crcMark
  rw [run_append, run_val (lowB _), leX_low _ (sum_lt bs), low_len]
  unfold crcSum crcMore
  rw [Nat.xor_zero, Nat.xor_comm 4294967295, xor_back]
theorem mark_len (bs : List UInt8) : (crcMark bs).length = bs.length + 4 := by simp [crcMark, low_len]
theorem holds_run {bs : List UInt8} (h : crcHolds bs = true) : crcRun 4294967295 bs = cstN 32 4294967295 := by
  simp only [crcHolds, Bool.and_eq_true, decide_eq_true_eq, beq_iff_eq] at h
  rw [← h.2, mark_run]
theorem holds_mark (bs : List UInt8) : crcHolds (crcMark bs) = true := by
  simp only [crcHolds, Bool.and_eq_true, decide_eq_true_eq, beq_iff_eq, mark_len]
  refine ⟨by omega, ?_⟩
  rw [show bs.length + 4 - 4 = bs.length from by omega]
  congr 1
  simp [crcMark]
/-- Marked bytes in which bits are turned within 32 in a row aren't marked any more. -/
theorem turned_not {ms ts : List UInt8} {k d : Nat} (hm : crcHolds ms = true) (hl : ts.length = ms.length) (hx : leX ts = leX ms ^^^ 2 ^ k * d) (hk : k ≤ 8 * ms.length) (hd : d < 4294967296) (h0 : d ≠ 0) : crcHolds ts = false := by
  cases h : crcHolds ts with
  | false => rfl
  | true =>
    exfalso
    have h1 := holds_run hm
    have h2 := holds_run h
    rw [run_val, hl, hx, ← Nat.xor_assoc, cstN_xor, ← run_val, h1] at h2
    have h3 : cstN (8 * ms.length) (2 ^ k * d) = 0 := by
      have := xor_back (cstN (8 * ms.length) (2 ^ k * d)) (cstN 32 4294967295)
      rw [h2, Nat.xor_self] at this
      exact this.symm
    rw [show 8 * ms.length = k + (8 * ms.length - k) from by omega, cstN_add, cstN_pow] at h3
    exact cstN_ne _ hd h0 h3
end Go.Proofs.Ytbhdnhnkiibaaaa
