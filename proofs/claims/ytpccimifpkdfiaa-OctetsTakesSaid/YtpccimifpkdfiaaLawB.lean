/- What puts come to, as bytes, and that they are taken as they were put. No statement of the seat is proved here. -/
import Derived.Test.YtpccimifpkdfiaaPuts
namespace Go.Proofs.Ytpccimifpkdfiaa
open Go.RowKit

/-- The error and the bytes behind a put. -/
def putC (c : Int) (p : PutR) : Int := if p.kind = 0 then numCode c p.v p.width else if p.kind = 1 then c else if p.kind = 2 then textCode c p.bs else c
def putB (c : Int) (bs : List UInt8) (p : PutR) : List UInt8 :=
  if p.kind = 0 then numBs c bs p.v p.width else if p.kind = 1 then putS c bs [UInt8.ofNat (bitN (decide (0 < p.v)))] else if p.kind = 2 then textBs c bs p.bs else putS c bs p.bs
/-- A put that goes, and its bytes. -/
def okP (p : PutR) : Prop := if p.kind = 0 then isW p.width = true ∧ p.v / 2 ^ (8 * p.width.toNat) = 0 else if p.kind = 2 then p.bs.length ≤ 255 else True
def encP (p : PutR) : List UInt8 :=
  if p.kind = 0 then leBytes p.v p.width.toNat else if p.kind = 1 then [UInt8.ofNat (bitN (decide (0 < p.v)))] else if p.kind = 2 then UInt8.ofNat p.bs.length :: p.bs else p.bs

theorem putC_stop {c : Int} (h : c ≠ 0) (p : PutR) : putC c p = c := by
  unfold putC
  rw [numCode_stop h, textCode_stop h]
  split <;> (try split) <;> (try split) <;> rfl
theorem put_ok {bs : List UInt8} {p : PutR} (h : putC 0 p = 0) : okP p ∧ putB 0 bs p = bs ++ encP p := by
  unfold putC at h
  unfold okP putB encP
  by_cases h0 : p.kind = 0
  · simp only [h0, if_true] at h ⊢
    unfold numCode at h
    unfold numBs
    by_cases hw : isW p.width = true
    · simp only [hw, if_true] at h ⊢
      by_cases hv : p.v / 2 ^ (8 * p.width.toNat) = 0
      · simp [hv, putS]
      · simp [hv, first_] at h
    · simp [hw, first_] at h
  · by_cases h1 : p.kind = 1
    · simp [h1, putS]
    · by_cases h2 : p.kind = 2
      · simp only [h2, textCode] at h
        by_cases hl : 255 < p.bs.length
        · simp [hl, first_] at h
        · simp [h2, hl, textBs, putS]; omega
      · simp [h0, h1, h2, putS]
theorem putB_len (c : Int) (bs : List UInt8) (p : PutR) (h : p.bs.length ≤ 300) : (putB c bs p).length ≤ bs.length + 309 := by
  have hp : ∀ x : List UInt8, x.length ≤ 309 → (putS c bs x).length ≤ bs.length + 309 := fun x hx => by unfold putS; split <;> simp <;> omega
  unfold putB
  split
  · unfold numBs
    split
    · rename_i hw
      have hr : 1 ≤ p.width ∧ p.width ≤ 8 := by simpa [isW] using hw
      split
      · exact hp _ (by rw [leBytes_length]; omega)
      · omega
    · omega
  · split
    · exact hp _ (by simp)
    · split
      · unfold textBs
        split
        · omega
        · exact hp _ (by simp; omega)
      · exact hp _ (by omega)

theorem leBytes_succ (n m : Nat) : leBytes n (m + 1) = leBytes n m ++ [leByte n m] := by simp [leBytes, List.range_succ]
theorem leVal_leBytes (n : Nat) : ∀ m, leVal (leBytes n m) = n % 256 ^ m
  | 0 => by simp [leBytes, leVal, Nat.mod_one]
  | m + 1 => by
    rw [leBytes_succ, leVal_snoc, leVal_leBytes n m, leBytes_length, Nat.mod_pow_succ]
    have : (leByte n m).toNat = n / 256 ^ m % 256 := by
      unfold leByte
      rw [Nat.pow_mul]
      simp
    rw [this]

/-- What the reader gives for a put that goes. -/
theorem num_back {p : PutR} (h : okP p) (hk : p.kind = 0) (r : List UInt8) : numR 0 (encP p ++ r) p.width = (0, r, p.v) := by
  simp only [okP, hk, if_true] at h
  obtain ⟨hw, hv⟩ := h
  have hr : 1 ≤ p.width ∧ p.width ≤ 8 := by simpa [isW] using hw
  have he : encP p = leBytes p.v p.width.toNat := by simp [encP, hk]
  have hl : (encP p).length = p.width.toNat := by rw [he, leBytes_length]
  have hlt : p.v < 256 ^ p.width.toNat := by
    rw [show (256 : Nat) ^ p.width.toNat = 2 ^ (8 * p.width.toNat) from by rw [Nat.pow_mul]]
    exact Nat.lt_of_div_eq_zero (Nat.two_pow_pos _) hv
  unfold numR
  rw [if_pos hw, if_pos ⟨rfl, by simp [hl]⟩]
  rw [List.drop_left' hl, List.take_left' hl, he, leVal_leBytes, Nat.mod_eq_of_lt hlt]
theorem flag_back {p : PutR} (hk : p.kind = 1) (r : List UInt8) : flagR 0 (encP p ++ r) = (0, r, decide (0 < p.v)) := by
  have he : encP p = [UInt8.ofNat (bitN (decide (0 < p.v)))] := by simp [encP, hk]
  rw [he]
  by_cases h : 0 < p.v <;> simp [flagR, bitN, h]
theorem text_back {p : PutR} (h : okP p) (hk : p.kind = 2) (r : List UInt8) : textR 0 (encP p ++ r) 255 = (0, r, p.bs) := by
  have he : encP p = UInt8.ofNat p.bs.length :: p.bs := by simp [encP, hk]
  have hl : p.bs.length ≤ 255 := by simpa [okP, hk] using h
  have hb : (UInt8.ofNat p.bs.length).toNat = p.bs.length := by simp; omega
  rw [he, List.cons_append, textR]
  simp only [ne_eq, not_true_eq_false, if_false, hb]
  rw [if_neg (by omega), if_neg (by simp)]
  simp
theorem raw_back {p : PutR} (h0 : p.kind ≠ 0) (h1 : p.kind ≠ 1) (h2 : p.kind ≠ 2) (r : List UInt8) : rawR 0 (encP p ++ r) (p.bs.length : Int) = (0, r, p.bs) := by
  have he : encP p = p.bs := by simp [encP, h0, h1, h2]
  have h3 : ¬ ((p.bs.length : Int) < 0) := by omega
  rw [he]
  simp [rawR, h3]
/-- The bytes of a row of puts. -/
def encL (l : List PutR) : List UInt8 := (l.map encP).flatten
theorem encL_snoc (l : List PutR) (k : Nat) (hk : k < l.length) : encL (l.take (k + 1)) = encL (l.take k) ++ encP l[k] := by
  unfold encL
  rw [List.take_succ_eq_append_getElem hk, List.map_append, List.flatten_append, List.map_singleton, List.flatten_singleton]
theorem encL_drop (l : List PutR) (k : Nat) (hk : k < l.length) : encL (l.drop k) = encP l[k] ++ encL (l.drop (k + 1)) := by
  unfold encL
  rw [List.drop_eq_getElem_cons hk, List.map_cons, List.flatten_cons]
/-- The four kinds of a put, as the tests ask, and what each comes to. -/
theorem kind4 (p : PutR) :
    ((p.kind == 0) = true ∧ p.kind = 0 ∧ (∀ c bs, putC c p = numCode c p.v p.width ∧ putB c bs p = numBs c bs p.v p.width)) ∨
    ((p.kind == 0) = false ∧ (p.kind == 1) = true ∧ p.kind = 1 ∧ (∀ c bs, putC c p = c ∧ putB c bs p = putS c bs [UInt8.ofNat (bitN (decide (0 < p.v)))])) ∨
    ((p.kind == 0) = false ∧ (p.kind == 1) = false ∧ (p.kind == 2) = true ∧ p.kind = 2 ∧ (∀ c bs, putC c p = textCode c p.bs ∧ putB c bs p = textBs c bs p.bs)) ∨
    ((p.kind == 0) = false ∧ (p.kind == 1) = false ∧ (p.kind == 2) = false ∧ (p.kind ≠ 0 ∧ p.kind ≠ 1 ∧ p.kind ≠ 2) ∧ (∀ c bs, putC c p = c ∧ putB c bs p = putS c bs p.bs)) := by
  by_cases h0 : p.kind = 0
  · exact .inl ⟨by simp [h0], h0, fun c bs => by simp [putC, putB, h0]⟩
  · by_cases h1 : p.kind = 1
    · exact .inr (.inl ⟨by simp [h1], by simp [h1], h1, fun c bs => by simp [putC, putB, h1]⟩)
    · by_cases h2 : p.kind = 2
      · exact .inr (.inr (.inl ⟨by simp [h2], by simp [h2], by simp [h2], h2, fun c bs => by simp [putC, putB, h2]⟩))
      · exact .inr (.inr (.inr ⟨by simp [h0], by simp [h1], by simp [h2], ⟨h0, h1, h2⟩, fun c bs => by simp [putC, putB, h0, h1, h2]⟩))
end Go.Proofs.Ytpccimifpkdfiaa
