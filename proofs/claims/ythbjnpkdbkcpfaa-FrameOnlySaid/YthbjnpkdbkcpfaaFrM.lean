/- Frames as plain values: whether one may be, its bytes, the frame of bytes. No statement of the seat is proved here. -/
import Derived.Test.YthbjnpkdbkcpfaaCrcM
import Derived.Test.YthbjnpkdbkcpfaaOctU
namespace Go.Proofs.Ythbjnpkdbkcpfaa

structure Fr where
  f : Int
  t : Int
  k : Int
  b : List UInt8
def frZero : Fr := ⟨0, 0, 0, []⟩
def siteB (n : Int) : Bool := decide (0 ≤ n ∧ n ≤ 11)
def kindB (n : Int) : Bool := decide (1 ≤ n ∧ n ≤ 31)
def headB (x : Fr) : Bool := siteB x.f && siteB x.t && kindB x.k
def frCode (x : Fr) : Int := if headB x = true then (if 1024 < x.b.length then 7 else 0) else 1
def frHead (x : Fr) : List UInt8 := [UInt8.ofNat x.f.toNat, UInt8.ofNat x.t.toNat, UInt8.ofNat x.k.toNat, UInt8.ofNat (x.b.length % 256), UInt8.ofNat (x.b.length / 256)]
def frPlain (x : Fr) : List UInt8 := frHead x ++ x.b
def frEnc (x : Fr) : List UInt8 := crcMark (frPlain x)
def frOf (bs : List UInt8) : Fr := ⟨((bs.getD 0 0).toNat : Int), ((bs.getD 1 0).toNat : Int), ((bs.getD 2 0).toNat : Int), (bs.drop 5).take (bs.length - 9)⟩
def frSaid (bs : List UInt8) : Nat := leVal ((bs.drop 3).take 2)
def frDec (bs : List UInt8) : Int × Fr :=
  if bs.length < 9 then (6, frZero) else if crcHolds bs = false then (5, frZero)
  else if frCode (frOf bs) = 0 ∧ frSaid bs = (frOf bs).b.length then (0, frOf bs) else (4, frZero)
def frSame (x y : Fr) : Bool := (x.f == y.f && x.t == y.t && x.k == y.k) && (x.b == y.b)

theorem frSame_iff (x y : Fr) : frSame x y = true ↔ x = y := by
  cases x; cases y
  simp [frSame, and_assoc]
theorem frSame_self (x : Fr) : frSame x x = true := (frSame_iff x x).2 rfl
theorem code_ok {x : Fr} (h : frCode x = 0) : (0 ≤ x.f ∧ x.f ≤ 11) ∧ (0 ≤ x.t ∧ x.t ≤ 11) ∧ (1 ≤ x.k ∧ x.k ≤ 31) ∧ x.b.length ≤ 1024 := by
  unfold frCode at h
  split at h
  · next hh =>
    split at h
    · omega
    · simp only [headB, siteB, kindB, Bool.and_eq_true, decide_eq_true_eq] at hh
      omega
  · omega
theorem plain_len (x : Fr) : (frPlain x).length = x.b.length + 5 := by simp [frPlain, frHead]
theorem enc_len (x : Fr) : (frEnc x).length = x.b.length + 9 := by rw [frEnc, mark_len, plain_len]
theorem enc_eq (x : Fr) : frEnc x = frHead x ++ x.b ++ lowB (crcSum (frPlain x)) := rfl
theorem enc_holds (x : Fr) : crcHolds (frEnc x) = true := holds_mark _
theorem enc_body (x : Fr) : ((frEnc x).drop 5).take ((frEnc x).length - 9) = x.b := by
  have h : (frEnc x).drop 5 = x.b ++ lowB (crcSum (frPlain x)) := by
    rw [enc_eq, List.append_assoc]
    exact List.drop_left' (by simp [frHead])
  rw [enc_len, h]
  exact List.take_left' (by omega)
theorem enc_of {x : Fr} (h : frCode x = 0) : frOf (frEnc x) = x := by
  obtain ⟨⟨a1, a2⟩, ⟨b1, b2⟩, ⟨c1, c2⟩, _⟩ := code_ok h
  have hb := enc_body x
  unfold frOf
  rw [hb]
  rcases x with ⟨f, t, k, b⟩
  simp only at a1 a2 b1 b2 c1 c2
  have e : ∀ z : Int, 0 ≤ z → z ≤ 31 → ((UInt8.ofNat z.toNat).toNat : Int) = z := fun z h0 h1 => by
    rw [UInt8.toNat_ofNat']
    omega
  simp only [enc_eq, frHead, List.cons_append, List.getD_cons_zero, List.getD_cons_succ]
  rw [e f a1 (by omega), e t b1 (by omega), e k (by omega) c2]
theorem enc_said {x : Fr} (h : frCode x = 0) : frSaid (frEnc x) = x.b.length := by
  obtain ⟨_, _, _, hl⟩ := code_ok h
  have e : ((frEnc x).drop 3).take 2 = [UInt8.ofNat (x.b.length % 256), UInt8.ofNat (x.b.length / 256)] := by
    simp [enc_eq, frHead]
  rw [frSaid, e]
  simp only [leVal, UInt8.toNat_ofNat']
  omega
theorem dec_enc {x : Fr} (h : frCode x = 0) : frDec (frEnc x) = (0, x) := by
  rw [frDec, if_neg (by rw [enc_len]; omega), enc_holds, if_neg (by simp), enc_of h, enc_said h, if_pos ⟨h, rfl⟩]
theorem enc_inj {x y : Fr} (hx : frCode x = 0) (hy : frCode y = 0) (h : frEnc x = frEnc y) : x = y := by
  have := dec_enc hx
  rw [h, dec_enc hy] at this
  exact (Prod.mk.inj this).2.symm
/-- What is read has just these bytes. -/
theorem enc_dec {bs : List UInt8} (h : (frDec bs).1 = 0) : frEnc (frDec bs).2 = bs ∧ frCode (frDec bs).2 = 0 := by
  unfold frDec at h ⊢
  split at h
  · simp at h
  · next h9 =>
    rw [if_neg h9]
    split at h
    · simp at h
    · next hh =>
      rw [if_neg hh]
      split at h
      · next hc =>
        rw [if_pos hc]
        refine ⟨?_, hc.1⟩
        have hol : crcHolds bs = true := by simpa using hh
        obtain ⟨hm4, hmk⟩ : 4 ≤ bs.length ∧ crcMark (bs.take (bs.length - 4)) = bs := by
          simpa [crcHolds] using hol
        rw [frEnc]
        conv => rhs; rw [← hmk]
        congr 1
        have hb : (frOf bs).b.length = bs.length - 9 := by simp [frOf]; omega
        have hsd := hc.2
        rw [hb] at hsd
        obtain ⟨b0, b1, b2, b3, b4, r, rfl⟩ : ∃ b0 b1 b2 b3 b4 r, bs = b0 :: b1 :: b2 :: b3 :: b4 :: r := by
          rcases bs with _ | ⟨b0, _ | ⟨b1, _ | ⟨b2, _ | ⟨b3, _ | ⟨b4, r⟩⟩⟩⟩⟩
          all_goals simp at h9
          exact ⟨_, _, _, _, _, _, rfl⟩
        simp only [List.length_cons] at h9 hb hsd ⊢
        have hl4 : r.length + 1 + 1 + 1 + 1 + 1 - 4 = (r.length + 1 + 1 + 1 + 1 + 1 - 9) + 5 := by omega
        rw [hl4]
        have hsd2 : b3.toNat + 256 * b4.toNat = r.length + 1 + 1 + 1 + 1 + 1 - 9 := by simpa [frSaid, leVal] using hsd
        have hb3 := b3.toNat_lt
        have hb4 := b4.toNat_lt
        have e : ∀ z : UInt8, UInt8.ofNat ((z.toNat : Int)).toNat = z := fun z => by simp
        have e3 : UInt8.ofNat ((r.length + 1 + 1 + 1 + 1 + 1 - 9) % 256) = b3 := by rw [← hsd2, show (b3.toNat + 256 * b4.toNat) % 256 = b3.toNat from by omega]; simp
        have e4 : UInt8.ofNat ((r.length + 1 + 1 + 1 + 1 + 1 - 9) / 256) = b4 := by rw [← hsd2, show (b3.toNat + 256 * b4.toNat) / 256 = b4.toNat from by omega]; simp
        rw [frPlain, frHead, hb, e3, e4]
        simp [frOf]
      · simp at h
theorem dec_cases (bs : List UInt8) : (frDec bs).1 = 0 ∨ ((frDec bs).1 ≠ 0 ∧ (frDec bs).2 = frZero) := by
  unfold frDec
  split
  · right; simp
  · split
    · right; simp
    · split
      · left; rfl
      · right; simp
end Go.Proofs.Ythbjnpkdbkcpfaa
