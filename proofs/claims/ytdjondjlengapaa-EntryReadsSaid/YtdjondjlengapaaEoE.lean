/- The bytes of an entry that may be are read back as it. No statement of the seat is proved here. -/
import Derived.Test.YtdjondjlengapaaEoA
import Derived.Test.YtdjondjlengapaaEnY
namespace Go.Proofs.Ytdjondjlengapaa
open Go.RowKit
set_option maxRecDepth 100000

theorem leVal_leBytes : ∀ (m n : Nat), n < 256 ^ m → leVal (leBytes n m) = n
  | 0, n, h => by simp at h; subst h; rfl
  | m + 1, n, h => by
    have e : leBytes n (m + 1) = UInt8.ofNat n :: leBytes (n / 256) m := by
      unfold leBytes
      rw [List.range_succ_eq_map, List.map_cons, List.map_map]
      congr 1
      · simp [leByte]
      apply List.map_congr_left
      intro k _
      show leByte n (k + 1) = leByte (n / 256) k
      unfold leByte
      rw [Nat.div_div_eq_div_mul]
      congr 2
      rw [show 8 * (k + 1) = 8 + 8 * k by omega, Nat.pow_add]
    have h2 : n / 256 < 256 ^ m := by
      rw [Nat.div_lt_iff_lt_mul (by omega)]
      rw [Nat.pow_succ] at h
      exact h
    rw [e]
    show (UInt8.ofNat n).toNat + 256 * leVal (leBytes (n / 256) m) = n
    rw [leVal_leBytes m _ h2]
    have : (UInt8.ofNat n).toNat = n % 256 := by simp
    omega
theorem numR_back (n m : Nat) (rest : List UInt8) (h1 : 1 ≤ m) (h8 : m ≤ 8) (hn : n < 256 ^ m) : numR 0 (leBytes n m ++ rest) (m : Int) = (0, rest, n) := by
  have hw : isW (m : Int) = true := by simp [isW]; omega
  have hl := leBytes_len n m
  unfold numR
  rw [if_pos hw, if_pos (by rw [Int.toNat_natCast, List.length_append, hl]; exact ⟨rfl, by omega⟩), Int.toNat_natCast]
  rw [List.take_append_of_le_length (by omega), List.take_of_length_le (by omega), leVal_leBytes m n hn]
  rw [List.drop_append_of_le_length (by omega), List.drop_of_length_le (by omega), List.nil_append]
theorem flagR_back (d : Bool) (rest : List UInt8) : flagR 0 ([UInt8.ofNat (bitN d)] ++ rest) = (0, rest, d) := by
  cases d <;> simp [flagR, bitN]
theorem textR_back (s : ByteArray) (most : Nat) (rest : List UInt8) (h : s.size ≤ most) (h2 : s.size ≤ 255) : textR 0 (txtB s ++ rest) (most : Int) = (0, rest, s.data.toList) := by
  have hl : s.data.toList.length = s.size := Array.length_toList
  have hn : (UInt8.ofNat s.size).toNat = s.size := by simp; omega
  show textR 0 (UInt8.ofNat s.size :: (s.data.toList ++ rest)) (most : Int) = _
  unfold textR
  dsimp only
  rw [hn, if_neg (by simp), if_neg (by omega), if_neg (by rw [List.length_append, hl]; omega)]
  rw [List.drop_append_of_le_length (by omega), List.drop_of_length_le (by omega), List.nil_append, List.take_append_of_le_length (by omega), List.take_of_length_le (by omega)]
theorem stampR_back (a b : Nat) (rest : List UInt8) (ha : a < 256 ^ 4) (hb : b < 256 ^ 1) : stampR 0 (leBytes a 4 ++ (leBytes b 1 ++ rest)) = (0, rest, ⟨a, b⟩) := by
  have h1 := numR_back a 4 (leBytes b 1 ++ rest) (by omega) (by omega) ha
  have h2 := numR_back b 1 rest (by omega) (by omega) hb
  unfold stampR
  rw [show ((4 : Nat) : Int) = 4 from rfl] at h1
  rw [show ((1 : Nat) : Int) = 1 from rfl] at h2
  rw [h1]
  dsimp only
  rw [h2]
theorem fields_back (m : Ne) (ok : m.ok) (h16 : m.k.size ≤ 16) (h32 : m.v.size ≤ 32) : (fieldsF 0 (layB m)).en = m.en ∧ (fieldsF 0 (layB m)).a7.1 = 0 ∧ (fieldsF 0 (layB m)).a7.2.1 = [] := by
  obtain ⟨k, x, d, s1, s2, a1, a2, p, q⟩ := m
  obtain ⟨hk, hv, h1, h2, h3, h4, h5, h6⟩ := ok
  dsimp only at hk hv h1 h2 h3 h4 h5 h6 h16 h32
  have e : layB ⟨k, x, d, s1, s2, a1, a2, p, q⟩ = txtB k ++ ([UInt8.ofNat (bitN d)] ++ (txtB x ++ (leBytes s1 4 ++ (leBytes s2 1 ++ (leBytes a1 4 ++ (leBytes a2 1 ++ (leBytes p 2 ++ (leBytes q 4 ++ [])))))))) := by
    simp only [layB, List.append_assoc, List.append_nil]
  rw [e]
  have r1 := textR_back k 16 ([UInt8.ofNat (bitN d)] ++ (txtB x ++ (leBytes s1 4 ++ (leBytes s2 1 ++ (leBytes a1 4 ++ (leBytes a2 1 ++ (leBytes p 2 ++ (leBytes q 4 ++ [])))))))) h16 hk
  have r2 := flagR_back d (txtB x ++ (leBytes s1 4 ++ (leBytes s2 1 ++ (leBytes a1 4 ++ (leBytes a2 1 ++ (leBytes p 2 ++ (leBytes q 4 ++ [])))))))
  have r3 := textR_back x 32 (leBytes s1 4 ++ (leBytes s2 1 ++ (leBytes a1 4 ++ (leBytes a2 1 ++ (leBytes p 2 ++ (leBytes q 4 ++ [])))))) h32 hv
  have r4 := stampR_back s1 s2 (leBytes a1 4 ++ (leBytes a2 1 ++ (leBytes p 2 ++ (leBytes q 4 ++ [])))) (by omega) (by omega)
  have r5 := stampR_back a1 a2 (leBytes p 2 ++ (leBytes q 4 ++ [])) (by omega) (by omega)
  have r6 := numR_back p 2 (leBytes q 4 ++ []) (by omega) (by omega) (by omega)
  have r7 := numR_back q 4 [] (by omega) (by omega) (by omega)
  rw [show ((16 : Nat) : Int) = 16 from rfl] at r1
  rw [show ((32 : Nat) : Int) = 32 from rfl] at r3
  rw [show ((2 : Nat) : Int) = 2 from rfl] at r6
  rw [show ((4 : Nat) : Int) = 4 from rfl] at r7
  have ef : fieldsF 0 (txtB k ++ ([UInt8.ofNat (bitN d)] ++ (txtB x ++ (leBytes s1 4 ++ (leBytes s2 1 ++ (leBytes a1 4 ++ (leBytes a2 1 ++ (leBytes p 2 ++ (leBytes q 4 ++ [])))))))))
      = ⟨(0, ([UInt8.ofNat (bitN d)] ++ (txtB x ++ (leBytes s1 4 ++ (leBytes s2 1 ++ (leBytes a1 4 ++ (leBytes a2 1 ++ (leBytes p 2 ++ (leBytes q 4 ++ [])))))))), k.data.toList), (0, (txtB x ++ (leBytes s1 4 ++ (leBytes s2 1 ++ (leBytes a1 4 ++ (leBytes a2 1 ++ (leBytes p 2 ++ (leBytes q 4 ++ []))))))), d), (0, (leBytes s1 4 ++ (leBytes s2 1 ++ (leBytes a1 4 ++ (leBytes a2 1 ++ (leBytes p 2 ++ (leBytes q 4 ++ [])))))), x.data.toList), (0, (leBytes a1 4 ++ (leBytes a2 1 ++ (leBytes p 2 ++ (leBytes q 4 ++ [])))), ⟨s1, s2⟩), (0, (leBytes p 2 ++ (leBytes q 4 ++ [])), ⟨a1, a2⟩), (0, (leBytes q 4 ++ []), p), (0, [], q)⟩ := by
    unfold fieldsF
    simp only [r1, r2, r3, r4, r5, r6, r7]
  rw [ef]
  exact ⟨rfl, rfl, rfl⟩
theorem dec_back (m : Ne) (ok : m.ok) (h16 : m.k.size ≤ 16) (h32 : m.v.size ≤ 32) (hc : enCheck m.en = 0) : decC (layB m) = 0 ∧ decE (layB m) = m.en := by
  obtain ⟨h1, h2, h3⟩ := fields_back m ok h16 h32
  have t1 : takeC 0 (layB m) = 0 := by rw [takeC, h1, if_pos hc, h2]
  have t2 : takeB 0 (layB m) = [] := h3
  have t3 : takeE 0 (layB m) = m.en := by rw [takeE, if_pos t1, h1]
  have d1 : decC (layB m) = 0 := by rw [decC, t1, t2]; rfl
  exact ⟨d1, by rw [decE, if_pos d1, t3]⟩
end Go.Proofs.Ytdjondjlengapaa
