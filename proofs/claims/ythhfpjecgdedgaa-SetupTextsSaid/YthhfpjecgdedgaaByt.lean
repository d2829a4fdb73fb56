/- Slices of bytes cut off, and as strings, in this seat's program. No statement of the seat is proved here. -/
import Derived.Test.YthhfpjecgdedgaaChecked
import Derived.Test.YthhfpjecgdedgaaBase
namespace Go.Proofs.Ythhfpjecgdedgaa
open Go.RowKit

theorem u8_info : (Try.prog.info? 5).map (fun i => (i.zero, i.size, i.bytes)) = some (some (.int .u8 0), 1, 1) := by kernel_rfl

section
variable {P : Program} {t e : TypeId} {i : TypeInfo} {w : World} {S : Nat → Prop} {A : Option Addr} {c L : Nat} {bs : List UInt8}
/-- Bytes cut off at n; bytes from n on. -/
theorem byt_hi (ht : P.underlying t = some (.slice e)) (hi : P.info? e = some i) (h : Byt w S (.slice A L c) bs) (n : Nat) (hn : n ≤ L) (z : Int) (hzn : z = n) :
    ∃ A1, (∀ w', (Instr.sliceAt t (.slice A L c) none (some (.int .i64 z)) none).run P w' = .ok (.slice A1 n c) w') ∧ Byt w S (.slice A1 n c) (bs.take n) := by
  subst hzn
  obtain ⟨A', c', he, h1, h2, h3, h4⟩ := h
  injection he with e1 e2 e3
  subst e1 e2 e3
  refine ⟨if c = 0 then A else A.map (·.add (0 * 1)), fun w' => ?_, ?_⟩
  · have hc : (n : Int) ≤ (c : Int) := by omega
    simp [Instr.sliceAt, Instr.slice, run_underlying ht, Instr.sliceBounds, run_sliceBound, sizeOf, typeInfo, hi, hc]
  · have hl : (bs.take n).length = n := by simp; omega
    refine ⟨_, c, by rw [hl], by omega, h2, fun hA => h3 ?_, fun hp => ?_⟩
    · split at hA
      · exact hA
      · cases A with
        | none => rfl
        | some a => simp at hA
    · obtain ⟨b, off, rfl, hs, hlt, hc⟩ := h4 (by omega)
      rw [if_neg (by omega)]
      refine ⟨b, off, by simp [Addr.add], hs, hlt, fun j hj => ?_⟩
      rw [hc j (by omega)]
      simp
theorem byt_lo (ht : P.underlying t = some (.slice e)) (hi : P.info? e = some i) (hz : i.size = 1) (h : Byt w S (.slice A L c) bs) (n : Nat) (hn : n ≤ L) (z : Int) (hzn : z = n) :
    ∃ A1 L1 c1, (∀ w', (Instr.sliceAt t (.slice A L c) (some (.int .i64 z)) none none).run P w' = .ok (.slice A1 L1 c1) w') ∧ Byt w S (.slice A1 L1 c1) (bs.drop n) := by
  subst hzn
  obtain ⟨A', c', he, h1, h2, h3, h4⟩ := h
  injection he with e1 e2 e3
  subst e1 e2 e3
  refine ⟨if c = n then A else A.map (·.add (n * 1)), bs.length - n, c - n, fun w' => ?_, ?_⟩
  · have hc : (n : Int) ≤ (bs.length : Int) := by omega
    simp [Instr.sliceAt, Instr.slice, run_underlying ht, Instr.sliceBounds, run_sliceBound, sizeOf, typeInfo, hi, hz, hc]
  · have hl : (bs.drop n).length = bs.length - n := by simp
    refine ⟨_, c - n, by rw [hl], by omega, by omega, fun hA => ?_, fun hp => ?_⟩
    · have : A = none := by
        split at hA
        · exact hA
        · cases A with
          | none => rfl
          | some a => simp at hA
      have := h3 this
      omega
    · obtain ⟨b, off, rfl, hs, hlt, hc⟩ := h4 (by omega)
      rw [if_neg (by omega)]
      refine ⟨b, off + n, by simp [Addr.add], hs, hlt, fun j hj => ?_⟩
      rw [Nat.add_assoc, hc (n + j) (by omega)]
      simp
end

section
variable {P : Program} {t e : TypeId} {i : TypeInfo} {w : World} {S : Nat → Prop} {A : Option Addr} {c L : Nat} {bs : List UInt8}
/-- Bytes from a place to a later one. -/
theorem byt_mid (ht : P.underlying t = some (.slice e)) (hi : P.info? e = some i) (hz : i.size = 1) (h : Byt w S (.slice A L c) bs) (m n : Nat) (hmn : m ≤ n) (hn : n ≤ L) (y z : Int) (hy : y = m) (hzn : z = n) :
    ∃ A1 L1 c1, (∀ w', (Instr.sliceAt t (.slice A L c) (some (.int .i64 y)) (some (.int .i64 z)) none).run P w' = .ok (.slice A1 L1 c1) w') ∧ Byt w S (.slice A1 L1 c1) ((bs.drop m).take (n - m)) := by
  subst hy hzn
  obtain ⟨A', c', he, h1, h2, h3, h4⟩ := h
  injection he with e1 e2 e3
  subst e1 e2 e3
  refine ⟨if c = m then A else A.map (·.add (m * 1)), n - m, c - m, fun w' => ?_, ?_⟩
  · have hc1 : (n : Int) ≤ (c : Int) := by omega
    have hc2 : (m : Int) ≤ (n : Int) := by omega
    simp [Instr.sliceAt, Instr.slice, run_underlying ht, Instr.sliceBounds, run_sliceBound, sizeOf, typeInfo, hi, hz, hc1, hc2]
  · have hl : ((bs.drop m).take (n - m)).length = n - m := by simp; omega
    refine ⟨_, c - m, by rw [hl], by omega, by omega, fun hA => ?_, fun hp => ?_⟩
    · have : A = none := by
        split at hA
        · exact hA
        · cases A with
          | none => rfl
          | some a => simp at hA
      have := h3 this
      omega
    · rw [hl] at hp
      obtain ⟨b, off, rfl, hs, hlt, hc⟩ := h4 (by omega)
      rw [if_neg (by omega)]
      refine ⟨b, off + m, by simp [Addr.add], hs, hlt, fun j hj => ?_⟩
      rw [hl] at hj
      rw [Nat.add_assoc, hc (m + j) (by omega)]
      simp
end

/-- Bytes as a string. -/
theorem run_bytes_string (w : World) (S : Nat → Prop) (x : Value) (bs : List UInt8) (h : Byt w S x bs) : (convert 48 9 x).run Try.prog w = .ok (.string ⟨bs.toArray⟩) w := by
  obtain ⟨A, c, rfl, h1, h2, h3, h4⟩ := h
  rcases A with _ | ad
  · have hn : bs = [] := List.eq_nil_of_length_eq_zero (by have := h3 rfl; omega)
    subst hn
    exact run_convert_bytes_nil w 48 5 Try.underlying48 Try.underlying5 _ _ _ Try.underlying9
  · refine run_convert_bytes_back w 48 9 5 ad c bs Try.underlying48 Try.underlying5 Try.underlying9 fun j hj => ?_
    obtain ⟨g, off, e1, _, _, hc⟩ := h4 (by omega)
    injection e1 with e1
    subst e1
    have e2 : (⟨g, off, none⟩ : Addr).add j = ⟨g, off + j, none⟩ := by unfold Addr.add; split <;> simp_all
    rw [e2, hc j hj]; rfl
end Go.Proofs.Ythhfpjecgdedgaa
