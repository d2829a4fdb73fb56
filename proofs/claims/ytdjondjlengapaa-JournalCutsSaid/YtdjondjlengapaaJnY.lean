/- Records in which bits of one byte are turned are rot. No statement of the seat is proved here. -/
import Derived.Test.YtdjondjlengapaaJnW
import Derived.Laws.BitsLemmas
namespace Go.Proofs.Ytdjondjlengapaa
open Go.RowKit
set_option maxRecDepth 100000
set_option linter.all false

theorem cst8_ne {p q : Nat} (hp : p < 4294967296) (hq : q < 4294967296) (h : p ≠ q) : cstN 8 p ≠ cstN 8 q := by
  intro e
  have h1 := cstN_xor 8 p q
  rw [e, Nat.xor_self] at h1
  exact cstN_ne 8 (Nat.xor_lt_two_pow (n := 32) hp hq) (fun e => h (xor_zero_eq e)) h1
theorem run_ne : ∀ (c : List UInt8) {u v : Nat}, u < 4294967296 → v < 4294967296 → u ≠ v → crcRun u c ≠ crcRun v c
  | [], _, _, _, _, h => h
  | b :: c, u, v, hu, hv, h => by
    have hb := b.toNat_lt
    have h1 : u ^^^ b.toNat < 4294967296 := Nat.xor_lt_two_pow (n := 32) hu (by omega)
    have h2 : v ^^^ b.toNat < 4294967296 := Nat.xor_lt_two_pow (n := 32) hv (by omega)
    rw [run_cons, run_cons]
    refine run_ne c (cstN_lt 8 h1) (cstN_lt 8 h2) (cst8_ne h1 h2 (fun e => h ?_))
    have := xor_same u v b.toNat
    rw [e, Nat.xor_self] at this
    exact xor_zero_eq this.symm
theorem turned_told (a c : List UInt8) (x y : UInt8) (h : x ≠ y) (hh : crcHolds (a ++ x :: c) = true) : crcHolds (a ++ y :: c) = false := by
  cases hy : crcHolds (a ++ y :: c) with
  | false => rfl
  | true =>
    have h1 := holds_run hh
    have h2 := holds_run hy
    have hx8 := x.toNat_lt
    have hy8 := y.toNat_lt
    rw [run_append, run_cons] at h1 h2
    have hs := run_lt a (v := 4294967295) (by omega)
    have p1 : crcRun 4294967295 a ^^^ x.toNat < 4294967296 := Nat.xor_lt_two_pow (n := 32) hs (by omega)
    have p2 : crcRun 4294967295 a ^^^ y.toNat < 4294967296 := Nat.xor_lt_two_pow (n := 32) hs (by omega)
    exact absurd (h1.trans h2.symm) (run_ne c (cstN_lt 8 p1) (cstN_lt 8 p2) (cst8_ne p1 p2 (fun e => h (UInt8.toNat_inj.1 (xor_inj e)))))
theorem set_told (bs : List UInt8) (p : Nat) (hp : p < bs.length) (y : UInt8) (h : bs[p] ≠ y) (hh : crcHolds bs = true) : crcHolds (bs.set p y) = false := by
  have e1 : bs = bs.take p ++ bs[p] :: bs.drop (p + 1) := by rw [List.getElem_cons_drop, List.take_append_drop]
  rw [List.set_eq_take_append_cons_drop, if_pos hp]
  rw [e1] at hh
  exact turned_told _ _ _ _ h hh
theorem rot_read (r : List UInt8) (hr : Rok r) (rest : List UInt8) (p : Nat) (hp : p < (recB r).length) (y : UInt8) (h : (recB r)[p] ≠ y) : jnK ((recB r).set p y ++ rest) = 2 := by
  have hl : ((recB r).set p y ++ rest).length = r.length + 10 + rest.length := by rw [List.length_append, List.length_set, recB_len]
  have hq := hp
  rw [recB_len] at hq
  by_cases h6 : p < 6
  · have hp6 : p < (hdB r.length).length := by rw [hdB_len]; exact h6
    have e : (recB r).set p y = (hdB r.length).set p y ++ crcMark r := by rw [recB, List.set_append_left _ _ hp6]
    have ht : ((recB r).set p y ++ rest).take 6 = (hdB r.length).set p y := by
      rw [e, List.append_assoc, List.take_left' (by rw [List.length_set, hdB_len])]
    have hg : (hdB r.length)[p] ≠ y := by
      have : (recB r)[p] = (hdB r.length)[p] := by simp only [recB]; rw [List.getElem_append_left hp6]
      rwa [this] at h
    rw [jnK, if_neg (by omega), if_pos (.inl (by rw [ht]; exact set_told _ p hp6 y hg (holds_marked _)))]
  · have hp6 : p - 6 < (crcMark r).length := by rw [mark_len7]; omega
    have e : (recB r).set p y = hdB r.length ++ (crcMark r).set (p - 6) y := by rw [recB, List.set_append_right _ _ (by rw [hdB_len]; omega), hdB_len]
    have ht : ((recB r).set p y ++ rest).take 6 = hdB r.length := by
      rw [e, List.append_assoc, List.take_left' (by rw [hdB_len])]
    have hn : jnN ((recB r).set p y ++ rest) = r.length := by
      have h2 : ((recB r).set p y ++ rest).take 2 = leBytes r.length 2 := by
        have : ((recB r).set p y ++ rest).take 2 = (((recB r).set p y ++ rest).take 6).take 2 := by simp only [List.take_take]; congr 1
        rw [this, ht, hdB, crcMark, List.take_left' (by rw [leBytes_length])]
      rw [jnN, h2, two_back _ (by have := hr.2; omega)]
    have hm : (((recB r).set p y ++ rest).drop 6).take (r.length + 4) = (crcMark r).set (p - 6) y := by
      rw [e, List.append_assoc, List.drop_left' (by rw [hdB_len]), List.take_left' (by rw [List.length_set, mark_len7])]
    have hg : (crcMark r)[p - 6] ≠ y := by
      have : (recB r)[p] = (crcMark r)[p - 6] := by
        simp only [recB]
        rw [List.getElem_append_right (by rw [hdB_len]; omega)]
        simp only [hdB_len]
      rwa [this] at h
    have q1 := hr.1
    have q2 := hr.2
    rw [jnK, if_neg (by omega), if_neg (by rw [ht, hn, hdB, holds_marked]; rintro (h | h | h) <;> first | cases h | omega), if_neg (by rw [hn]; omega), hn, hm, if_pos (set_told _ _ hp6 y hg (holds_marked _))]
theorem rot_flat : ∀ (l : List (List UInt8)), (∀ r ∈ l, Rok r) → ∀ (p : Nat) (hp : p < (flatB l).length) (y : UInt8), (flatB l)[p] ≠ y → ∀ (f : Nat) (acc : List (List UInt8)) (n : Nat), l.length ≤ f → jnR f acc n ((flatB l).set p y) = ([], 0, 12)
  | [], _, p, hp, _, _, _, _, _, _ => by simp [flatB] at hp
  | r :: l, h, p, hp, y, hy, f, acc, n, hf => by
    have hr := h r (by simp)
    obtain ⟨f', rfl⟩ : ∃ f', f = f' + 1 := ⟨f - 1, by simp at hf; omega⟩
    have hlt : p < (recB r).length + (flatB l).length := by rw [flatB_cons, List.length_append] at hp; exact hp
    by_cases hk : p < (recB r).length
    · have e : (flatB (r :: l)).set p y = (recB r).set p y ++ flatB l := by rw [flatB_cons, List.set_append_left _ _ hk]
      have hg : (recB r)[p] ≠ y := by
        have : (flatB (r :: l))[p] = (recB r)[p] := by simp only [flatB_cons]; rw [List.getElem_append_left hk]
        rwa [this] at hy
      rw [e, jnR_step, if_pos (rot_read r hr _ p hk y hg)]
    · have e : (flatB (r :: l)).set p y = recB r ++ (flatB l).set (p - (recB r).length) y := by rw [flatB_cons, List.set_append_right _ _ (by omega)]
      have hp2 : p - (recB r).length < (flatB l).length := by omega
      have hg : (flatB l)[p - (recB r).length] ≠ y := by
        have : (flatB (r :: l))[p] = (flatB l)[p - (recB r).length] := by
          simp only [flatB_cons]
          rw [List.getElem_append_right (by omega)]
        rwa [this] at hy
      obtain ⟨h1, h2, h3, h4⟩ := whole_read r hr ((flatB l).set (p - (recB r).length) y)
      rw [e, jnR_step, if_neg (by omega), if_neg (by omega), h2, h3, h4]
      exact rot_flat l (fun r hr => h r (by simp [hr])) _ hp2 y hg f' _ _ (by simp at hf; omega)
theorem rot_all (l : List (List UInt8)) (h : ∀ r ∈ l, Rok r) (p : Nat) (hp : p < (flatB l).length) (b : UInt8) (hb : b ≠ 0) : jnRead ((flatB l).set p ((flatB l).getD p 0 ^^^ b)) = ([], 0, 12) := by
  have hl := flatB_len l
  have e : (flatB l).getD p 0 = (flatB l)[p] := by rw [List.getD_eq_getElem?_getD, List.getElem?_eq_getElem hp]; rfl
  rw [e, jnRead]
  refine rot_flat l h p hp _ (fun e => hb ?_) _ _ _ (by rw [List.length_set]; omega)
  have h1 : (flatB l)[p].toNat = ((flatB l)[p] ^^^ b).toNat := by rw [← e]
  rw [UInt8.toNat_xor] at h1
  have h2 := xor_back b.toNat (flatB l)[p].toNat
  rw [← h1, Nat.xor_self] at h2
  exact UInt8.toNat_inj.1 h2.symm
theorem flatB_ge (l : List (List UInt8)) (h : ∀ r ∈ l, Rok r) : 11 * l.length ≤ (flatB l).length := by
  induction l with
  | nil => simp
  | cons r l ih =>
    have h1 := ih (fun r hr => h r (by simp [hr]))
    have h2 := (h r (by simp)).1
    rw [flatB_cons, List.length_append, List.length_cons, recB_len]
    omega
theorem i64_and20 (n : Int) : bits .and .i64 n 1048575 = n % 1048576 := by
  have h127 : (BitVec.ofInt 64 1048575).toNat = 2 ^ 20 - 1 := by decide
  have key : (BitVec.ofInt 64 n &&& BitVec.ofInt 64 1048575).toNat = (n % ((2 ^ 64 : Nat) : Int)).toNat % 2 ^ 20 := by
    rw [BitVec.toNat_and, BitVec.toNat_ofInt, h127, Nat.and_two_pow_sub_one_eq_mod]
  show IntKind.i64.wrap ((BitVec.ofInt 64 n &&& BitVec.ofInt 64 1048575).toNat : Nat) = n % 1048576
  rw [key, IntKind.wrap_i64]
  omega
end Go.Proofs.Ytdjondjlengapaa
