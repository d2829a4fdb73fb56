/- Numbers of entries, as plain values. No statement of the seat is proved here. -/
import Derived.Test.YtkailngpmodfhaaEoA
import Derived.Laws.Bits64
namespace Go.Proofs.Ytkailngpmodfhaa
open Go.RowKit
set_option maxRecDepth 100000
set_option linter.all false

def fnvS (n : Nat) (b : UInt8) : Nat := (n ^^^ b.toNat) * 1099511628211 % 18446744073709551616
def fnv (bs : List UInt8) : Nat := bs.foldl fnvS 14695981039346656037
theorem fnvS_lt (n : Nat) (b : UInt8) : fnvS n b < 18446744073709551616 := Nat.mod_lt _ (by omega)
theorem foldl_lt (bs : List UInt8) : ∀ n : Nat, n < 18446744073709551616 → bs.foldl fnvS n < 18446744073709551616 := by
  induction bs with
  | nil => exact fun n h => h
  | cons b bs ih => exact fun n _ => ih _ (fnvS_lt n b)
theorem fnv_lt (bs : List UInt8) : fnv bs < 18446744073709551616 := by
  unfold fnv
  refine foldl_lt bs _ ?_
  decide +kernel
theorem fnv_succ {bs : List UInt8} {k : Nat} {b : UInt8} (h : bs[k]? = some b) : fnv (bs.take (k + 1)) = fnvS (fnv (bs.take k)) b := by
  obtain ⟨hk, hb⟩ := List.getElem?_eq_some_iff.1 h
  unfold fnv
  rw [List.take_succ_eq_append_getElem hk, List.foldl_append, hb, List.foldl_cons, List.foldl_nil]
/-- One step as the walk meets it. -/
theorem fnv_xor (n : Nat) (b : UInt8) (hn : n < 18446744073709551616) : bits .xor .u64 (n : Int) (b.toNat : Int) = ((n ^^^ b.toNat : Nat) : Int) :=
  bits_xor_u64_nat n b.toNat hn (Nat.lt_trans b.toNat_lt (by omega))
theorem fnv_mul (n : Nat) (b : UInt8) : ((n ^^^ b.toNat : Nat) : Int) * 1099511628211 % 18446744073709551616 = ((fnvS n b : Nat) : Int) := by
  unfold fnvS
  omega
theorem fnv_wrap (n : Nat) (b : UInt8) : IntKind.u64.wrap (((n ^^^ b.toNat : Nat) : Int) * 1099511628211) = ((fnvS n b : Nat) : Int) := by
  rw [IntKind.wrap_u64]; exact fnv_mul n b

def neOf (e : En) : Ne := ⟨e.k, e.v, e.d, e.s.c.toNat, e.s.s.toNat, e.a.c.toNat, e.a.s.toNat, e.p.toNat, e.g.toNat⟩
theorem neOf_en (m : Ne) : neOf m.en = m := by
  obtain ⟨k, x, d, s1, s2, a1, a2, p, q⟩ := m
  simp [neOf, Ne.en]
/-- An entry's bytes but the last six. -/
def frontB (e : Ne) : List UInt8 := txtB e.k ++ [UInt8.ofNat (bitN e.d)] ++ txtB e.v ++ leBytes e.s1 4 ++ leBytes e.s2 1 ++ leBytes e.a1 4 ++ leBytes e.a2 1
theorem front_len (e : Ne) : (layB e).length = (frontB e).length + 6 := by
  simp only [layB, frontB, List.length_append, leBytes_len]
theorem front_take (e : Ne) : (layB e).take (frontB e).length = frontB e := by
  have : layB e = frontB e ++ (leBytes e.p 2 ++ leBytes e.q 4) := by
    simp only [layB, frontB, List.append_assoc]
  rw [this]
  exact List.take_left
def hsh (e : En) : Nat := if enCheck e = 0 then fnv (frontB (neOf e)) else 0
theorem hsh_lt (e : En) : hsh e < 18446744073709551616 := by
  unfold hsh; split
  · exact fnv_lt _
  · omega
theorem hsh_yes (m : Ne) (h : enCheck m.en = 0) : hsh m.en = fnv (frontB m) := by rw [hsh, if_pos h, neOf_en]
theorem hsh_no (e : En) (h : enCheck e ≠ 0) : hsh e = 0 := by rw [hsh, if_neg h]
theorem hsh_age (e : En) (p g : Int) (h : enCheck e = 0) (h2 : enCheck ⟨e.k, e.v, e.d, e.s, e.a, p, g⟩ = 0) : hsh ⟨e.k, e.v, e.d, e.s, e.a, p, g⟩ = hsh e := by
  rw [hsh, if_pos h2, hsh, if_pos h]
  rfl
/-- What a sum comes to. -/
def w64 (z : Int) : Int := z % 18446744073709551616
theorem w64_wrap (z : Int) : IntKind.u64.wrap z = w64 z := IntKind.wrap_u64 z
def sumH (l : List En) : Int := (l.map fun e => (hsh e : Int)).sum
theorem sumH_nil : sumH [] = 0 := rfl
theorem sumH_append (l m : List En) : sumH (l ++ m) = sumH l + sumH m := by
  unfold sumH
  rw [List.map_append]
  induction l with
  | nil => simp
  | cons a l ih => simp only [List.map_cons, List.cons_append, List.sum_cons, ih]; omega
theorem sumH_succ {l : List En} {k : Nat} {e : En} (h : l[k]? = some e) : sumH (l.take (k + 1)) = sumH (l.take k) + hsh e := by
  obtain ⟨hk, hb⟩ := List.getElem?_eq_some_iff.1 h
  rw [List.take_succ_eq_append_getElem hk, sumH_append, hb]
  simp [sumH]
theorem w64_add (a b : Int) : w64 (w64 a + b) = w64 (a + b) := by unfold w64; omega
theorem w64_add2 (a b : Int) : w64 (a + w64 b) = w64 (a + b) := by unfold w64; omega
theorem w64_idem (a : Int) : w64 (w64 a) = w64 a := by unfold w64; omega
theorem w64_in (a : Int) : 0 ≤ w64 a ∧ w64 a ≤ 18446744073709551615 := by unfold w64; omega
theorem w64_nat (n : Nat) (h : n < 18446744073709551616) : w64 n = n := by unfold w64; omega
theorem wrap_add (z h : Int) : IntKind.u64.wrap (w64 z + h) = w64 (z + h) := by rw [w64_wrap, w64_add]
theorem wrap_sub (z h : Int) : IntKind.u64.wrap (w64 z - h) = w64 (z - h) := by rw [w64_wrap, Int.sub_eq_add_neg, w64_add, ← Int.sub_eq_add_neg]
theorem wrap_turn (z m n : Int) : IntKind.u64.wrap (IntKind.u64.wrap (w64 z - m) + n) = w64 (z + (n - m)) := by
  rw [wrap_sub, wrap_add, Int.sub_eq_add_neg, Int.sub_eq_add_neg, Int.add_assoc, Int.add_comm (-m)]
end Go.Proofs.Ytkailngpmodfhaa
