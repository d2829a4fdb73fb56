/- Slices of a slice of the call's own, by place; a new row made by an append of zero values; a row's parts. No statement of the seat is proved here. -/
import Derived.Test.YtiigebdmkibnbaaTbA
namespace Go.Proofs.Ytiigebdmkibnbaa
open Go.RowKit
set_option linter.all false

section
variable {P : Program} {t e : TypeId} {i : TypeInfo} {k : Nat}
theorem sl_lo (ht : P.underlying t = some (.slice e)) (hi : P.info? e = some i) (hk : i.size = k) (g o n c p : Nat) (hp : p ≤ n) (hnc : p < c) (y : Int) (hy : y = p) (w : World) :
    (Instr.sliceAt t (.slice (some ⟨g, o, none⟩) n c) (some (.int .i64 y)) none none).run P w = .ok (.slice (some ⟨g, o + p * k, none⟩) (n - p) (c - p)) w := by
  subst hy
  have h1 : (p : Int) ≤ (n : Int) := by omega
  have h2 : ¬ (c = p) := by omega
  simp [Instr.sliceAt, Instr.slice, run_underlying ht, Instr.sliceBounds, run_sliceBound, sizeOf, typeInfo, hi, hk, h1, h2, Addr.add]
theorem sl_lo_end (ht : P.underlying t = some (.slice e)) (hi : P.info? e = some i) (g o n c p : Nat) (hp : p ≤ n) (hpc : p = c) (y : Int) (hy : y = p) (w : World) :
    (Instr.sliceAt t (.slice (some ⟨g, o, none⟩) n c) (some (.int .i64 y)) none none).run P w = .ok (.slice (some ⟨g, o, none⟩) (n - p) (c - p)) w := by
  subst hy hpc
  have h1 : (p : Int) ≤ (n : Int) := by omega
  simp [Instr.sliceAt, Instr.slice, run_underlying ht, Instr.sliceBounds, run_sliceBound, sizeOf, typeInfo, hi, h1]
theorem sl_lo_any (ht : P.underlying t = some (.slice e)) (hi : P.info? e = some i) (A : Option Addr) (n c p : Nat) (hp : p ≤ n) (y : Int) (hy : y = p) :
    ∃ A', ∀ w, (Instr.sliceAt t (.slice A n c) (some (.int .i64 y)) none none).run P w = .ok (.slice A' (n - p) (c - p)) w := by
  subst hy
  have h1 : (p : Int) ≤ (n : Int) := by omega
  refine ⟨if c = p then A else A.map (·.add (p * i.size)), fun w => ?_⟩
  simp [Instr.sliceAt, Instr.slice, run_underlying ht, Instr.sliceBounds, run_sliceBound, sizeOf, typeInfo, hi, h1]
theorem sl_hi (ht : P.underlying t = some (.slice e)) (hi : P.info? e = some i) (g o n c q : Nat) (hq : q ≤ c) (z : Int) (hz : z = q) (w : World) :
    (Instr.sliceAt t (.slice (some ⟨g, o, none⟩) n c) none (some (.int .i64 z)) none).run P w = .ok (.slice (some ⟨g, o, none⟩) q c) w := by
  subst hz
  have h1 : (q : Int) ≤ (c : Int) := by omega
  simp [Instr.sliceAt, Instr.slice, run_underlying ht, Instr.sliceBounds, run_sliceBound, sizeOf, typeInfo, hi, h1, Addr.add]
theorem sl_mid (ht : P.underlying t = some (.slice e)) (hi : P.info? e = some i) (hk : i.size = k) (g o n c p q : Nat) (hpq : p ≤ q) (hq : q ≤ c) (hpc : p < c) (y z : Int) (hy : y = p) (hz : z = q) (w : World) :
    (Instr.sliceAt t (.slice (some ⟨g, o, none⟩) n c) (some (.int .i64 y)) (some (.int .i64 z)) none).run P w = .ok (.slice (some ⟨g, o + p * k, none⟩) (q - p) (c - p)) w := by
  subst hy hz
  have h1 : (q : Int) ≤ (c : Int) := by omega
  have h2 : (p : Int) ≤ (q : Int) := by omega
  have h3 : ¬ (c = p) := by omega
  simp [Instr.sliceAt, Instr.slice, run_underlying ht, Instr.sliceBounds, run_sliceBound, sizeOf, typeInfo, hi, hk, h1, h2, h3, Addr.add]
theorem sl_lo0 (ht : P.underlying t = some (.slice e)) (hi : P.info? e = some i) (hk : i.size = k) (g n c p : Nat) (hp : p ≤ n) (hnc : p < c) (y : Int) (hy : y = p) (w : World) :
    (Instr.sliceAt t (.slice (some ⟨g, 0, none⟩) n c) (some (.int .i64 y)) none none).run P w = .ok (.slice (some ⟨g, p * k, none⟩) (n - p) (c - p)) w := by
  have := sl_lo ht hi hk g 0 n c p hp hnc y hy w
  rwa [Nat.zero_add] at this
theorem sl_mid0 (ht : P.underlying t = some (.slice e)) (hi : P.info? e = some i) (hk : i.size = k) (g n c p q : Nat) (hpq : p ≤ q) (hq : q ≤ c) (hpc : p < c) (y z : Int) (hy : y = p) (hz : z = q) (w : World) :
    (Instr.sliceAt t (.slice (some ⟨g, 0, none⟩) n c) (some (.int .i64 y)) (some (.int .i64 z)) none).run P w = .ok (.slice (some ⟨g, p * k, none⟩) (q - p) (c - p)) w := by
  have := sl_mid ht hi hk g 0 n c p q hpq hq hpc y z hy hz w
  rwa [Nat.zero_add] at this
theorem sl_three (ht : P.underlying t = some (.slice e)) (hi : P.info? e = some i) (A : Option Addr) (n c p q m : Nat) (hpq : p ≤ q) (hq : q ≤ m) (hm : m ≤ c) (x y z : Int) (hx : x = p) (hy : y = q) (hz : z = m) :
    ∃ A', ∀ w, (Instr.sliceAt t (.slice A n c) (some (.int .i64 x)) (some (.int .i64 y)) (some (.int .i64 z))).run P w = .ok (.slice A' (q - p) (m - p)) w := by
  subst hx hy hz
  have h1 : (q : Int) ≤ (m : Int) := by omega
  have h2 : (p : Int) ≤ (q : Int) := by omega
  have h3 : (m : Int) ≤ (c : Int) := by omega
  refine ⟨if m = p then A else A.map (·.add (p * i.size)), fun w => ?_⟩
  simp [Instr.sliceAt, Instr.slice, run_underlying ht, Instr.sliceBounds, run_sliceBound, sizeOf, typeInfo, hi, h1, h2, h3]

/-- A new row: the first elements of an old one, then zero values. -/
theorem app_zero (w : World) (tn ty : TypeId) (z : Value) (kq kn : IntKind) (ht : P.underlying t = some (.slice e)) (htn : P.underlying tn = some (.int kn)) (hi : P.info? e = some i) (hz : i.zero = some z) (hk : i.size = k) (hzs : z.cells.size = k)
    (base g sLen sCap cap : Nat) (cur : List Value) (h : Rw_ w base g e k cap cur) (hs : sLen ≤ cap) (m : Nat) (h0 : 0 < m) (hk0 : 0 < k) (hg : sCap < sLen + m) (h63 : sLen + m ≤ 1000000) (hb : i.bytes ≤ 100000) (hbase : base ≤ w.heap.size) :
    ∃ G cur' w', (Builtin.append_ #[t, tn] ty #[.slice (some ⟨g, 0, none⟩) sLen sCap, .int kq m]).run P w = .ok (.slice (some ⟨w.heap.size, 0, none⟩) (sLen + m) G) w' ∧ Rw_ w' base w.heap.size e k G cur' ∧ sLen + m ≤ G ∧
      cur'.take (sLen * k) = cur.take (sLen * k) ∧ Only none_ w w' ∧ w'.heap.size = w.heap.size + 1 := by
  have hmul : (sLen + m) * i.bytes ≤ 140737488355328 := Nat.le_trans (Nat.mul_le_mul h63 hb) (by decide)
  have hmul2 : m * i.bytes ≤ 281474976710656 := Nat.le_trans (Nat.mul_le_mul (show m ≤ 1000000 by omega) hb) (by decide)
  have hl : (cur.take (sLen * k)).length = sLen * k := by
    rw [List.length_take, h.cs]; exact Nat.min_eq_left (Nat.mul_le_mul_right k hs)
  have hold : (Builtin.firstCells i.size sLen (.slice (some ⟨g, 0, none⟩) sLen sCap)).run P w.drew = .ok (cur.take (sLen * k)).toArray w.drew := by
    have h2 := run_loadCells_list (P := P) w.drew ⟨g, 0, none⟩ (cur.take (sLen * k)) (fun j v hj => by
      have e1 : (⟨g, 0, none⟩ : Addr).add j = ⟨g, 0 + j, none⟩ := by unfold Addr.add; split <;> simp_all
      rw [e1, Nat.zero_add]
      refine (h.cell j).trans ?_
      rw [List.getElem?_take] at hj
      split at hj
      · exact hj
      · cases hj)
    rw [hl] at h2
    simpa [Builtin.firstCells, hk] using h2
  have hrun := Lib.run_append_grow_zeros (P := P) w t tn ty e i z kq kn ht htn hi hz (some ⟨g, 0, none⟩) sLen sCap _ hold m h0 (by omega) hg (by omega) hmul2 (growslice_fits hg hmul)
  have hGn := grownCap_ge w (sLen + m) sCap e
  have hG63 := grownCap_le_maxLen w (sLen + m) sCap e (by unfold maxLen; omega)
  generalize grownCap w (sLen + m) sCap e = G at hrun hGn hG63
  have hzl : ∀ q, (Builtin.zeroCells z.cells q).toList.length = q * k := fun q => by simp [Builtin.zeroCells, hzs]
  have earr : ((cur.take (sLen * k)).toArray ++ Builtin.zeroCells z.cells m ++ Builtin.zeroCells z.cells (G - (sLen + m))) = (cur.take (sLen * k) ++ (Builtin.zeroCells z.cells m).toList ++ (Builtin.zeroCells z.cells (G - (sLen + m))).toList).toArray := by simp
  rw [earr] at hrun
  refine ⟨G, _, _, hrun, ⟨hbase, heap_alloc_new w.drew _, hG63, ?_⟩, hGn, ?_, ((Only.refl none_ w).drew).alloc _, by rw [World.size_alloc]; rfl⟩
  · rw [List.length_append, List.length_append, hl, hzl, hzl, ← Nat.add_mul, ← Nat.add_mul]
    congr 1
    omega
  · rw [List.append_assoc, List.take_append_of_le_length (by omega), List.take_of_length_le (by omega)]
end
/-- One element between. -/
theorem ins_shift (cur xs ys : List Value) (k n i : Nat) (hc : (n + 1) * k ≤ cur.length) (hx : cur.take (n * k) = xs) (hy : ys.length = k) (hi : i ≤ n) :
    (putAt (putAt cur ((i + 1) * k) (xs.drop (i * k))) (i * k) ys).take ((n + 1) * k) = xs.take (i * k) ++ ys ++ xs.drop (i * k) := by
  have hnk : (n + 1) * k = n * k + k := Nat.succ_mul n k
  have hik : (i + 1) * k = i * k + k := Nat.succ_mul i k
  have hin : i * k ≤ n * k := Nat.mul_le_mul_right k hi
  have hxl : xs.length = n * k := by rw [← hx, List.length_take]; omega
  have hdl : (xs.drop (i * k)).length = n * k - i * k := by rw [List.length_drop, hxl]
  have hl1 : (putAt cur ((i + 1) * k) (xs.drop (i * k))).length = cur.length := putAt_len (by rw [hdl]; omega)
  apply List.ext_getElem?
  intro j
  rw [List.getElem?_take]
  have ht : (xs.take (i * k)).length = i * k := by rw [List.length_take]; omega
  by_cases hj : j < (n + 1) * k
  · rw [if_pos hj, putAt_get (by rw [hl1, hy]; omega), putAt_get (by rw [hdl]; omega)]
    by_cases h1 : j < i * k
    · rw [if_neg (by omega), if_neg (by omega), List.append_assoc, List.getElem?_append_left (by omega), List.getElem?_take, if_pos h1, ← hx, List.getElem?_take, if_pos (by omega)]
    · by_cases h2 : j < i * k + k
      · rw [if_pos (by omega), List.append_assoc, List.getElem?_append_right (by omega), ht, List.getElem?_append_left (by omega)]
      · rw [if_neg (by omega), if_pos (by omega), List.append_assoc, List.getElem?_append_right (by omega), ht, List.getElem?_append_right (by omega), hy]
        congr 1
        omega
  · rw [if_neg hj, List.getElem?_eq_none (by rw [List.length_append, List.length_append, ht, hy, hdl]; omega)]
theorem ins_fresh (cur0 cur xs ys : List Value) (k n i : Nat) (hc : (n + 1) * k ≤ cur.length) (h0 : cur.take (i * k) = cur0.take (i * k)) (hx : cur0.take (n * k) = xs) (hy : ys.length = k) (hxl : xs.length = n * k) (hi : i ≤ n) :
    (putAt (putAt cur (i * k) ys) ((i + 1) * k) (xs.drop (i * k))).take ((n + 1) * k) = xs.take (i * k) ++ ys ++ xs.drop (i * k) := by
  have hnk : (n + 1) * k = n * k + k := Nat.succ_mul n k
  have hik : (i + 1) * k = i * k + k := Nat.succ_mul i k
  have hin : i * k ≤ n * k := Nat.mul_le_mul_right k hi
  have hdl : (xs.drop (i * k)).length = n * k - i * k := by rw [List.length_drop, hxl]
  have hl1 : (putAt cur (i * k) ys).length = cur.length := putAt_len (by rw [hy]; omega)
  have ht : (xs.take (i * k)).length = i * k := by rw [List.length_take]; omega
  apply List.ext_getElem?
  intro j
  rw [List.getElem?_take]
  by_cases hj : j < (n + 1) * k
  · rw [if_pos hj, putAt_get (by rw [hl1, hdl]; omega), putAt_get (by rw [hy]; omega)]
    by_cases h1 : j < i * k
    · have e1 : cur[j]? = cur0[j]? := by
        have := congrArg (fun l => l[j]?) h0
        simpa [List.getElem?_take, h1] using this
      rw [if_neg (by omega), if_neg (by omega), List.append_assoc, List.getElem?_append_left (by omega), List.getElem?_take, if_pos h1, ← hx, List.getElem?_take, if_pos (by omega), e1]
    · by_cases h2 : j < i * k + k
      · rw [if_neg (by omega), if_pos (by omega), List.append_assoc, List.getElem?_append_right (by omega), ht, List.getElem?_append_left (by omega)]
      · rw [if_pos (by omega), List.append_assoc, List.getElem?_append_right (by omega), ht, List.getElem?_append_right (by omega), hy]
        congr 1
        omega
  · rw [if_neg hj, List.getElem?_eq_none (by rw [List.length_append, List.length_append, ht, hy, hdl]; omega)]
theorem del_shift (cur xs cs : List Value) (k n i o : Nat) (hc : n * k ≤ cur.length) (hx : cur.take (n * k) = xs) (hi : i < n) (ho : (n - 1) * k ≤ o) (hol : o + cs.length ≤ cur.length) :
    (putAt (putAt cur (i * k) (xs.drop ((i + 1) * k))) o cs).take ((n - 1) * k) = xs.take (i * k) ++ xs.drop ((i + 1) * k) := by
  obtain ⟨m, rfl⟩ : ∃ m, n = m + 1 := ⟨n - 1, by omega⟩
  have hnk : (m + 1) * k = m * k + k := Nat.succ_mul m k
  have hik : (i + 1) * k = i * k + k := Nat.succ_mul i k
  have hin : i * k ≤ m * k := Nat.mul_le_mul_right k (by omega)
  rw [Nat.add_sub_cancel] at ho ⊢
  have hxl : xs.length = (m + 1) * k := by rw [← hx, List.length_take]; omega
  have hdl : (xs.drop ((i + 1) * k)).length = m * k - i * k := by rw [List.length_drop, hxl]; omega
  have hl1 : (putAt cur (i * k) (xs.drop ((i + 1) * k))).length = cur.length := putAt_len (by rw [hdl]; omega)
  have ht : (xs.take (i * k)).length = i * k := by rw [List.length_take]; omega
  rw [putAt_take ho (by omega)]
  apply List.ext_getElem?
  intro j
  rw [List.getElem?_take]
  by_cases hj : j < m * k
  · rw [if_pos hj, putAt_get (by rw [hdl]; omega)]
    by_cases h1 : j < i * k
    · rw [if_neg (by omega), List.getElem?_append_left (by omega), List.getElem?_take, if_pos h1, ← hx, List.getElem?_take, if_pos (by omega)]
    · rw [if_pos (by omega), List.getElem?_append_right (by omega), ht]
  · rw [if_neg hj, List.getElem?_eq_none (by rw [List.length_append, ht, hdl]; omega)]
end Go.Proofs.Ytiigebdmkibnbaa
