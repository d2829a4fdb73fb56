/- Texts of mine, one behind the other: TbS, StM, EnM. No statement of the seat is proved here. -/
import Derived.Test.YtniacolkjdmflaaPg2
import Derived.WalkKit
import Derived.Lib.Hide
section
namespace Go.Proofs.Ytniacolkjdmflaa
open Go.RowKit
set_option linter.all false

section
variable {P : Program} {t e : TypeId} {i : TypeInfo} {k : Nat}
theorem sl_lo (ht : P.underlying t = some (.slice e)) (hi : P.info? e = some i) (hk : i.size = k) (g o n c p : Nat) (hp : p ≤ n) (hnc : p < c) (y : Int) (hy : y = p) (w : World) :
    (Instr.sliceAt t (.slice (some ⟨g, o, none⟩) n c) (some (.int .i64 y)) none none).run P w = .ok (.slice (some ⟨g, o + p * k, none⟩) (n - p) (c - p)) w := by
  subst hy
  have h1 : (p : Int) ≤ (n : Int) := by omega
  have h2 : ¬ (c = p) := by omega
  simp [Instr.sliceAt, Instr.slice, run_underlying ht, Instr.sliceBounds, run_sliceBound, sizeOf, typeInfo, hi, hk, h1, h2, Addr.add]
theorem sl_lo_end (ht : P.underlying t = some (.slice e)) (hi : P.info? e = some i) (g o n c p : Nat) (hp : p ≤ n) (hpc : p = c) (y : Int) (hy : y = p) (w : World) :
    (Instr.sliceAt t (.slice (some ⟨g, o, none⟩) n c) (some (.int .i64 y)) none none).run P w = .ok (.slice (some ⟨g, o, none⟩) (n - p) (c - p)) w := by
  subst hy hpc
  have h1 : (p : Int) ≤ (n : Int) := by omega
  simp [Instr.sliceAt, Instr.slice, run_underlying ht, Instr.sliceBounds, run_sliceBound, sizeOf, typeInfo, hi, h1]
theorem sl_lo_any (ht : P.underlying t = some (.slice e)) (hi : P.info? e = some i) (A : Option Addr) (n c p : Nat) (hp : p ≤ n) (y : Int) (hy : y = p) :
    ∃ A', ∀ w, (Instr.sliceAt t (.slice A n c) (some (.int .i64 y)) none none).run P w = .ok (.slice A' (n - p) (c - p)) w := by
  subst hy
  have h1 : (p : Int) ≤ (n : Int) := by omega
  refine ⟨if c = p then A else A.map (·.add (p * i.size)), fun w => ?_⟩
  simp [Instr.sliceAt, Instr.slice, run_underlying ht, Instr.sliceBounds, run_sliceBound, sizeOf, typeInfo, hi, h1]
theorem sl_hi (ht : P.underlying t = some (.slice e)) (hi : P.info? e = some i) (g o n c q : Nat) (hq : q ≤ c) (z : Int) (hz : z = q) (w : World) :
    (Instr.sliceAt t (.slice (some ⟨g, o, none⟩) n c) none (some (.int .i64 z)) none).run P w = .ok (.slice (some ⟨g, o, none⟩) q c) w := by
  subst hz
  have h1 : (q : Int) ≤ (c : Int) := by omega
  simp [Instr.sliceAt, Instr.slice, run_underlying ht, Instr.sliceBounds, run_sliceBound, sizeOf, typeInfo, hi, h1, Addr.add]
theorem sl_mid (ht : P.underlying t = some (.slice e)) (hi : P.info? e = some i) (hk : i.size = k) (g o n c p q : Nat) (hpq : p ≤ q) (hq : q ≤ c) (hpc : p < c) (y z : Int) (hy : y = p) (hz : z = q) (w : World) :
    (Instr.sliceAt t (.slice (some ⟨g, o, none⟩) n c) (some (.int .i64 y)) (some (.int .i64 z)) none).run P w = .ok (.slice (some ⟨g, o + p * k, none⟩) (q - p) (c - p)) w := by
  subst hy hz
  have h1 : (q : Int) ≤ (c : Int) := by omega
  have h2 : (p : Int) ≤ (q : Int) := by omega
  have h3 : ¬ (c = p) := by omega
  simp [Instr.sliceAt, Instr.slice, run_underlying ht, Instr.sliceBounds, run_sliceBound, sizeOf, typeInfo, hi, hk, h1, h2, h3, Addr.add]
theorem sl_lo0 (ht : P.underlying t = some (.slice e)) (hi : P.info? e = some i) (hk : i.size = k) (g n c p : Nat) (hp : p ≤ n) (hnc : p < c) (y : Int) (hy : y = p) (w : World) :
    (Instr.sliceAt t (.slice (some ⟨g, 0, none⟩) n c) (some (.int .i64 y)) none none).run P w = .ok (.slice (some ⟨g, p * k, none⟩) (n - p) (c - p)) w := by
  have := sl_lo ht hi hk g 0 n c p hp hnc y hy w
  rwa [Nat.zero_add] at this
theorem sl_mid0 (ht : P.underlying t = some (.slice e)) (hi : P.info? e = some i) (hk : i.size = k) (g n c p q : Nat) (hpq : p ≤ q) (hq : q ≤ c) (hpc : p < c) (y z : Int) (hy : y = p) (hz : z = q) (w : World) :
    (Instr.sliceAt t (.slice (some ⟨g, 0, none⟩) n c) (some (.int .i64 y)) (some (.int .i64 z)) none).run P w = .ok (.slice (some ⟨g, p * k, none⟩) (q - p) (c - p)) w := by
  have := sl_mid ht hi hk g 0 n c p q hpq hq hpc y z hy hz w
  rwa [Nat.zero_add] at this
theorem sl_three (ht : P.underlying t = some (.slice e)) (hi : P.info? e = some i) (A : Option Addr) (n c p q m : Nat) (hpq : p ≤ q) (hq : q ≤ m) (hm : m ≤ c) (x y z : Int) (hx : x = p) (hy : y = q) (hz : z = m) :
    ∃ A', ∀ w, (Instr.sliceAt t (.slice A n c) (some (.int .i64 x)) (some (.int .i64 y)) (some (.int .i64 z))).run P w = .ok (.slice A' (q - p) (m - p)) w := by
  subst hx hy hz
  have h1 : (q : Int) ≤ (m : Int) := by omega
  have h2 : (p : Int) ≤ (q : Int) := by omega
  have h3 : (m : Int) ≤ (c : Int) := by omega
  refine ⟨if m = p then A else A.map (·.add (p * i.size)), fun w => ?_⟩
  simp [Instr.sliceAt, Instr.slice, run_underlying ht, Instr.sliceBounds, run_sliceBound, sizeOf, typeInfo, hi, h1, h2, h3]

/-- A new row: the first elements of an old one, then zero values. -/
theorem app_zero (w : World) (tn ty : TypeId) (z : Value) (kq kn : IntKind) (ht : P.underlying t = some (.slice e)) (htn : P.underlying tn = some (.int kn)) (hi : P.info? e = some i) (hz : i.zero = some z) (hk : i.size = k) (hzs : z.cells.size = k)
    (base g sLen sCap cap : Nat) (cur : List Value) (h : Rw_ w base g e k cap cur) (hs : sLen ≤ cap) (m : Nat) (h0 : 0 < m) (hk0 : 0 < k) (hg : sCap < sLen + m) (h63 : sLen + m ≤ 1000000) (hb : i.bytes ≤ 100000) (hbase : base ≤ w.heap.size) :
    ∃ G cur' w', (Builtin.append_ #[t, tn] ty #[.slice (some ⟨g, 0, none⟩) sLen sCap, .int kq m]).run P w = .ok (.slice (some ⟨w.heap.size, 0, none⟩) (sLen + m) G) w' ∧ Rw_ w' base w.heap.size e k G cur' ∧ sLen + m ≤ G ∧
      cur'.take (sLen * k) = cur.take (sLen * k) ∧ Only none_ w w' ∧ w'.heap.size = w.heap.size + 1 := by
  have hmul : (sLen + m) * i.bytes ≤ 140737488355328 := Nat.le_trans (Nat.mul_le_mul h63 hb) (by decide)
  have hmul2 : m * i.bytes ≤ 281474976710656 := Nat.le_trans (Nat.mul_le_mul (show m ≤ 1000000 by omega) hb) (by decide)
  have hl : (cur.take (sLen * k)).length = sLen * k := by
    rw [List.length_take, h.cs]; exact Nat.min_eq_left (Nat.mul_le_mul_right k hs)
  have hold : (Builtin.firstCells i.size sLen (.slice (some ⟨g, 0, none⟩) sLen sCap)).run P w.drew = .ok (cur.take (sLen * k)).toArray w.drew := by
    have h2 := run_loadCells_list (P := P) w.drew ⟨g, 0, none⟩ (cur.take (sLen * k)) (fun j v hj => by
      have e1 : (⟨g, 0, none⟩ : Addr).add j = ⟨g, 0 + j, none⟩ := by unfold Addr.add; split <;> simp_all
      rw [e1, Nat.zero_add]
      refine (h.cell j).trans ?_
      rw [List.getElem?_take] at hj
      split at hj
      · exact hj
      · cases hj)
    rw [hl] at h2
    simpa [Builtin.firstCells, hk] using h2
  have hrun := Lib.run_append_grow_zeros (P := P) w t tn ty e i z kq kn ht htn hi hz (some ⟨g, 0, none⟩) sLen sCap _ hold m h0 (by omega) hg (by omega) hmul2 (growslice_fits hg hmul)
  have hGn := grownCap_ge w (sLen + m) sCap e
  have hG63 := grownCap_le_maxLen w (sLen + m) sCap e (by unfold maxLen; omega)
  generalize grownCap w (sLen + m) sCap e = G at hrun hGn hG63
  have hzl : ∀ q, (Builtin.zeroCells z.cells q).toList.length = q * k := fun q => by simp [Builtin.zeroCells, hzs]
  have earr : ((cur.take (sLen * k)).toArray ++ Builtin.zeroCells z.cells m ++ Builtin.zeroCells z.cells (G - (sLen + m))) = (cur.take (sLen * k) ++ (Builtin.zeroCells z.cells m).toList ++ (Builtin.zeroCells z.cells (G - (sLen + m))).toList).toArray := by simp
  rw [earr] at hrun
  refine ⟨G, _, _, hrun, ⟨hbase, heap_alloc_new w.drew _, hG63, ?_⟩, hGn, ?_, ((Only.refl none_ w).drew).alloc _, by rw [World.size_alloc]; rfl⟩
  · rw [List.length_append, List.length_append, hl, hzl, hzl, ← Nat.add_mul, ← Nat.add_mul]
    congr 1
    omega
  · rw [List.append_assoc, List.take_append_of_le_length (by omega), List.take_of_length_le (by omega)]
end
/-- One element between. -/
theorem ins_shift (cur xs ys : List Value) (k n i : Nat) (hc : (n + 1) * k ≤ cur.length) (hx : cur.take (n * k) = xs) (hy : ys.length = k) (hi : i ≤ n) :
    (putAt (putAt cur ((i + 1) * k) (xs.drop (i * k))) (i * k) ys).take ((n + 1) * k) = xs.take (i * k) ++ ys ++ xs.drop (i * k) := by
  have hnk : (n + 1) * k = n * k + k := Nat.succ_mul n k
  have hik : (i + 1) * k = i * k + k := Nat.succ_mul i k
  have hin : i * k ≤ n * k := Nat.mul_le_mul_right k hi
  have hxl : xs.length = n * k := by rw [← hx, List.length_take]; omega
  have hdl : (xs.drop (i * k)).length = n * k - i * k := by rw [List.length_drop, hxl]
  have hl1 : (putAt cur ((i + 1) * k) (xs.drop (i * k))).length = cur.length := putAt_len (by rw [hdl]; omega)
  apply List.ext_getElem?
  intro j
  rw [List.getElem?_take]
  have ht : (xs.take (i * k)).length = i * k := by rw [List.length_take]; omega
  by_cases hj : j < (n + 1) * k
  · rw [if_pos hj, putAt_get (by rw [hl1, hy]; omega), putAt_get (by rw [hdl]; omega)]
    by_cases h1 : j < i * k
    · rw [if_neg (by omega), if_neg (by omega), List.append_assoc, List.getElem?_append_left (by omega), List.getElem?_take, if_pos h1, ← hx, List.getElem?_take, if_pos (by omega)]
    · by_cases h2 : j < i * k + k
      · rw [if_pos (by omega), List.append_assoc, List.getElem?_append_right (by omega), ht, List.getElem?_append_left (by omega)]
      · rw [if_neg (by omega), if_pos (by omega), List.append_assoc, List.getElem?_append_right (by omega), ht, List.getElem?_append_right (by omega), hy]
        congr 1
        omega
  · rw [if_neg hj, List.getElem?_eq_none (by rw [List.length_append, List.length_append, ht, hy, hdl]; omega)]
theorem ins_fresh (cur0 cur xs ys : List Value) (k n i : Nat) (hc : (n + 1) * k ≤ cur.length) (h0 : cur.take (i * k) = cur0.take (i * k)) (hx : cur0.take (n * k) = xs) (hy : ys.length = k) (hxl : xs.length = n * k) (hi : i ≤ n) :
    (putAt (putAt cur (i * k) ys) ((i + 1) * k) (xs.drop (i * k))).take ((n + 1) * k) = xs.take (i * k) ++ ys ++ xs.drop (i * k) := by
  have hnk : (n + 1) * k = n * k + k := Nat.succ_mul n k
  have hik : (i + 1) * k = i * k + k := Nat.succ_mul i k
  have hin : i * k ≤ n * k := Nat.mul_le_mul_right k hi
  have hdl : (xs.drop (i * k)).length = n * k - i * k := by rw [List.length_drop, hxl]
  have hl1 : (putAt cur (i * k) ys).length = cur.length := putAt_len (by rw [hy]; omega)
  have ht : (xs.take (i * k)).length = i * k := by rw [List.length_take]; omega
  apply List.ext_getElem?
  intro j
  rw [List.getElem?_take]
  by_cases hj : j < (n + 1) * k
  · rw [if_pos hj, putAt_get (by rw [hl1, hdl]; omega), putAt_get (by rw [hy]; omega)]
    by_cases h1 : j < i * k
    · have e1 : cur[j]? = cur0[j]? := by
        have := congrArg (fun l => l[j]?) h0
        simpa [List.getElem?_take, h1] using this
      rw [if_neg (by omega), if_neg (by omega), List.append_assoc, List.getElem?_append_left (by omega), List.getElem?_take, if_pos h1, ← hx, List.getElem?_take, if_pos (by omega), e1]
    · by_cases h2 : j < i * k + k
      · rw [if_neg (by omega), if_pos (by omega), List.append_assoc, List.getElem?_append_right (by omega), ht, List.getElem?_append_left (by omega)]
      · rw [if_pos (by omega), List.append_assoc, List.getElem?_append_right (by omega), ht, List.getElem?_append_right (by omega), hy]
        congr 1
        omega
  · rw [if_neg hj, List.getElem?_eq_none (by rw [List.length_append, List.length_append, ht, hy, hdl]; omega)]
theorem del_shift (cur xs cs : List Value) (k n i o : Nat) (hc : n * k ≤ cur.length) (hx : cur.take (n * k) = xs) (hi : i < n) (ho : (n - 1) * k ≤ o) (hol : o + cs.length ≤ cur.length) :
    (putAt (putAt cur (i * k) (xs.drop ((i + 1) * k))) o cs).take ((n - 1) * k) = xs.take (i * k) ++ xs.drop ((i + 1) * k) := by
  obtain ⟨m, rfl⟩ : ∃ m, n = m + 1 := ⟨n - 1, by omega⟩
  have hnk : (m + 1) * k = m * k + k := Nat.succ_mul m k
  have hik : (i + 1) * k = i * k + k := Nat.succ_mul i k
  have hin : i * k ≤ m * k := Nat.mul_le_mul_right k (by omega)
  rw [Nat.add_sub_cancel] at ho ⊢
  have hxl : xs.length = (m + 1) * k := by rw [← hx, List.length_take]; omega
  have hdl : (xs.drop ((i + 1) * k)).length = m * k - i * k := by rw [List.length_drop, hxl]; omega
  have hl1 : (putAt cur (i * k) (xs.drop ((i + 1) * k))).length = cur.length := putAt_len (by rw [hdl]; omega)
  have ht : (xs.take (i * k)).length = i * k := by rw [List.length_take]; omega
  rw [putAt_take ho (by omega)]
  apply List.ext_getElem?
  intro j
  rw [List.getElem?_take]
  by_cases hj : j < m * k
  · rw [if_pos hj, putAt_get (by rw [hdl]; omega)]
    by_cases h1 : j < i * k
    · rw [if_neg (by omega), List.getElem?_append_left (by omega), List.getElem?_take, if_pos h1, ← hx, List.getElem?_take, if_pos (by omega)]
    · rw [if_pos (by omega), List.getElem?_append_right (by omega), ht]
  · rw [if_neg hj, List.getElem?_eq_none (by rw [List.length_append, ht, hdl]; omega)]
end Go.Proofs.Ytniacolkjdmflaa
end
section
namespace Go.Proofs.Ytniacolkjdmflaa

structure St where
  c : Int
  s : Int
def stZero : St := ⟨0, 0⟩
def stSite (n : Int) : Bool := decide (0 ≤ n ∧ n ≤ 11)
def stGood (x : St) : Bool := decide (1 ≤ x.c ∧ x.c ≤ 4294967295) && stSite x.s
def cmpI (a b : Int) : Int := if a < b then -1 else if b < a then 1 else 0
def stCmp (x y : St) : Int := if x.c = y.c then cmpI x.s y.s else cmpI x.c y.c
def stLater (x y : St) : Bool := if x.c = y.c then decide (y.s < x.s) else decide (y.c < x.c)
def stMax (m y : St) : St := if 0 < stCmp y m then y else m
def stLatest : List St → St
  | [] => stZero
  | x :: l => l.foldl stMax x

theorem St.eq {x y : St} (h1 : x.c = y.c) (h2 : x.s = y.s) : x = y := by cases x; cases y; simp_all
theorem cmpI_pos (a b : Int) : 0 < cmpI a b ↔ b < a := by unfold cmpI; split <;> (try split) <;> omega
theorem cmpI_neg (a b : Int) : cmpI b a = - cmpI a b := by unfold cmpI; split <;> (try split) <;> (try split) <;> omega
theorem cmpI_zero (a b : Int) : cmpI a b = 0 ↔ a = b := by unfold cmpI; split <;> (try split) <;> omega
theorem stCmp_pos (x y : St) : 0 < stCmp x y ↔ stLater x y = true := by
  unfold stCmp stLater
  split
  · rw [cmpI_pos, decide_eq_true_eq]
  · rw [cmpI_pos, decide_eq_true_eq]
theorem stCmp_neg (x y : St) : stCmp y x = - stCmp x y := by
  unfold stCmp
  by_cases h : x.c = y.c
  · rw [if_pos h, if_pos h.symm, cmpI_neg]
  · rw [if_neg h, if_neg (fun e => h e.symm), cmpI_neg]
theorem stCmp_zero (x y : St) : stCmp x y = 0 ↔ x = y := by
  unfold stCmp
  constructor
  · intro h
    split at h
    · next e => exact St.eq e ((cmpI_zero _ _).1 h)
    · next e => exact absurd ((cmpI_zero _ _).1 h) e
  · rintro rfl
    rw [if_pos rfl, cmpI_zero]
theorem later_def (x y : St) : stLater x y = true ↔ y.c < x.c ∨ (x.c = y.c ∧ y.s < x.s) := by
  unfold stLater
  split
  · next h => rw [decide_eq_true_eq]; omega
  · next h => rw [decide_eq_true_eq]; omega
theorem later_false (x y : St) : stLater x y = false ↔ ¬ (y.c < x.c ∨ (x.c = y.c ∧ y.s < x.s)) := by
  rw [← later_def]
  cases stLater x y <;> simp
theorem cmpI_one {a b : Int} (h : b < a) : cmpI a b = 1 := by unfold cmpI; rw [if_neg (by omega), if_pos h]
theorem stCmp_one {x y : St} (h : stLater x y = true) : stCmp x y = 1 := by
  rw [later_def] at h
  unfold stCmp
  by_cases e : x.c = y.c
  · rw [if_pos e]; exact cmpI_one (by omega)
  · rw [if_neg e]; exact cmpI_one (by omega)
/-- The law's want: 1 if the first is later, -1 if the second is. -/
theorem cmp_want (x y : St) : stCmp x y = (if stLater y x = true then -1 else if stLater x y = true then 1 else 0) := by
  by_cases h1 : stLater y x = true
  · rw [if_pos h1, stCmp_neg, stCmp_one h1]
  · rw [if_neg h1]
    have n1 : ¬ 0 < stCmp y x := fun h => h1 ((stCmp_pos y x).1 h)
    rw [stCmp_neg] at n1
    by_cases h2 : stLater x y = true
    · rw [if_pos h2, stCmp_one h2]
    · rw [if_neg h2]
      have n2 : ¬ 0 < stCmp x y := fun h => h2 ((stCmp_pos x y).1 h)
      omega
theorem max_ge (m y : St) : stLater m (stMax m y) = false ∧ stLater y (stMax m y) = false := by
  unfold stMax
  have e := stCmp_pos y m
  by_cases h : 0 < stCmp y m
  · rw [if_pos h]
    have h1 := (later_def _ _).1 (e.1 h)
    exact ⟨(later_false _ _).2 (by omega), (later_false _ _).2 (by omega)⟩
  · rw [if_neg h]
    refine ⟨(later_false _ _).2 (by omega), ?_⟩
    cases hh : stLater y m
    · rfl
    · exact absurd (e.2 hh) h
theorem max_one (m y : St) : stMax m y = m ∨ stMax m y = y := by
  unfold stMax
  split
  · exact .inr rfl
  · exact .inl rfl
theorem later_trans {x y z : St} (h1 : stLater x y = false) (h2 : stLater y z = false) : stLater x z = false := by
  rw [later_false] at h1 h2 ⊢
  omega
theorem later_anti {x y : St} (h1 : stLater x y = false) (h2 : stLater y x = false) : x = y := by
  rw [later_false] at h1 h2
  exact St.eq (by omega) (by omega)
theorem fold_top : ∀ (l : List St) (m : St), stLater m (l.foldl stMax m) = false ∧ (∀ x ∈ l, stLater x (l.foldl stMax m) = false) ∧ (l.foldl stMax m = m ∨ l.foldl stMax m ∈ l)
  | [], m => ⟨(later_false _ _).2 (by simp), by simp, .inl rfl⟩
  | y :: l, m => by
    obtain ⟨h1, h2, h3⟩ := fold_top l (stMax m y)
    obtain ⟨g1, g2⟩ := max_ge m y
    refine ⟨later_trans g1 h1, fun x hx => ?_, ?_⟩
    · rcases List.mem_cons.1 hx with rfl | hx
      · exact later_trans g2 h1
      · exact h2 x hx
    · rw [List.foldl_cons]
      rcases h3 with h3 | h3
      · rw [h3]
        rcases max_one m y with h | h
        · exact .inl h
        · exact .inr (by simp [h])
      · exact .inr (List.mem_cons_of_mem _ h3)
/-- None is later than the latest one, which is one of them. -/
theorem latest_top {l : List St} (h : l ≠ []) : stLatest l ∈ l ∧ ∀ x ∈ l, stLater x (stLatest l) = false := by
  cases l with
  | nil => exact absurd rfl h
  | cons y l =>
    obtain ⟨h1, h2, h3⟩ := fold_top l y
    refine ⟨?_, fun x hx => ?_⟩
    · rcases h3 with h3 | h3
      · exact List.mem_cons.2 (.inl h3)
      · exact List.mem_cons_of_mem _ h3
    · rcases List.mem_cons.1 hx with rfl | hx
      · exact h1
      · exact h2 x hx
theorem latest_is {l : List St} {m : St} (h1 : m ∈ l) (h2 : ∀ x ∈ l, stLater x m = false) : stLatest l = m := by
  obtain ⟨g1, g2⟩ := latest_top (l := l) (fun e => by rw [e] at h1; cases h1)
  exact later_anti (h2 _ g1) (g2 _ h1)
end Go.Proofs.Ytniacolkjdmflaa
end
section
namespace Go.Proofs.Ytniacolkjdmflaa
set_option maxRecDepth 100000

structure En where
  k : ByteArray
  v : ByteArray
  d : Bool
  s : St
  a : St
  p : Int
  g : Int
def enZero : En := ⟨⟨#[]⟩, ⟨#[]⟩, false, stZero, stZero, 0, 0⟩
def stEq (x y : St) : Bool := x.c == y.c && x.s == y.s
theorem stEq_iff (x y : St) : stEq x y = true ↔ x = y := by
  simp only [stEq, Bool.and_eq_true, beq_iff_eq]
  exact ⟨fun h => St.eq h.1 h.2, fun h => by subst h; exact ⟨rfl, rfl⟩⟩
def enKeyBad (e : En) : Bool := decide (e.k.size < 1) || decide (16 < e.k.size)
def enValBad (e : En) : Bool := decide (32 < e.v.size) || (e.d && decide (0 < e.v.size))
def enStBad (e : En) : Bool := !(stGood e.s && stGood e.a) || stLater e.s e.a
def enLive (e : En) : Bool := stEq e.a e.s && e.p == 0 && e.g == 0
def enCert (e : En) : Bool := decide (1 ≤ e.p) && decide (e.p ≤ 4095) && decide (0 ≤ e.g) && decide (e.g ≤ 2147483647)
def enRestBad (e : En) : Bool := !(if e.d then enCert e else enLive e)
def enCheck (e : En) : Int := if enKeyBad e = true then 9 else if enValBad e = true then 10 else if enStBad e = true then 1 else if enRestBad e = true then 1 else 0
def enNewer (x y : En) : Bool := if stEq x.s y.s = true then stLater x.a y.a else stLater x.s y.s

theorem str_empty (s : ByteArray) : (s.toList == ByteArray.toList ⟨#[]⟩) = decide (s.size = 0) := by
  rw [ByteArray.toList_eq, ByteArray.toList_eq]
  obtain ⟨⟨l⟩⟩ := s
  cases l <;> simp [ByteArray.size]
theorem str_eq {s t : ByteArray} : (s.toList == t.toList) = true ↔ s = t := by
  rw [beq_iff_eq, ByteArray.toList_eq, ByteArray.toList_eq]
  obtain ⟨⟨x⟩⟩ := s
  obtain ⟨⟨y⟩⟩ := t
  simp
def enEq (x y : En) : Bool := (x.k.toList == y.k.toList) && (x.v.toList == y.v.toList) && (x.d == y.d) && stEq x.s y.s && stEq x.a y.a && (x.p == y.p) && (x.g == y.g)
theorem enEq_iff (x y : En) : enEq x y = true ↔ x = y := by
  unfold enEq
  simp only [Bool.and_eq_true, stEq_iff, beq_iff_eq]
  constructor
  · rintro ⟨⟨⟨⟨⟨⟨h1, h2⟩, h3⟩, h4⟩, h5⟩, h6⟩, h7⟩
    have h1 := str_eq.1 (beq_iff_eq.2 h1)
    have h2 := str_eq.1 (beq_iff_eq.2 h2)
    cases x; cases y; simp_all
  · rintro rfl
    simp
theorem enEq_refl (x : En) : enEq x x = true := (enEq_iff x x).2 rfl

def enAlike (x y : En) : Bool := enEq ⟨x.k, x.v, x.d, x.s, x.a, x.p, y.g⟩ y
theorem stEq_cmp (x y : St) : stEq x y = (stCmp x y == 0) := by
  rw [Bool.eq_iff_iff, stEq_iff, beq_iff_eq, stCmp_zero]
theorem newer_cmp (x y : En) : enNewer x y = if (stCmp x.s y.s != 0) = true then decide (0 < stCmp x.s y.s) else if (stCmp x.a y.a != 0) = true then decide (0 < stCmp x.a y.a) else false := by
  have e : ∀ a b : St, stLater a b = decide (0 < stCmp a b) := fun a b => by rw [Bool.eq_iff_iff, decide_eq_true_eq, stCmp_pos]
  rw [enNewer, stEq_cmp, e, e]
  by_cases h : stCmp x.s y.s = 0
  · by_cases h2 : stCmp x.a y.a = 0
    · simp [h, h2]
    · simp [h, h2]
  · simp [h]
def enChecked (e : En) : En × Int := if enCheck e = 0 then (e, 0) else (enZero, enCheck e)
def enWake (e : En) (a : St) : En × Int := if enCheck e = 0 then (if (e.d && stGood a && stLater a e.a) = true then (⟨e.k, e.v, e.d, e.s, a, e.p, 0⟩, 0) else (enZero, 1)) else (enZero, enCheck e)
/-- The ways that Wake goes. -/
theorem wake_ways (e : En) (a : St) (z : Int) (gb lt : Bool) (r : Int) (hz : enCheck e = z) (hg : stGood a = gb) (hl : stLater a e.a = lt) (hr : stCmp a e.a = r) :
    ((z != 0) = true ∧ enWake e a = (enZero, z)) ∨
    ((z != 0) = false ∧ e.d = false ∧ enWake e a = (enZero, 1)) ∨
    ((z != 0) = false ∧ e.d = true ∧ gb = false ∧ enWake e a = (enZero, 1)) ∨
    ((z != 0) = false ∧ e.d = true ∧ gb = true ∧ lt = false ∧ decide (r ≤ 0) = true ∧ enWake e a = (enZero, 1)) ∨
    ((z != 0) = false ∧ e.d = true ∧ gb = true ∧ lt = true ∧ decide (r ≤ 0) = false ∧ enWake e a = (⟨e.k, e.v, true, e.s, a, e.p, 0⟩, 0)) := by
  have hlt : lt = decide (0 < r) := by rw [← hl, Bool.eq_iff_iff, decide_eq_true_eq, ← hr, stCmp_pos]
  unfold enWake
  rw [hz, hg, hl]
  by_cases h0 : z = 0
  · cases hd : e.d
    · simp [h0]
    · cases gb
      · simp [h0]
      · by_cases hp : 0 < r
        · have : ¬ r ≤ 0 := by omega
          simp [h0, hlt, hp, this]
        · have : r ≤ 0 := by omega
          simp [h0, hlt, hp, this]
  · simp [h0]
end Go.Proofs.Ytniacolkjdmflaa
end
