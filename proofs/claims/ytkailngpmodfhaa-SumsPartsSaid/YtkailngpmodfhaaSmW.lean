/- Words for lists of entries that are under way beside a sum. No statement of the seat is proved here. -/
import Derived.Test.YtkailngpmodfhaaSmD
import Derived.Test.YtkailngpmodfhaaApp
import Derived.Test.YtkailngpmodfhaaTbS
namespace Go.Proofs.Ytkailngpmodfhaa
open Go.RowKit
set_option maxRecDepth 100000
set_option linter.all false

theorem api_info : (Try.prog.info? 78).map (fun i => (i.zero, i.size, i.bytes)) = some (some (.agg #[.string ⟨#[]⟩, .string ⟨#[]⟩, .bool false, .int .i64 0, .int .i64 0, .int .i64 0, .int .i64 0, .int .i64 0, .int .i64 0]), 9, 88) := by kernel_rfl
theorem ref_info : (Try.prog.info? 73).map (fun i => (i.zero, i.size, i.bytes)) = some (some (.agg #[.string ⟨#[]⟩, .string ⟨#[]⟩, .bool false, .int .i64 0, .int .i64 0, .int .i64 0, .int .i64 0, .int .i64 0, .int .i64 0]), 9, 88) := by kernel_rfl
theorem rows_one (l : List En) : ∀ u ∈ l.flatMap enRow, u.oneCell' = true := by
  intro u hu
  obtain ⟨e, _, he⟩ := List.mem_flatMap.1 hu
  simp only [enRow, List.mem_cons, List.not_mem_nil, or_false] at he
  rcases he with rfl | rfl | rfl | rfl | rfl | rfl | rfl | rfl | rfl <;> rfl
theorem row_one (e : En) : ∀ u ∈ enRow e, u.oneCell' = true := fun u hu => rows_one [e] u (by simpa using hu)
theorem rows_succ {l : List En} {k : Nat} {a : En} (h : l[k]? = some a) : (l.take (k + 1)).flatMap enRow = (l.take k).flatMap enRow ++ enRow a := by
  obtain ⟨hk, hb⟩ := List.getElem?_eq_some_iff.1 h
  rw [List.take_succ_eq_append_getElem hk, List.flatMap_append, hb]
  simp
/-- The nine cells of an entry in a list, here. -/
theorem en_here {w : World} {b off : Nat} {l : List En} (hc : ∀ j u, (l.flatMap enRow)[j]? = some u → w.cell? ⟨b, off + j, none⟩ = some u) (hb : b < w.heap.size) {k : Nat} {a : En} (ha : l[k]? = some a) :
    w.cell? ⟨b, off + k * 9, none⟩ = some (.string a.k) ∧ w.cell? ⟨b, off + k * 9 + 1, none⟩ = some (.string a.v) ∧ w.cell? ⟨b, off + k * 9 + 2, none⟩ = some (.bool a.d) ∧ w.cell? ⟨b, off + k * 9 + 3, none⟩ = some (.int .i64 a.s.c) ∧ w.cell? ⟨b, off + k * 9 + 4, none⟩ = some (.int .i64 a.s.s) ∧ w.cell? ⟨b, off + k * 9 + 5, none⟩ = some (.int .i64 a.a.c) ∧ w.cell? ⟨b, off + k * 9 + 6, none⟩ = some (.int .i64 a.a.s) ∧ w.cell? ⟨b, off + k * 9 + 7, none⟩ = some (.int .i64 a.p) ∧ w.cell? ⟨b, off + k * 9 + 8, none⟩ = some (.int .i64 a.g) :=
  en_at hc (Only.refl none_ w) hb ha

theorem Cel.part {w : World} {S : Nat → Prop} {k : Nat} {A A' : Option Addr} {n n' c c' p : Nat} {cs : List Value} (h : Cel w S (.slice A n c) n k cs) (hp : p + n' ≤ n) (hA : 0 < n' → ∀ b off, A = some ⟨b, off, none⟩ → A' = some ⟨b, off + p * k, none⟩) (hn : n' ≤ c') (hc : c' ≤ c) (hA0 : A' = none → c' = 0) :
    Cel w S (.slice A' n' c') n' k ((cs.drop (p * k)).take (n' * k)) := by
  obtain ⟨A0, c0, e, h0, h1, h2, h3, h4⟩ := h
  injection e with e1 e2 e3
  subst e1 e3
  have hm : p * k + n' * k ≤ n * k := by rw [← Nat.add_mul]; exact Nat.mul_le_mul_right k hp
  refine ⟨A', c', rfl, by rw [List.length_take, List.length_drop, h0]; omega, hn, Nat.le_trans hc h2, hA0, fun hp' => ?_⟩
  obtain ⟨b, off, rfl, hs, hlt, hcell⟩ := h4 (by omega)
  refine ⟨b, off + p * k, hA hp' b off rfl, hs, hlt, fun j u hu => ?_⟩
  rw [List.getElem?_take] at hu
  split at hu
  · rw [List.getElem?_drop] at hu
    rw [Nat.add_assoc]
    exact hcell _ _ hu
  · cases hu
theorem rows_take (l : List En) (n : Nat) : (l.flatMap enRow).take (n * 9) = (l.take n).flatMap enRow := by
  induction l generalizing n with
  | nil => simp
  | cons e l ih =>
    cases n with
    | zero => simp
    | succ n =>
      rw [List.take_succ_cons, List.flatMap_cons, List.flatMap_cons, List.take_append, enRow_length, show (n + 1) * 9 - 9 = n * 9 by omega, ih, List.take_of_length_le (by rw [enRow_length]; omega)]
theorem rows_drop (l : List En) (n : Nat) : (l.flatMap enRow).drop (n * 9) = (l.drop n).flatMap enRow := by
  induction l generalizing n with
  | nil => simp
  | cons e l ih =>
    cases n with
    | zero => simp
    | succ n =>
      rw [List.drop_succ_cons, List.flatMap_cons, List.drop_append, enRow_length, show (n + 1) * 9 - 9 = n * 9 by omega, ih, List.drop_of_length_le (by rw [enRow_length]; omega), List.nil_append]

/-- A list parted at a place. -/
theorem cel_cut {i : TypeInfo} (hi : Try.prog.info? 73 = some i) (hsz : i.size = 9) {w : World} {S : Nat → Prop} {A : Option Addr} {L c : Nat} {l : List En} (h : Cel w S (.slice A L c) L 9 (l.flatMap enRow)) (hL : L = l.length) (k : Nat) (hk : k ≤ L) :
    ∃ A1 A2, (∀ w', (Instr.sliceAt 67 (.slice A L c) (some (.int .i64 (k : Int))) none none).run Try.prog w' = .ok (.slice A1 (L - k) (c - k)) w') ∧ (∀ w', (Instr.sliceAt 67 (.slice A L c) none (some (.int .i64 (k : Int))) none).run Try.prog w' = .ok (.slice A2 k c) w') ∧
      Cel w S (.slice A1 (L - k) (c - k)) (L - k) 9 ((l.drop k).flatMap enRow) ∧ Cel w S (.slice A2 k c) k 9 ((l.take k).flatMap enRow) := by
  have hfl : (l.flatMap enRow).length = L * 9 := by rw [flat_len enRow enRow_length, hL]
  obtain ⟨A0, c0, e, h0, h1, h2, h3, h4⟩ := id h
  injection e with e1 e2 e3
  subst e1 e3
  have e1 : ((l.flatMap enRow).drop (k * 9)).take ((L - k) * 9) = (l.drop k).flatMap enRow := by
    rw [rows_drop, List.take_of_length_le]
    rw [flat_len enRow enRow_length, List.length_drop, hL]; exact Nat.le_refl _
  have e2 : ((l.flatMap enRow).drop (0 * 9)).take (k * 9) = (l.take k).flatMap enRow := by
    rw [Nat.zero_mul, List.drop_zero, rows_take]
  rcases Nat.eq_zero_or_pos L with hz | hz
  · have hk0 : k = 0 := by omega
    subst hk0
    obtain ⟨A1, hA1⟩ := sl_lo_any Try.underlying67 hi A L c 0 (by omega) ((0 : Nat) : Int) rfl
    have hnil : l = [] := List.eq_nil_of_length_eq_zero (by omega)
    subst hnil
    cases A with
    | none =>
      have hc0 := h3 rfl
      subst hc0 hz
      refine ⟨none, none, fun w' => ?_, fun w' => ?_, ?_, ?_⟩
      · simp [Instr.sliceAt, Instr.slice, run_underlying Try.underlying67, Instr.sliceBounds, run_sliceBound, sizeOf, typeInfo, hi]
      · simp [Instr.sliceAt, Instr.slice, run_underlying Try.underlying67, Instr.sliceBounds, run_sliceBound, sizeOf, typeInfo, hi]
      · exact h
      · exact h
    | some ad =>
      refine ⟨some (if c = 0 then ad else ad.add (0 * i.size)), some (if c = 0 then ad else ad.add (0 * i.size)), fun w' => ?_, fun w' => ?_, ?_, ?_⟩
      · subst hz
        by_cases hc : c = 0 <;> simp [Instr.sliceAt, Instr.slice, run_underlying Try.underlying67, Instr.sliceBounds, run_sliceBound, sizeOf, typeInfo, hi, hc]
      · subst hz
        by_cases hc : c = 0 <;> simp [Instr.sliceAt, Instr.slice, run_underlying Try.underlying67, Instr.sliceBounds, run_sliceBound, sizeOf, typeInfo, hi, hc]
      · rw [← e1]
        exact h.part (p := 0) (by omega) (fun h0 => by omega) (by omega) (by omega) (fun e => by cases e)
      · rw [← e2]
        exact h.part (p := 0) (by omega) (fun h0 => by omega) (by omega) (by omega) (fun e => by cases e)
  · obtain ⟨ba, off, rfl, _⟩ := h4 hz
    have hs1 := sl_hi Try.underlying67 hi ba off L c k (by omega) (k : Int) rfl
    by_cases hrc : k < c
    · refine ⟨_, _, sl_lo Try.underlying67 hi hsz ba off L c k hk hrc (k : Int) rfl, hs1, ?_, ?_⟩
      · rw [← e1]
        exact h.part (by omega) (fun _ b o e => by injection e with e; injection e with e1 e2; subst e1 e2; rfl) (by omega) (by omega) (fun e => by cases e)
      · rw [← e2]
        exact h.part (by omega) (fun _ b o e => by injection e with e; injection e with e1 e2; subst e1 e2; simp) (by omega) (Nat.le_refl _) (fun e => by cases e)
    · refine ⟨_, _, sl_lo_end Try.underlying67 hi ba off L c k hk (by omega) (k : Int) rfl, hs1, ?_, ?_⟩
      · rw [← e1]
        exact h.part (p := k) (by omega) (fun h0 => by omega) (by omega) (by omega) (fun e => by cases e)
      · rw [← e2]
        exact h.part (by omega) (fun _ b o e => by injection e with e; injection e with e1 e2; subst e1 e2; simp) (by omega) (Nat.le_refl _) (fun e => by cases e)
theorem sumH_turned (l : List En) (k : Nat) : sumH (l.drop k ++ l.take k) = sumH l := by
  rw [sumH_append, Int.add_comm, ← sumH_append, List.take_append_drop]
end Go.Proofs.Ytkailngpmodfhaa
