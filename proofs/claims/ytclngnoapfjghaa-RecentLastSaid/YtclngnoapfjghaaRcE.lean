/- Marks held against each other by '=='. No statement of the seat is proved here. -/
import Derived.Test.YtclngnoapfjghaaRcM
import Derived.Test.YtclngnoapfjghaaChecked
import Derived.Test.YtclngnoapfjghaaBase
import Derived.ChangeKeysEq
import Derived.Laws.StructEq
namespace Go.Proofs.Ytclngnoapfjghaa
open Go.RowKit
set_option maxRecDepth 100000
set_option linter.all false

def mkSame (x y : Mk) : Bool := stSame x.a y.a && decide (x.k = y.k)
theorem mkSame_iff (x y : Mk) : mkSame x y = true ↔ x = y := by
  unfold mkSame
  rw [Bool.and_eq_true, stSame_iff, decide_eq_true_eq]
  exact ⟨fun h => Mk.eq h.1 h.2, fun h => by subst h; exact ⟨rfl, rfl⟩⟩
theorem isTop_same (x : Mk) : isTop x = mkSame x mkTop := rfl

theorem eq_struct10 {P : Program} {t : TypeId} {fs : Array Field} (ht : P.underlying t = some (.struct fs)) (hp : P.stoodInHeld t = false) (d : Nat) (xs ys : Array Value) (w : World) :
    (Op.equalIn (d + 1) t (.agg xs) (.agg ys)).run P w = (Op.eqFields d xs ys fs.toList).run P w := by
  have e : P.fieldsOf t = fs := by rw [Program.fieldsOf, ht]
  rw [run_equalIn_struct w d t xs ys (by rw [e]; exact ht) hp, e]
theorem str_same (a b : ByteArray) : (a.toList == b.toList) = decide (a = b) := by
  rw [Bool.eq_iff_iff, beq_iff_eq, decide_eq_true_eq]
  exact ⟨fun h => by
    have e : ∀ x : ByteArray, x.toList = x.data.toList := fun x => by
      rw [ByteArray.toList_eq]
    rw [e, e] at h
    exact key_ext h, fun h => by rw [h]⟩
theorem eqa_stamp (w : World) (x y : St) (d : Nat) : (Op.equalIn (d + 2) 37 (.agg #[.int .i64 x.c, .int .i64 x.s]) (.agg #[.int .i64 y.c, .int .i64 y.s])).run Try.prog w = .ok (stSame x y) w := by
  rw [eq_struct10 Try.underlying37 (by kernel_rfl)]
  have e : ∀ (a b : Int), (Op.equalIn (d + 1) 3 (.int .i64 a) (.int .i64 b)).run Try.prog w = .ok (a == b) w := fun a b => run_equalIn_int w d 3 .i64 .i64 a b Try.underlying3
  have e1 : stSame x y = (x.c == y.c && x.s == y.s) := by unfold stSame; simp [Bool.beq_eq_decide_eq]
  rw [e1]
  cases h1 : x.c == y.c <;> cases h2 : x.s == y.s <;> simp [Op.eqFields, part, isAgg, run_underlying Try.underlying3, e, h1, h2]
theorem eqr_stamp (w : World) (x y : St) (d : Nat) : (Op.equalIn (d + 2) 29 (.agg #[.int .i64 x.c, .int .i64 x.s]) (.agg #[.int .i64 y.c, .int .i64 y.s])).run Try.prog w = .ok (stSame x y) w := by
  rw [eq_struct10 Try.underlying29 (by kernel_rfl)]
  have e : ∀ (a b : Int), (Op.equalIn (d + 1) 3 (.int .i64 a) (.int .i64 b)).run Try.prog w = .ok (a == b) w := fun a b => run_equalIn_int w d 3 .i64 .i64 a b Try.underlying3
  have e1 : stSame x y = (x.c == y.c && x.s == y.s) := by unfold stSame; simp [Bool.beq_eq_decide_eq]
  rw [e1]
  cases h1 : x.c == y.c <;> cases h2 : x.s == y.s <;> simp [Op.eqFields, part, isAgg, run_underlying Try.underlying3, e, h1, h2]
theorem eqa_mark (w : World) (x y : Mk) (d : Nat) : (Op.equalIn (d + 3) 39 (.agg #[.int .i64 x.a.c, .int .i64 x.a.s, .string x.k]) (.agg #[.int .i64 y.a.c, .int .i64 y.a.s, .string y.k])).run Try.prog w = .ok (mkSame x y) w := by
  rw [eq_struct10 Try.underlying39 (by kernel_rfl) (d + 2)]
  have e1 : (Op.equalIn (d + 2) 9 (.string x.k) (.string y.k)).run Try.prog w = .ok (x.k.toList == y.k.toList) w := run_equalIn_string w (d + 1) 9 x.k y.k Try.underlying9
  rw [str_same] at e1
  have e4 := eqa_stamp w x.a y.a d
  obtain ⟨i0, hi0, hz0⟩ : ∃ i0, Try.prog.info? 37 = some i0 ∧ i0.size = 2 := by
    have : (Try.prog.info? 37).map (·.size) = some 2 := by kernel_rfl
    cases h : Try.prog.info? 37 with
    | none => rw [h] at this; cases this
    | some i0 => rw [h] at this; simp at this; exact ⟨i0, rfl, this⟩
  have p1 : ∀ z : Mk, (part 37 #[.int .i64 z.a.c, .int .i64 z.a.s, .string z.k] 0).run Try.prog w = .ok (.agg #[.int .i64 z.a.c, .int .i64 z.a.s]) w := fun z => by
    simp [part, isAgg, run_underlying Try.underlying37, sizeOf, typeInfo, hi0, hz0]
  have ps : ∀ (cs : Array Value) (i : Nat) (u : Value), cs[i]? = some u → (part 9 cs i).run Try.prog w = .ok u w := fun cs i u h => by simp [part, isAgg, run_underlying Try.underlying9, h]
  have r0 := ps #[.int .i64 x.a.c, .int .i64 x.a.s, .string x.k] 2 _ rfl
  have r1 := ps #[.int .i64 y.a.c, .int .i64 y.a.s, .string y.k] 2 _ rfl
  unfold mkSame
  generalize stSame x.a y.a = b1 at *
  generalize decide (x.k = y.k) = b2 at *
  cases b1 <;> cases b2 <;> simp [Op.eqFields, p1, r0, r1, e1, e4]
theorem eqr_mark (w : World) (x y : Mk) (d : Nat) : (Op.equalIn (d + 3) 31 (.agg #[.int .i64 x.a.c, .int .i64 x.a.s, .string x.k]) (.agg #[.int .i64 y.a.c, .int .i64 y.a.s, .string y.k])).run Try.prog w = .ok (mkSame x y) w := by
  rw [eq_struct10 Try.underlying31 (by kernel_rfl) (d + 2)]
  have e1 : (Op.equalIn (d + 2) 9 (.string x.k) (.string y.k)).run Try.prog w = .ok (x.k.toList == y.k.toList) w := run_equalIn_string w (d + 1) 9 x.k y.k Try.underlying9
  rw [str_same] at e1
  have e4 := eqr_stamp w x.a y.a d
  obtain ⟨i0, hi0, hz0⟩ : ∃ i0, Try.prog.info? 29 = some i0 ∧ i0.size = 2 := by
    have : (Try.prog.info? 29).map (·.size) = some 2 := by kernel_rfl
    cases h : Try.prog.info? 29 with
    | none => rw [h] at this; cases this
    | some i0 => rw [h] at this; simp at this; exact ⟨i0, rfl, this⟩
  have p1 : ∀ z : Mk, (part 29 #[.int .i64 z.a.c, .int .i64 z.a.s, .string z.k] 0).run Try.prog w = .ok (.agg #[.int .i64 z.a.c, .int .i64 z.a.s]) w := fun z => by
    simp [part, isAgg, run_underlying Try.underlying29, sizeOf, typeInfo, hi0, hz0]
  have ps : ∀ (cs : Array Value) (i : Nat) (u : Value), cs[i]? = some u → (part 9 cs i).run Try.prog w = .ok u w := fun cs i u h => by simp [part, isAgg, run_underlying Try.underlying9, h]
  have r0 := ps #[.int .i64 x.a.c, .int .i64 x.a.s, .string x.k] 2 _ rfl
  have r1 := ps #[.int .i64 y.a.c, .int .i64 y.a.s, .string y.k] 2 _ rfl
  unfold mkSame
  generalize stSame x.a y.a = b1 at *
  generalize decide (x.k = y.k) = b2 at *
  cases b1 <;> cases b2 <;> simp [Op.eqFields, p1, r0, r1, e1, e4]

theorem eqlA (w : World) (x y : Mk) : (binOp .eql 39 (.agg #[.int .i64 x.a.c, .int .i64 x.a.s, .string x.k]) (.agg #[.int .i64 y.a.c, .int .i64 y.a.s, .string y.k])).run Try.prog w = .ok (.bool (mkSame x y)) w := by
  rw [run_eql_struct, eqa_mark w x y 9997]; rfl
theorem neqA (w : World) (x y : Mk) : (binOp .neq 39 (.agg #[.int .i64 x.a.c, .int .i64 x.a.s, .string x.k]) (.agg #[.int .i64 y.a.c, .int .i64 y.a.s, .string y.k])).run Try.prog w = .ok (.bool (!mkSame x y)) w := by
  rw [run_neq_struct, eqa_mark w x y 9997]; rfl
theorem eqlR (w : World) (x y : Mk) : (binOp .eql 31 (.agg #[.int .i64 x.a.c, .int .i64 x.a.s, .string x.k]) (.agg #[.int .i64 y.a.c, .int .i64 y.a.s, .string y.k])).run Try.prog w = .ok (.bool (mkSame x y)) w := by
  rw [run_eql_struct, eqr_mark w x y 9997]; rfl
theorem neqR (w : World) (x y : Mk) : (binOp .neq 31 (.agg #[.int .i64 x.a.c, .int .i64 x.a.s, .string x.k]) (.agg #[.int .i64 y.a.c, .int .i64 y.a.s, .string y.k])).run Try.prog w = .ok (.bool (!mkSame x y)) w := by
  rw [run_neq_struct, eqr_mark w x y 9997]; rfl
theorem neqS (w : World) (x y : St) : (binOp .neq 29 (.agg #[.int .i64 x.c, .int .i64 x.s]) (.agg #[.int .i64 y.c, .int .i64 y.s])).run Try.prog w = .ok (.bool (!stSame x y)) w := by
  rw [run_neq_struct, eqr_stamp w x y 9998]; rfl
end Go.Proofs.Ytclngnoapfjghaa
