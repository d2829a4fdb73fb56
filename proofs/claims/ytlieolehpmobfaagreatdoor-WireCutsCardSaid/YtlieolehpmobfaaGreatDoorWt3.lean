/- Texts of mine, one behind the other: EqS, EnA, StA, StE, Std, EnE, EnWo, EnW. No statement of the seat is proved here. -/
import Derived.Test.YtlieolehpmobfaaGreatDoorWt1
import Derived.ChangeKeysEq
import Derived.Laws.StructEq
import Derived.Test.YtlieolehpmobfaaGreatDoorWt2
import Derived.Test.YtlieolehpmobfaaGreatDoorChecked
import Derived.Deep.QuietTactic
import Derived.BigQuiet
import Derived.StillTail
import Derived.RegionTactic
import Derived.WalkKit
import Derived.Laws.Tables
section
namespace Go.Proofs.YtlieolehpmobfaaGreatDoor
open Go.RowKit
set_option linter.all false
set_option maxRecDepth 100000
theorem eq_struct {P : Program} {t : TypeId} {fs : Array Field} (ht : P.underlying t = some (.struct fs)) (hp : P.stoodInHeld t = false) (d : Nat) (xs ys : Array Value) (w : World) :
    (Op.equalIn (d + 1) t (.agg xs) (.agg ys)).run P w = (Op.eqFields d xs ys fs.toList).run P w := by
  have e : P.fieldsOf t = fs := by rw [Program.fieldsOf, ht]
  rw [run_equalIn_struct w d t xs ys (by rw [e]; exact ht) hp, e]
theorem eql_of {P : Program} {w : World} {t : TypeId} {xs ys : Array Value} {b : Bool} (h : (Op.equalIn 10000 t (.agg xs) (.agg ys)).run P w = .ok b w) : (binOp .eql t (.agg xs) (.agg ys)).run P w = .ok (.bool b) w := by
  rw [run_eql_struct, h]; rfl
theorem neq_of {P : Program} {w : World} {t : TypeId} {xs ys : Array Value} {b : Bool} (h : (Op.equalIn 10000 t (.agg xs) (.agg ys)).run P w = .ok b w) : (binOp .neq t (.agg xs) (.agg ys)).run P w = .ok (.bool (!b)) w := by
  rw [run_neq_struct, h]; rfl
end Go.Proofs.YtlieolehpmobfaaGreatDoor
end
section
namespace Go.Proofs.YtlieolehpmobfaaGreatDoor
open Go.RowKit
set_option linter.all false
set_option maxRecDepth 100000
theorem eq_api_stamp (w : World) (x y : St) (d : Nat) : (Op.equalIn (d + 2) 39 (.agg #[.int .i64 x.c, .int .i64 x.s]) (.agg #[.int .i64 y.c, .int .i64 y.s])).run Tryz.prog w = .ok (stEq x y) w := by
  rw [eq_struct Tryz.underlying39 (by kernel_rfl)]
  have e : ∀ (a b : Int), (Op.equalIn (d + 1) 3 (.int .i64 a) (.int .i64 b)).run Tryz.prog w = .ok (a == b) w := fun a b => run_equalIn_int w d 3 .i64 .i64 a b Tryz.underlying3
  simp only [stEq]
  cases h1 : x.c == y.c <;> cases h2 : x.s == y.s <;> simp [Op.eqFields, part, isAgg, run_underlying Tryz.underlying3, e, h1, h2]
theorem eq_ref_stamp (w : World) (x y : St) (d : Nat) : (Op.equalIn (d + 2) 25 (.agg #[.int .i64 x.c, .int .i64 x.s]) (.agg #[.int .i64 y.c, .int .i64 y.s])).run Tryz.prog w = .ok (stEq x y) w := by
  rw [eq_struct Tryz.underlying25 (by kernel_rfl)]
  have e : ∀ (a b : Int), (Op.equalIn (d + 1) 3 (.int .i64 a) (.int .i64 b)).run Tryz.prog w = .ok (a == b) w := fun a b => run_equalIn_int w d 3 .i64 .i64 a b Tryz.underlying3
  simp only [stEq]
  cases h1 : x.c == y.c <;> cases h2 : x.s == y.s <;> simp [Op.eqFields, part, isAgg, run_underlying Tryz.underlying3, e, h1, h2]
theorem eq_api_entry (w : World) (x y : En) (d : Nat) : (Op.equalIn (d + 3) 147 (.agg #[.string x.k, .string x.v, .bool x.d, .int .i64 x.s.c, .int .i64 x.s.s, .int .i64 x.a.c, .int .i64 x.a.s, .int .i64 x.p, .int .i64 x.g]) (.agg #[.string y.k, .string y.v, .bool y.d, .int .i64 y.s.c, .int .i64 y.s.s, .int .i64 y.a.c, .int .i64 y.a.s, .int .i64 y.p, .int .i64 y.g])).run Tryz.prog w = .ok (enEq x y) w := by
  rw [eq_struct Tryz.underlying147 (by kernel_rfl) (d + 2)]
  have e1 : ∀ (a b : ByteArray), (Op.equalIn (d + 2) 9 (.string a) (.string b)).run Tryz.prog w = .ok (a.toList == b.toList) w := fun a b => run_equalIn_string w (d + 1) 9 a b Tryz.underlying9
  have e2 : ∀ (a b : Bool), (Op.equalIn (d + 2) 4 (.bool a) (.bool b)).run Tryz.prog w = .ok (a == b) w := fun a b => run_equalIn_bool w (d + 1) 4 a b Tryz.underlying4
  have e3 : ∀ (a b : Int), (Op.equalIn (d + 2) 3 (.int .i64 a) (.int .i64 b)).run Tryz.prog w = .ok (a == b) w := fun a b => run_equalIn_int w (d + 1) 3 .i64 .i64 a b Tryz.underlying3
  have e4 := eq_api_stamp w x.s y.s d
  have e5 := eq_api_stamp w x.a y.a d
  obtain ⟨i0, hi0, hz0⟩ : ∃ i0, Tryz.prog.info? 39 = some i0 ∧ i0.size = 2 := by
    have : (Tryz.prog.info? 39).map (·.size) = some 2 := by kernel_rfl
    cases h : Tryz.prog.info? 39 with
    | none => rw [h] at this; cases this
    | some i0 => rw [h] at this; simp at this; exact ⟨i0, rfl, this⟩
  have p1 : (part 39 #[.string x.k, .string x.v, .bool x.d, .int .i64 x.s.c, .int .i64 x.s.s, .int .i64 x.a.c, .int .i64 x.a.s, .int .i64 x.p, .int .i64 x.g] 3).run Tryz.prog w = .ok (.agg #[.int .i64 x.s.c, .int .i64 x.s.s]) w := by
    simp [part, isAgg, run_underlying Tryz.underlying39, sizeOf, typeInfo, hi0, hz0]
  have p2 : (part 39 #[.string x.k, .string x.v, .bool x.d, .int .i64 x.s.c, .int .i64 x.s.s, .int .i64 x.a.c, .int .i64 x.a.s, .int .i64 x.p, .int .i64 x.g] 5).run Tryz.prog w = .ok (.agg #[.int .i64 x.a.c, .int .i64 x.a.s]) w := by
    simp [part, isAgg, run_underlying Tryz.underlying39, sizeOf, typeInfo, hi0, hz0]
  have q1 : (part 39 #[.string y.k, .string y.v, .bool y.d, .int .i64 y.s.c, .int .i64 y.s.s, .int .i64 y.a.c, .int .i64 y.a.s, .int .i64 y.p, .int .i64 y.g] 3).run Tryz.prog w = .ok (.agg #[.int .i64 y.s.c, .int .i64 y.s.s]) w := by
    simp [part, isAgg, run_underlying Tryz.underlying39, sizeOf, typeInfo, hi0, hz0]
  have q2 : (part 39 #[.string y.k, .string y.v, .bool y.d, .int .i64 y.s.c, .int .i64 y.s.s, .int .i64 y.a.c, .int .i64 y.a.s, .int .i64 y.p, .int .i64 y.g] 5).run Tryz.prog w = .ok (.agg #[.int .i64 y.a.c, .int .i64 y.a.s]) w := by
    simp [part, isAgg, run_underlying Tryz.underlying39, sizeOf, typeInfo, hi0, hz0]
  have ps : ∀ (cs : Array Value) (i : Nat) (u : Value), cs[i]? = some u → (part 9 cs i).run Tryz.prog w = .ok u w := fun cs i u h => by simp [part, isAgg, run_underlying Tryz.underlying9, h]
  have pb : ∀ (cs : Array Value) (i : Nat) (u : Value), cs[i]? = some u → (part 4 cs i).run Tryz.prog w = .ok u w := fun cs i u h => by simp [part, isAgg, run_underlying Tryz.underlying4, h]
  have pi : ∀ (cs : Array Value) (i : Nat) (u : Value), cs[i]? = some u → (part 3 cs i).run Tryz.prog w = .ok u w := fun cs i u h => by simp [part, isAgg, run_underlying Tryz.underlying3, h]
  have s1 := e1 x.k y.k
  have s2 := e1 x.v y.v
  have s3 := e2 x.d y.d
  have s6 := e3 x.p y.p
  have s7 := e3 x.g y.g
  unfold enEq
  generalize (x.k.toList == y.k.toList) = b1 at *
  generalize (x.v.toList == y.v.toList) = b2 at *
  generalize (x.d == y.d) = b3 at *
  generalize stEq x.s y.s = b4 at *
  generalize stEq x.a y.a = b5 at *
  generalize (x.p == y.p) = b6 at *
  generalize (x.g == y.g) = b7 at *
  have r0 := ps #[.string x.k, .string x.v, .bool x.d, .int .i64 x.s.c, .int .i64 x.s.s, .int .i64 x.a.c, .int .i64 x.a.s, .int .i64 x.p, .int .i64 x.g] 0 _ rfl
  have r1 := ps #[.string y.k, .string y.v, .bool y.d, .int .i64 y.s.c, .int .i64 y.s.s, .int .i64 y.a.c, .int .i64 y.a.s, .int .i64 y.p, .int .i64 y.g] 0 _ rfl
  have r2 := ps #[.string x.k, .string x.v, .bool x.d, .int .i64 x.s.c, .int .i64 x.s.s, .int .i64 x.a.c, .int .i64 x.a.s, .int .i64 x.p, .int .i64 x.g] 1 _ rfl
  have r3 := ps #[.string y.k, .string y.v, .bool y.d, .int .i64 y.s.c, .int .i64 y.s.s, .int .i64 y.a.c, .int .i64 y.a.s, .int .i64 y.p, .int .i64 y.g] 1 _ rfl
  have r4 := pb #[.string x.k, .string x.v, .bool x.d, .int .i64 x.s.c, .int .i64 x.s.s, .int .i64 x.a.c, .int .i64 x.a.s, .int .i64 x.p, .int .i64 x.g] 2 _ rfl
  have r5 := pb #[.string y.k, .string y.v, .bool y.d, .int .i64 y.s.c, .int .i64 y.s.s, .int .i64 y.a.c, .int .i64 y.a.s, .int .i64 y.p, .int .i64 y.g] 2 _ rfl
  have r6 := pi #[.string x.k, .string x.v, .bool x.d, .int .i64 x.s.c, .int .i64 x.s.s, .int .i64 x.a.c, .int .i64 x.a.s, .int .i64 x.p, .int .i64 x.g] 7 _ rfl
  have r7 := pi #[.string y.k, .string y.v, .bool y.d, .int .i64 y.s.c, .int .i64 y.s.s, .int .i64 y.a.c, .int .i64 y.a.s, .int .i64 y.p, .int .i64 y.g] 7 _ rfl
  have r8 := pi #[.string x.k, .string x.v, .bool x.d, .int .i64 x.s.c, .int .i64 x.s.s, .int .i64 x.a.c, .int .i64 x.a.s, .int .i64 x.p, .int .i64 x.g] 8 _ rfl
  have r9 := pi #[.string y.k, .string y.v, .bool y.d, .int .i64 y.s.c, .int .i64 y.s.s, .int .i64 y.a.c, .int .i64 y.a.s, .int .i64 y.p, .int .i64 y.g] 8 _ rfl
  clear ps pb pi e1 e2 e3
  cases b1
  · simp [Op.eqFields, r0, r1, s1]
  cases b2
  · simp [Op.eqFields, r0, r1, r2, r3, s1, s2]
  cases b3
  · simp [Op.eqFields, r0, r1, r2, r3, r4, r5, s1, s2, s3]
  cases b4
  · simp [Op.eqFields, r0, r1, r2, r3, r4, r5, p1, q1, s1, s2, s3, e4]
  cases b5
  · simp [Op.eqFields, r0, r1, r2, r3, r4, r5, p1, q1, p2, q2, s1, s2, s3, e4, e5]
  cases b6
  · simp [Op.eqFields, r0, r1, r2, r3, r4, r5, p1, q1, p2, q2, r6, r7, s1, s2, s3, e4, e5, s6]
  cases b7 <;> simp [Op.eqFields, r0, r1, r2, r3, r4, r5, p1, q1, p2, q2, r6, r7, r8, r9, s1, s2, s3, e4, e5, s6, s7]
theorem eq_ref_entry (w : World) (x y : En) (d : Nat) : (Op.equalIn (d + 3) 123 (.agg #[.string x.k, .string x.v, .bool x.d, .int .i64 x.s.c, .int .i64 x.s.s, .int .i64 x.a.c, .int .i64 x.a.s, .int .i64 x.p, .int .i64 x.g]) (.agg #[.string y.k, .string y.v, .bool y.d, .int .i64 y.s.c, .int .i64 y.s.s, .int .i64 y.a.c, .int .i64 y.a.s, .int .i64 y.p, .int .i64 y.g])).run Tryz.prog w = .ok (enEq x y) w := by
  rw [eq_struct Tryz.underlying123 (by kernel_rfl) (d + 2)]
  have e1 : ∀ (a b : ByteArray), (Op.equalIn (d + 2) 9 (.string a) (.string b)).run Tryz.prog w = .ok (a.toList == b.toList) w := fun a b => run_equalIn_string w (d + 1) 9 a b Tryz.underlying9
  have e2 : ∀ (a b : Bool), (Op.equalIn (d + 2) 4 (.bool a) (.bool b)).run Tryz.prog w = .ok (a == b) w := fun a b => run_equalIn_bool w (d + 1) 4 a b Tryz.underlying4
  have e3 : ∀ (a b : Int), (Op.equalIn (d + 2) 3 (.int .i64 a) (.int .i64 b)).run Tryz.prog w = .ok (a == b) w := fun a b => run_equalIn_int w (d + 1) 3 .i64 .i64 a b Tryz.underlying3
  have e4 := eq_ref_stamp w x.s y.s d
  have e5 := eq_ref_stamp w x.a y.a d
  obtain ⟨i0, hi0, hz0⟩ : ∃ i0, Tryz.prog.info? 25 = some i0 ∧ i0.size = 2 := by
    have : (Tryz.prog.info? 25).map (·.size) = some 2 := by kernel_rfl
    cases h : Tryz.prog.info? 25 with
    | none => rw [h] at this; cases this
    | some i0 => rw [h] at this; simp at this; exact ⟨i0, rfl, this⟩
  have p1 : (part 25 #[.string x.k, .string x.v, .bool x.d, .int .i64 x.s.c, .int .i64 x.s.s, .int .i64 x.a.c, .int .i64 x.a.s, .int .i64 x.p, .int .i64 x.g] 3).run Tryz.prog w = .ok (.agg #[.int .i64 x.s.c, .int .i64 x.s.s]) w := by
    simp [part, isAgg, run_underlying Tryz.underlying25, sizeOf, typeInfo, hi0, hz0]
  have p2 : (part 25 #[.string x.k, .string x.v, .bool x.d, .int .i64 x.s.c, .int .i64 x.s.s, .int .i64 x.a.c, .int .i64 x.a.s, .int .i64 x.p, .int .i64 x.g] 5).run Tryz.prog w = .ok (.agg #[.int .i64 x.a.c, .int .i64 x.a.s]) w := by
    simp [part, isAgg, run_underlying Tryz.underlying25, sizeOf, typeInfo, hi0, hz0]
  have q1 : (part 25 #[.string y.k, .string y.v, .bool y.d, .int .i64 y.s.c, .int .i64 y.s.s, .int .i64 y.a.c, .int .i64 y.a.s, .int .i64 y.p, .int .i64 y.g] 3).run Tryz.prog w = .ok (.agg #[.int .i64 y.s.c, .int .i64 y.s.s]) w := by
    simp [part, isAgg, run_underlying Tryz.underlying25, sizeOf, typeInfo, hi0, hz0]
  have q2 : (part 25 #[.string y.k, .string y.v, .bool y.d, .int .i64 y.s.c, .int .i64 y.s.s, .int .i64 y.a.c, .int .i64 y.a.s, .int .i64 y.p, .int .i64 y.g] 5).run Tryz.prog w = .ok (.agg #[.int .i64 y.a.c, .int .i64 y.a.s]) w := by
    simp [part, isAgg, run_underlying Tryz.underlying25, sizeOf, typeInfo, hi0, hz0]
  have ps : ∀ (cs : Array Value) (i : Nat) (u : Value), cs[i]? = some u → (part 9 cs i).run Tryz.prog w = .ok u w := fun cs i u h => by simp [part, isAgg, run_underlying Tryz.underlying9, h]
  have pb : ∀ (cs : Array Value) (i : Nat) (u : Value), cs[i]? = some u → (part 4 cs i).run Tryz.prog w = .ok u w := fun cs i u h => by simp [part, isAgg, run_underlying Tryz.underlying4, h]
  have pi : ∀ (cs : Array Value) (i : Nat) (u : Value), cs[i]? = some u → (part 3 cs i).run Tryz.prog w = .ok u w := fun cs i u h => by simp [part, isAgg, run_underlying Tryz.underlying3, h]
  have s1 := e1 x.k y.k
  have s2 := e1 x.v y.v
  have s3 := e2 x.d y.d
  have s6 := e3 x.p y.p
  have s7 := e3 x.g y.g
  unfold enEq
  generalize (x.k.toList == y.k.toList) = b1 at *
  generalize (x.v.toList == y.v.toList) = b2 at *
  generalize (x.d == y.d) = b3 at *
  generalize stEq x.s y.s = b4 at *
  generalize stEq x.a y.a = b5 at *
  generalize (x.p == y.p) = b6 at *
  generalize (x.g == y.g) = b7 at *
  have r0 := ps #[.string x.k, .string x.v, .bool x.d, .int .i64 x.s.c, .int .i64 x.s.s, .int .i64 x.a.c, .int .i64 x.a.s, .int .i64 x.p, .int .i64 x.g] 0 _ rfl
  have r1 := ps #[.string y.k, .string y.v, .bool y.d, .int .i64 y.s.c, .int .i64 y.s.s, .int .i64 y.a.c, .int .i64 y.a.s, .int .i64 y.p, .int .i64 y.g] 0 _ rfl
  have r2 := ps #[.string x.k, .string x.v, .bool x.d, .int .i64 x.s.c, .int .i64 x.s.s, .int .i64 x.a.c, .int .i64 x.a.s, .int .i64 x.p, .int .i64 x.g] 1 _ rfl
  have r3 := ps #[.string y.k, .string y.v, .bool y.d, .int .i64 y.s.c, .int .i64 y.s.s, .int .i64 y.a.c, .int .i64 y.a.s, .int .i64 y.p, .int .i64 y.g] 1 _ rfl
  have r4 := pb #[.string x.k, .string x.v, .bool x.d, .int .i64 x.s.c, .int .i64 x.s.s, .int .i64 x.a.c, .int .i64 x.a.s, .int .i64 x.p, .int .i64 x.g] 2 _ rfl
  have r5 := pb #[.string y.k, .string y.v, .bool y.d, .int .i64 y.s.c, .int .i64 y.s.s, .int .i64 y.a.c, .int .i64 y.a.s, .int .i64 y.p, .int .i64 y.g] 2 _ rfl
  have r6 := pi #[.string x.k, .string x.v, .bool x.d, .int .i64 x.s.c, .int .i64 x.s.s, .int .i64 x.a.c, .int .i64 x.a.s, .int .i64 x.p, .int .i64 x.g] 7 _ rfl
  have r7 := pi #[.string y.k, .string y.v, .bool y.d, .int .i64 y.s.c, .int .i64 y.s.s, .int .i64 y.a.c, .int .i64 y.a.s, .int .i64 y.p, .int .i64 y.g] 7 _ rfl
  have r8 := pi #[.string x.k, .string x.v, .bool x.d, .int .i64 x.s.c, .int .i64 x.s.s, .int .i64 x.a.c, .int .i64 x.a.s, .int .i64 x.p, .int .i64 x.g] 8 _ rfl
  have r9 := pi #[.string y.k, .string y.v, .bool y.d, .int .i64 y.s.c, .int .i64 y.s.s, .int .i64 y.a.c, .int .i64 y.a.s, .int .i64 y.p, .int .i64 y.g] 8 _ rfl
  clear ps pb pi e1 e2 e3
  cases b1
  · simp [Op.eqFields, r0, r1, s1]
  cases b2
  · simp [Op.eqFields, r0, r1, r2, r3, s1, s2]
  cases b3
  · simp [Op.eqFields, r0, r1, r2, r3, r4, r5, s1, s2, s3]
  cases b4
  · simp [Op.eqFields, r0, r1, r2, r3, r4, r5, p1, q1, s1, s2, s3, e4]
  cases b5
  · simp [Op.eqFields, r0, r1, r2, r3, r4, r5, p1, q1, p2, q2, s1, s2, s3, e4, e5]
  cases b6
  · simp [Op.eqFields, r0, r1, r2, r3, r4, r5, p1, q1, p2, q2, r6, r7, s1, s2, s3, e4, e5, s6]
  cases b7 <;> simp [Op.eqFields, r0, r1, r2, r3, r4, r5, p1, q1, p2, q2, r6, r7, r8, r9, s1, s2, s3, e4, e5, s6, s7]
end Go.Proofs.YtlieolehpmobfaaGreatDoor
end
section
namespace Go.Proofs.YtlieolehpmobfaaGreatDoor
open Go.RowKit
set_option maxRecDepth 100000
theorem st_isSite (n : Int) (w : World) :
    Calls Tryz.prog 284 #[.int .i64 n] w fun e w' => e = .returned (.bool (stSite n)) ∧ w = w' := by
  by_cases h1 : 0 ≤ n
  · by_cases h2 : n < 12
    · have H : Hid (stSite n = true) := by simp [Hid, stSite, h1]; omega
      go_enter Tryz.func284, Tryz.ntmps284
      go_wp2
      go_ret
      rw [H.out]
      exact ⟨rfl, rfl⟩
    · have H : Hid (stSite n = false) := by simp [Hid, stSite]; omega
      go_enter Tryz.func284, Tryz.ntmps284
      go_wp2
      go_ret
      rw [H.out]
      exact ⟨rfl, rfl⟩
  · have H : Hid (stSite n = false) := by simp [Hid, stSite]; omega
    go_enter Tryz.func284, Tryz.ntmps284
    go_wp2
    go_ret
    rw [H.out]
    exact ⟨rfl, rfl⟩
theorem st_good (c s : Int) (w : World) :
    Calls Tryz.prog 239 #[.agg #[.int .i64 c, .int .i64 s]] w fun e w' => e = .returned (.bool (stGood ⟨c, s⟩)) ∧ Only none_ w w' := by
  have O := Lib.hid ((Only.refl none_ w).alloc (.cells #[.int .i64 c, .int .i64 s] 39))
  obtain ⟨b, hb⟩ : ∃ b, stSite s = b := ⟨_, rfl⟩
  have HB := Lib.hid hb
  have HG : Hid (stGood ⟨c, s⟩ = (decide (1 ≤ c ∧ c ≤ 4294967295) && b)) := by rw [Hid, stGood, hb]
  clear hb
  by_cases h1 : 1 ≤ c
  · by_cases h2 : c ≤ 4294967295
    · have H : Hid (stGood ⟨c, s⟩ = b) := by rw [Hid, HG.out]; simp [h1, h2]
      go_enter Tryz.func239, Tryz.ntmps239
      go_wp2_with (first
        | (go_at_call 284; refine (st_isSite _ _).mono ?_; rintro e w' ⟨rfl, rfl⟩; rw [HB.out]))
      go_ret
      rw [H.out]
      exact ⟨rfl, O.out⟩
    · have H : Hid (stGood ⟨c, s⟩ = false) := by rw [Hid, HG.out]; simp [h1, h2]
      go_enter Tryz.func239, Tryz.ntmps239
      go_wp2_with fail
      go_ret
      rw [H.out]
      exact ⟨rfl, O.out⟩
  · have H : Hid (stGood ⟨c, s⟩ = false) := by rw [Hid, HG.out]; simp [h1]
    go_enter Tryz.func239, Tryz.ntmps239
    go_wp2_with fail
    go_ret
    rw [H.out]
    exact ⟨rfl, O.out⟩
end Go.Proofs.YtlieolehpmobfaaGreatDoor
end
section
namespace Go.Proofs.YtlieolehpmobfaaGreatDoor
open Go.RowKit
set_option maxRecDepth 100000
theorem rf_site (n : Int) (w : World) :
    Calls Tryz.prog 57 #[.int .i64 n] w fun e w' => e = .returned (.bool (stSite n)) ∧ w = w' := by
  by_cases h1 : 0 ≤ n
  · by_cases h2 : n < 12
    · have H : Hid (stSite n = true) := by simp [Hid, stSite, h1]; omega
      go_enter Tryz.func57, Tryz.ntmps57
      go_wp2
      go_ret
      rw [H.out]
      exact ⟨rfl, rfl⟩
    · have H : Hid (stSite n = false) := by simp [Hid, stSite]; omega
      go_enter Tryz.func57, Tryz.ntmps57
      go_wp2
      go_ret
      rw [H.out]
      exact ⟨rfl, rfl⟩
  · have H : Hid (stSite n = false) := by simp [Hid, stSite]; omega
    go_enter Tryz.func57, Tryz.ntmps57
    go_wp2
    go_ret
    rw [H.out]
    exact ⟨rfl, rfl⟩
theorem rf_good (c s : Int) (w : World) :
    Calls Tryz.prog 111 #[.agg #[.int .i64 c, .int .i64 s]] w fun e w' => e = .returned (.bool (stGood ⟨c, s⟩)) ∧ Only none_ w w' := by
  have O := Lib.hid ((Only.refl none_ w).alloc (.cells #[.int .i64 c, .int .i64 s] 25))
  obtain ⟨b, hb⟩ : ∃ b, stSite s = b := ⟨_, rfl⟩
  have HB := Lib.hid hb
  have HG : Hid (stGood ⟨c, s⟩ = (decide (1 ≤ c ∧ c ≤ 4294967295) && b)) := by rw [Hid, stGood, hb]
  clear hb
  by_cases h1 : 1 ≤ c
  · by_cases h2 : c ≤ 4294967295
    · have H : Hid (stGood ⟨c, s⟩ = b) := by rw [Hid, HG.out]; simp [h1, h2]
      go_enter Tryz.func111, Tryz.ntmps111
      go_wp2_with (first
        | (go_at_call 57; refine (rf_site _ _).mono ?_; rintro e w' ⟨rfl, rfl⟩; rw [HB.out]))
      go_ret
      rw [H.out]
      exact ⟨rfl, O.out⟩
    · have H : Hid (stGood ⟨c, s⟩ = false) := by rw [Hid, HG.out]; simp [h1, h2]
      go_enter Tryz.func111, Tryz.ntmps111
      go_wp2_with fail
      go_ret
      rw [H.out]
      exact ⟨rfl, O.out⟩
  · have H : Hid (stGood ⟨c, s⟩ = false) := by rw [Hid, HG.out]; simp [h1]
    go_enter Tryz.func111, Tryz.ntmps111
    go_wp2_with fail
    go_ret
    rw [H.out]
    exact ⟨rfl, O.out⟩
theorem rf_later (c s c' s' : Int) (w : World) :
    Calls Tryz.prog 112 #[.agg #[.int .i64 c, .int .i64 s], .agg #[.int .i64 c', .int .i64 s']] w fun e w' => e = .returned (.bool (stLater ⟨c, s⟩ ⟨c', s'⟩)) ∧ Only none_ w w' := by
  have O := Lib.hid (((Only.refl none_ w).alloc (.cells #[.int .i64 c, .int .i64 s] 25)).alloc (.cells #[.int .i64 c', .int .i64 s'] 25))
  by_cases h : c = c'
  · have hz : (c != c') = false := by simp [h]
    have H : Hid (stLater ⟨c, s⟩ ⟨c', s'⟩ = decide (s' < s)) := by simp [Hid, stLater, h]
    clear h
    go_enter Tryz.func112, Tryz.ntmps112
    go_wp2_with fail
    go_ret
    rw [H.out]
    exact ⟨rfl, O.out⟩
  · have hz : (c != c') = true := by simp [h]
    have H : Hid (stLater ⟨c, s⟩ ⟨c', s'⟩ = decide (c' < c)) := by simp [Hid, stLater, h]
    clear h
    go_enter Tryz.func112, Tryz.ntmps112
    go_wp2_with fail
    go_ret
    rw [H.out]
    exact ⟨rfl, O.out⟩
theorem st_to (c s : Int) (w : World) :
    Calls Tryz.prog 182 #[.agg #[.int .i64 c, .int .i64 s]] w fun e w' => e = .returned (.agg #[.int .i64 c, .int .i64 s]) ∧ Only none_ w w' := by
  have O := Lib.hid (((Only.refl none_ w).alloc (.cells #[.int .i64 c, .int .i64 s] 39)).alloc (.cells #[.int .i64 c, .int .i64 s] 25))
  go_enter Tryz.func182, Tryz.ntmps182
  go_wp2_with fail
  exact bodyPost_ret (v := .agg #[.int .i64 c, .int .i64 s]) (by simp [results, Tryz.results182, go_sem]) rfl ⟨rfl, O.out⟩
end Go.Proofs.YtlieolehpmobfaaGreatDoor
end
section
namespace Go.Proofs.YtlieolehpmobfaaGreatDoor
open Go.RowKit
section
variable {P : Program} {ops : Array Oper} {md : Region.Mode} {S : World → Prop}
def Came (P : Program) (S : World → Prop) (v : Value) : Result Next → Prop
  | .ok (.value u) w => u = v ∧ S w
  | .ok .skip w => undef = v ∧ S w
  | .ok (.enter f args) w => Calls P f args w fun e w' => e = .returned v ∧ S w'
  | _ => False
def Steady (P : Program) (ops : Array Oper) (S : World → Prop) (o : Oper) (v : Value) (a : Act) : Prop :=
  (Region.wanted o (yielded ops a.tmps) = true ∧ ∀ w, S w → Came P S v ((execOp a.eval o).run P w)) ∨ (Region.wanted o (yielded ops a.tmps) = false ∧ undef = v)
def sdOp (P : Program) (ops : Array Oper) (S : World → Prop) (i : Nat) (K : Act → Prop) (a : Act) : Prop :=
  match ops[i]? with
  | none => K a
  | some o => ∃ v, Steady P ops S o v a ∧ K (a.put o.dst v)
def sdList (P : Program) (ops : Array Oper) (S : World → Prop) (K : Act → Prop) : List Oper → Act → Prop
  | [], a => K a
  | o :: r, a => ∃ v, Steady P ops S o v a ∧ sdList P ops S K r (a.put o.dst v)
def sdAny (P : Program) (md : Region.Mode) (ops : Array Oper) (S : World → Prop) (n : Nat) (L : Array Bool → Act → Prop) : Nat → Array Bool → Act → Prop
  | 0, listed, a => L listed a
  | f + 1, listed, a => Region.ready md ops listed ≠ [] ∧ ∀ i ∈ Region.ready md ops listed, i < n ∧ sdOp P ops S i (sdAny P md ops S n L f (listed.setIfInBounds i true)) a
theorem sdOp_mono {i : Nat} {a : Act} {K K' : Act → Prop} (h : ∀ a, K a → K' a) (hh : sdOp P ops S i K a) : sdOp P ops S i K' a := by
  unfold sdOp at *
  split at hh
  · exact h _ hh
  · obtain ⟨v, h1, h2⟩ := hh
    exact ⟨v, h1, h _ h2⟩
theorem sdOp_wp {i : Nat} {a : Act} {w : World} {K : Act → Prop} {K' : Act → World → Prop} {Q : Exit → Act → World → Prop} (hS : S w) (h : ∀ a w, S w → K a → K' a w) (hh : sdOp P ops S i K a) : wpOp P ops Q i K' a w := by
  unfold sdOp at hh
  unfold wpOp
  split at hh
  · next e => simp only [e]; exact h _ _ hS hh
  · next o e =>
    simp only [e]
    obtain ⟨v, ⟨hw, hv⟩ | ⟨hw, rfl⟩, hK⟩ := hh
    · rw [if_pos hw]
      refine .inl ?_
      have hv := hv w hS
      unfold Oper.wp
      generalize (execOp a.eval o).run P w = r at hv ⊢
      cases r with
      | halt x w' => exact hv.elim
      | ok n w' =>
        cases n <;> simp only [Came] at hv <;> simp only [Oper.upon]
        case value u => obtain ⟨rfl, h2⟩ := hv; exact h _ _ h2 hK
        case skip => obtain ⟨rfl, h2⟩ := hv; exact h _ _ h2 hK
        case enter f args => exact hv.mono fun e w'' ⟨he, h2⟩ => by subst he; exact h _ _ h2 hK
    · rw [if_neg (by simp [hw])]
      exact h _ _ hS hK
theorem sdOp_swap {j : Nat} {oi oj : Oper} {v : Value} {a : Act} {K : Act → Prop} (hj : ops[j]? = some oj) (hap : oi.apart ops oj = true)
    (hsi : ∀ cs b, oi.op ≠ .select cs b) (hsj : ∀ cs b, oj.op ≠ .select cs b) (hy : Steady P ops S oi v a) (h : sdOp P ops S j K (a.put oi.dst v)) :
    sdOp P ops S j (fun a' => Steady P ops S oi v a' ∧ K (a'.put oi.dst v)) a := by
  obtain ⟨h1, h2, h3⟩ := Oper.apart_spec hap
  unfold sdOp at *
  simp only [hj] at *
  obtain ⟨u, hu, hK⟩ := h
  refine ⟨u, ?_, ?_, ?_⟩
  · unfold Steady at hu ⊢
    rw [wanted_put oj a oi.dst v h1, execOp_put oj hsj a oi.dst v h1] at hu
    exact hu
  · unfold Steady at hy ⊢
    rw [wanted_put oi a oj.dst u h3, execOp_put oi hsi a oj.dst u h3]
    exact hy
  · rw [← Act.put_comm a v u h2]
    exact hK
theorem sdOp_of {i : Nat} {oi : Oper} {v : Value} {a : Act} {K : Act → Prop} (hi : ops[i]? = some oi) (hy : Steady P ops S oi v a) (h : K (a.put oi.dst v)) : sdOp P ops S i K a := by
  unfold sdOp
  simp only [hi]
  exact ⟨v, hy, h⟩
theorem sdAny_first {n i : Nat} {oi : Oper} {v : Value} {L : Array Bool → Act → Prop} (hi : ops[i]? = some oi) (hsel : ∀ (j : Nat) (o : Oper) cs b, ops[j]? = some o → o.op ≠ .select cs b)
    (hin : i < n) (hwait : ∀ listed, HeadInv md ops n listed → listed.getD i true = false → ∀ t, n ≤ t → t ∉ Region.ready md ops listed)
    (hdone : ∀ listed a, L listed a → ∀ j ∈ Region.ready md ops listed, n ≤ j) :
    ∀ (f : Nat) (listed : Array Bool) (a : Act), HeadInv md ops n listed →
      (∀ j oj, ops[j]? = some oj → j ≠ i → listed.getD j true = false → (∀ e ∈ oj.after, Region.binds md e = true → e.on ≠ i) → oi.apart ops oj = true) →
      i ∈ Region.ready md ops listed → Steady P ops S oi v a →
      sdAny P md ops S n L f (listed.setIfInBounds i true) (a.put oi.dst v) → sdAny P md ops S n L (f + 1) listed a
  | f, listed, a, inv, hfree, hr, hy, H => by
    have hun := (mem_ready.1 hr).1
    refine ⟨fun h => (by rw [h] at hr; cases hr), fun j hj => ?_⟩
    have hjn : j < n := by
      rcases Nat.lt_or_ge j n with h | h
      · exact h
      · exact absurd hj (hwait listed inv hun j h)
    refine ⟨hjn, ?_⟩
    by_cases hji : j = i
    · subst hji; exact sdOp_of hi hy H
    · obtain ⟨hjun, oj, hoj, hall⟩ := mem_ready.1 hj
      match f, H with
      | 0, H => exact absurd (hdone _ _ H j (ready_mono hj hji)) (by omega)
      | f + 1, H =>
        have hnot : ∀ e ∈ oj.after, Region.binds md e = true → e.on ≠ i := fun e he hb heq => by
          have h1 := hall e he hb
          rw [heq, getD_both hun] at h1
          cases h1
        have h2 := sdOp_swap hoj (hfree j oj hoj hji hjun hnot) (fun cs b => hsel i oi cs b hi) (fun cs b => hsel j oj cs b hoj) hy (H.2 j (ready_mono hj hji)).2
        refine sdOp_mono (fun a' h3 => sdAny_first hi hsel hin hwait hdone f (listed.setIfInBounds j true) a' (inv.set hj hjn) (fun k ok hk hki hu hno => ?_) (ready_mono hr (Ne.symm hji)) h3.1 ?_) h2
        · refine hfree k ok hk hki ?_ hno
          by_cases hjk : j = k
          · subst hjk; exact hjun
          · rw [getD_set_ne true hjk] at hu; exact hu
        · rw [Array.setIfInBounds_comm _ _ hji]
          exact h3.2
theorem sdAny_text {n g : Nat} {Lq : Act → Prop} (hsel : Region.noSelect ops = true) (hwait : ∀ i, i < n → ∀ listed, HeadInv md ops n listed → listed.getD i true = false → ∀ t, n ≤ t → t ∉ Region.ready md ops listed) :
    ∀ (l : List Oper) (k : Nat) (listed : Array Bool) (a : Act), (∀ j, j < l.length → l[j]? = ops[k + j]?) → k + l.length = n → HeadInv md ops n listed →
    Region.lexHead md ops g l.length k listed = true → sdList P ops S Lq l a →
    sdAny P md ops S n (fun listed' a' => Region.seqB md ops g n listed' = true ∧ Lq a') l.length listed a
  | [], k, listed, a, _, hk, _, hB, h => by
    have : k = n := by simpa using hk
    subst this
    exact ⟨by simpa [Region.lexHead] using hB, h⟩
  | o :: l, k, listed, a, hl, hk, inv, hB, h => by
    have h0 : ops[k]? = some o := by simpa using (hl 0 (by simp)).symm
    simp only [List.length_cons, Region.lexHead, Bool.and_eq_true] at hB
    obtain ⟨⟨hr, hf⟩, hB'⟩ := hB
    have hkn : k < n := by simp only [List.length_cons] at hk; omega
    have hr' : k ∈ Region.ready md ops listed := by simpa using hr
    obtain ⟨v, hy, hK⟩ := h
    exact sdAny_first h0 (Region.noSelect_spec hsel) hkn (hwait k hkn) (fun listed' a' hL => seqB_ready hL.1) l.length listed a inv (Region.free_spec h0 hf) hr' hy
      (sdAny_text hsel hwait l (k + 1) _ _ (fun j hj => by have := hl (j + 1) (by simp; omega); simpa [Nat.add_assoc, Nat.add_comm 1 j] using this) (by simp only [List.length_cons] at hk; omega) (inv.set hr' hkn) hB' hK)
theorem sdAny_wp {n g : Nat} {L : Array Bool → Act → Prop} {Q : Exit → Act → World → Prop} (hL : ∀ listed a w, S w → L listed a → wpAny P md ops Q g listed a w) :
    ∀ (f : Nat) (listed : Array Bool) (a : Act) (w : World), S w → sdAny P md ops S n L f listed a → wpAny P md ops Q (f + g) listed a w
  | 0, listed, a, w, hS, h => by rw [Nat.zero_add]; exact hL _ _ _ hS h
  | f + 1, listed, a, w, hS, h => by
    rw [show f + 1 + g = (f + g) + 1 by omega]
    exact ⟨fun h0 => absurd h0 h.1, fun i hi => sdOp_wp hS (fun a' w' hS' h' => sdAny_wp hL f _ a' w' hS' h') (h.2 i hi).2⟩
def sdTail (ops : Array Oper) (n : Nat) : Bool :=
  Region.noSelect ops && (decide (n = ops.size) || decide (n < ops.size) && Region.sinkB .any ops n && Region.chainB .any ops n) && Region.lexHead .any ops (ops.size - n) n 0 (Array.replicate ops.size false)
theorem wp_region_steady (S : World → Prop) {id : Nat} {Q : Exit → Act → World → Prop} {a : Act} {w : World} {l : List Oper} (n : Nat) (hm : P.follows .mixedOrders = true) (hB : sdTail l.toArray n = true) (hS : S w.drew)
    (h : sdList P l.toArray S (fun a' => ∀ w', S w' → wpList P l.toArray Q (l.drop n) a' w') (l.take n) a) : (Code.region id l.toArray true).wp P Q a w := by
  simp only [sdTail, Bool.and_eq_true, Bool.or_eq_true, decide_eq_true_eq] at hB
  obtain ⟨⟨hsel, hn⟩, hlex⟩ := hB
  have hle : n ≤ l.length := by rcases hn with h | h <;> simp at h <;> omega
  have htl : (l.take n).length = n := by simp; omega
  have hdl : (l.drop n).length = l.toArray.size - n := by simp
  have inv0 : HeadInv .any l.toArray n (Array.replicate l.toArray.size false) :=
    ⟨by simp, fun j oj _ hl => (by rw [getD_replicate_false] at hl; cases hl), fun t _ ht => getD_in (by simpa using ht) (getD_replicate_false _ _)⟩
  have hwait : ∀ i, i < n → ∀ listed, HeadInv .any l.toArray n listed → listed.getD i true = false → ∀ t, n ≤ t → t ∉ Region.ready .any l.toArray listed := by
    intro i hi listed inv hun t ht
    rcases hn with h | ⟨⟨h1, h2⟩, h3⟩
    · intro hr
      obtain ⟨_, o, ho, _⟩ := mem_ready.1 hr
      have := (Array.getElem?_eq_some_iff.1 ho).1
      omega
    · exact tail_waits h2 h3 h1 inv _ i rfl hi hun t ht
  have H := sdAny_text (md := .any) (g := l.toArray.size - n) hsel hwait (l.take n) 0 _ a (fun j hj => by
    have hj' : j < n := by rw [htl] at hj; exact hj
    simp [hj']) (by simpa using htl) inv0 (by rw [htl]; exact hlex) h
  refine wp_region_any hm ?_
  have := sdAny_wp (Q := Q) (g := l.toArray.size - n) (fun listed a' w' hS' hL => by
    have := wpAny_of_seq (md := .any) (Q' := Q) (l.drop n) n listed a' w' (fun j => by simp [List.getElem?_drop]) (by rw [hdl]; exact hL.1) (hL.2 w' hS')
    rwa [hdl] at this) _ _ _ _ hS H
  rw [htl, show n + (l.toArray.size - n) = l.toArray.size by omega] at this
  exact this
/-! The steps of a walk. -/
theorem sd_nil {K : Act → Prop} {a : Act} (h : K a) : sdList P ops S K [] a := h
theorem sd_value {K : Act → Prop} {a : Act} {o : Oper} {r : List Oper} {v : Value} (hw : Region.wanted o (yielded ops a.tmps) = true) (hv : ∀ w, S w → (execOp a.eval o).run P w = .ok (.value v) w) (h : sdList P ops S K r (a.put o.dst v)) : sdList P ops S K (o :: r) a :=
  ⟨v, .inl ⟨hw, fun w hS => by rw [hv w hS]; exact ⟨rfl, hS⟩⟩, h⟩
theorem sd_skip {K : Act → Prop} {a : Act} {o : Oper} {r : List Oper} (hw : Region.wanted o (yielded ops a.tmps) = false) (h : sdList P ops S K r (a.put o.dst undef)) : sdList P ops S K (o :: r) a :=
  ⟨undef, .inr ⟨hw, rfl⟩, h⟩
theorem sd_call {K : Act → Prop} {a : Act} {o : Oper} {r : List Oper} {v : Value} {f : FuncId} {args : Array Value} (hw : Region.wanted o (yielded ops a.tmps) = true) (hv : ∀ w, S w → (execOp a.eval o).run P w = .ok (.enter f args) w)
    (hc : ∀ w, S w → Calls P f args w fun e w' => e = .returned v ∧ S w') (h : sdList P ops S K r (a.put o.dst v)) : sdList P ops S K (o :: r) a :=
  ⟨v, .inl ⟨hw, fun w hS => by rw [hv w hS]; exact hc w hS⟩, h⟩
end
end Go.Proofs.YtlieolehpmobfaaGreatDoor
end
section
namespace Go.Proofs.YtlieolehpmobfaaGreatDoor
open Go.RowKit
set_option linter.all false
set_option maxRecDepth 100000
abbrev Nine (w : World) (g : Nat) (a0 a1 a2 a3 a4 a5 a6 a7 a8 : Value) : Prop := w.cell? ⟨g, 0, none⟩ = some a0 ∧ w.cell? ⟨g, 1, none⟩ = some a1 ∧ w.cell? ⟨g, 2, none⟩ = some a2 ∧ w.cell? ⟨g, 3, none⟩ = some a3 ∧ w.cell? ⟨g, 4, none⟩ = some a4 ∧ w.cell? ⟨g, 5, none⟩ = some a5 ∧ w.cell? ⟨g, 6, none⟩ = some a6 ∧ w.cell? ⟨g, 7, none⟩ = some a7 ∧ w.cell? ⟨g, 8, none⟩ = some a8
theorem nine_of {w : World} {g : Nat} {t : TypeId} {a0 a1 a2 a3 a4 a5 a6 a7 a8 : Value} (h : Blk w g t #[a0, a1, a2, a3, a4, a5, a6, a7, a8]) : Nine w g a0 a1 a2 a3 a4 a5 a6 a7 a8 :=
  ⟨h.cell_ rfl, h.cell_ rfl, h.cell_ rfl, h.cell_ rfl, h.cell_ rfl, h.cell_ rfl, h.cell_ rfl, h.cell_ rfl, h.cell_ rfl⟩
theorem frozen9 {w : World} {g : Nat} {t : TypeId} {cs : Array Value} (h : Blk w g t cs) : w.frozen? ⟨g, 0, none⟩ = false ∧ w.frozen? ⟨g, 1, none⟩ = false ∧ w.frozen? ⟨g, 2, none⟩ = false ∧ w.frozen? ⟨g, 3, none⟩ = false ∧ w.frozen? ⟨g, 4, none⟩ = false ∧ w.frozen? ⟨g, 5, none⟩ = false ∧ w.frozen? ⟨g, 6, none⟩ = false ∧ w.frozen? ⟨g, 7, none⟩ = false ∧ w.frozen? ⟨g, 8, none⟩ = false :=
  ⟨h.frozen 0, h.frozen 1, h.frozen 2, h.frozen 3, h.frozen 4, h.frozen 5, h.frozen 6, h.frozen 7, h.frozen 8⟩
abbrev fill9 (w : World) (h : Nat) (a0 a1 a2 a3 a4 a5 a6 a7 a8 : Value) : World := ((((((((w.setCell ⟨h, 0, none⟩ a0).setCell ⟨h, 1, none⟩ a1).setCell ⟨h, 2, none⟩ a2).setCell ⟨h, 3, none⟩ a3).setCell ⟨h, 4, none⟩ a4).setCell ⟨h, 5, none⟩ a5).setCell ⟨h, 6, none⟩ a6).setCell ⟨h, 7, none⟩ a7).setCell ⟨h, 8, none⟩ a8
theorem fill9_blk {w : World} {g : Nat} {t : TypeId} {b0 b1 b2 b3 b4 b5 b6 b7 b8 : Value} (hb : Blk w g t #[b0, b1, b2, b3, b4, b5, b6, b7, b8]) (a0 a1 a2 a3 a4 a5 a6 a7 a8 : Value) : Blk (fill9 w g a0 a1 a2 a3 a4 a5 a6 a7 a8) g t #[a0, a1, a2, a3, a4, a5, a6, a7, a8] := by
  have := ((((((((hb.set_ 0 a0).set_ 1 a1).set_ 2 a2).set_ 3 a3).set_ 4 a4).set_ 5 a5).set_ 6 a6).set_ 7 a7).set_ 8 a8
  simpa using this
theorem fill9_far {w : World} {g h : Nat} {t : TypeId} {cs : Array Value} (hb : Blk w g t cs) (hn : g ≠ h) (a0 a1 a2 a3 a4 a5 a6 a7 a8 : Value) : Blk (fill9 w h a0 a1 a2 a3 a4 a5 a6 a7 a8) g t cs :=
  ((((((((hb.far hn a0).far hn a1).far hn a2).far hn a3).far hn a4).far hn a5).far hn a6).far hn a7).far hn a8
theorem fill9_only {w : World} {h : Nat} {S : Nat → Prop} {a : World} (o : Only S a w) (hg : S h ∨ a.heap.size ≤ h) (a0 a1 a2 a3 a4 a5 a6 a7 a8 : Value) : Only S a (fill9 w h a0 a1 a2 a3 a4 a5 a6 a7 a8) :=
  ((((((((o.setCell (p := ⟨h, 0, none⟩) hg a0).setCell (p := ⟨h, 1, none⟩) hg a1).setCell (p := ⟨h, 2, none⟩) hg a2).setCell (p := ⟨h, 3, none⟩) hg a3).setCell (p := ⟨h, 4, none⟩) hg a4).setCell (p := ⟨h, 5, none⟩) hg a5).setCell (p := ⟨h, 6, none⟩) hg a6).setCell (p := ⟨h, 7, none⟩) hg a7).setCell (p := ⟨h, 8, none⟩) hg a8
structure Bo (B : World) (g h : Nat) (t u : TypeId) (e f : En) (w : World) : Prop where
  x : Blk w g t #[.string e.k, .string e.v, .bool e.d, .int .i64 e.s.c, .int .i64 e.s.s, .int .i64 e.a.c, .int .i64 e.a.s, .int .i64 e.p, .int .i64 e.g]
  y : Blk w h u #[.string f.k, .string f.v, .bool f.d, .int .i64 f.s.c, .int .i64 f.s.s, .int .i64 f.a.c, .int .i64 f.a.s, .int .i64 f.p, .int .i64 f.g]
  ho : Only none_ B w
section
variable {B w w' : World} {g h : Nat} {t u : TypeId} {e f : En}
theorem Bo.keep (b : Bo B g h t u e f w) (o : Only none_ w w') : Bo B g h t u e f w' := ⟨b.x.only o (fun h => h), b.y.only o (fun h => h), b.ho.trans o⟩
theorem Bo.cells (b : Bo B g h t u e f w) : Nine w g (.string e.k) (.string e.v) (.bool e.d) (.int .i64 e.s.c) (.int .i64 e.s.s) (.int .i64 e.a.c) (.int .i64 e.a.s) (.int .i64 e.p) (.int .i64 e.g) := nine_of b.x
theorem Bo.far (b : Bo B g h t u e f w) (hn : g ≠ h) (a0 a1 a2 a3 a4 a5 a6 a7 a8 : Value) : Nine (fill9 w h a0 a1 a2 a3 a4 a5 a6 a7 a8).drew g (.string e.k) (.string e.v) (.bool e.d) (.int .i64 e.s.c) (.int .i64 e.s.s) (.int .i64 e.a.c) (.int .i64 e.a.s) (.int .i64 e.p) (.int .i64 e.g) := nine_of (fill9_far b.x hn a0 a1 a2 a3 a4 a5 a6 a7 a8).drew
end
set_option maxHeartbeats 1600000 in
theorem en_to (e : En) (w : World) :
    Calls Tryz.prog 81 #[.agg #[.string e.k, .string e.v, .bool e.d, .int .i64 e.s.c, .int .i64 e.s.s, .int .i64 e.a.c, .int .i64 e.a.s, .int .i64 e.p, .int .i64 e.g]] w fun E w' => E = .returned (.agg #[.string e.k, .string e.v, .bool e.d, .int .i64 e.s.c, .int .i64 e.s.s, .int .i64 e.a.c, .int .i64 e.a.s, .int .i64 e.p, .int .i64 e.g]) ∧ Only none_ w w' := by
  have O := Lib.hid (((Only.refl none_ w).alloc (.cells #[.string e.k, .string e.v, .bool e.d, .int .i64 e.s.c, .int .i64 e.s.s, .int .i64 e.a.c, .int .i64 e.a.s, .int .i64 e.p, .int .i64 e.g] 147)).alloc (.cells #[.string enZero.k, .string enZero.v, .bool enZero.d, .int .i64 enZero.s.c, .int .i64 enZero.s.s, .int .i64 enZero.a.c, .int .i64 enZero.a.s, .int .i64 enZero.p, .int .i64 enZero.g] 123))
  have B := Blk.new (w.alloc (.cells #[.string e.k, .string e.v, .bool e.d, .int .i64 e.s.c, .int .i64 e.s.s, .int .i64 e.a.c, .int .i64 e.a.s, .int .i64 e.p, .int .i64 e.g] 147)) 123 #[.string enZero.k, .string enZero.v, .bool enZero.d, .int .i64 enZero.s.c, .int .i64 enZero.s.s, .int .i64 enZero.a.c, .int .i64 enZero.a.s, .int .i64 enZero.p, .int .i64 enZero.g]
  rw [World.size_alloc] at B
  have T : Hid (Bo ((w.alloc (.cells #[.string e.k, .string e.v, .bool e.d, .int .i64 e.s.c, .int .i64 e.s.s, .int .i64 e.a.c, .int .i64 e.a.s, .int .i64 e.p, .int .i64 e.g] 147)).alloc (.cells #[.string enZero.k, .string enZero.v, .bool enZero.d, .int .i64 enZero.s.c, .int .i64 enZero.s.s, .int .i64 enZero.a.c, .int .i64 enZero.a.s, .int .i64 enZero.p, .int .i64 enZero.g] 123)) w.heap.size (w.heap.size + 1) 147 123 e enZero ((w.alloc (.cells #[.string e.k, .string e.v, .bool e.d, .int .i64 e.s.c, .int .i64 e.s.s, .int .i64 e.a.c, .int .i64 e.a.s, .int .i64 e.p, .int .i64 e.g] 147)).alloc (.cells #[.string enZero.k, .string enZero.v, .bool enZero.d, .int .i64 enZero.s.c, .int .i64 enZero.s.s, .int .i64 enZero.a.c, .int .i64 enZero.a.s, .int .i64 enZero.p, .int .i64 enZero.g] 123))) :=
    ⟨(Blk.new w _ _).alloc _, B, Only.refl _ _⟩
  clear B
  simp only [enZero, stZero] at O T
  go_enter Tryz.func81, Tryz.ntmps81
  go_wp2_with fail
  have hne : w.heap.size ≠ w.heap.size + 1 := by omega
  have hge : w.heap.size ≤ w.heap.size + 1 := by omega
  have HN := Lib.hid hne
  have HGE := Lib.hid hge
  clear hne hge
  generalize (w.alloc _).alloc _ = W2 at *
  have t2 := T.out.keep (Only.refl none_ W2).drew
  (refine wp_region_steady (fun w' => Bo W2 w.heap.size (w.heap.size + 1) 147 123 e enZero w') 16 (by kernel_rfl) (by kernel_rfl) (t2) ?_; simp only [List.take_succ_cons, List.take_zero, List.drop_succ_cons, List.drop_zero])
  repeat (first
    | (refine sd_value (v := ?_) (by rfl) (fun w0 hS => ?_) ?_; rotate_left; (· (have hc := hS.cells; go_simp; try (with_reducible rfl))); try simp only [Act.put, List.setIfInBounds_toArray, List.set_cons_zero, List.set_cons_succ])
    | (refine sd_call (v := ?_) (f := 182) (args := ?_) (by rfl) (fun w0 hS => ?_) (fun w0 hS => ?_) ?_; rotate_left 2; (· (have hc := hS.cells; go_simp; try (with_reducible rfl))); (· (refine (st_to _ _ _).mono ?_; rintro E w2 ⟨rfl, o2⟩; refine ⟨?_, hS.keep o2⟩; rfl)); try simp only [Act.put, List.setIfInBounds_toArray, List.set_cons_zero, List.set_cons_succ]))
  refine sd_nil ?_
  intro w5 t5
  have q5 := nine_of t5.y
  have z5 := frozen9 t5.y
  simp only [enZero, stZero] at q5
  go_wp2_with fail
  exact bodyPost_ret (results_cell_row rfl _ _ (w.heap.size + 1) 123 _ (0, 0) _ rfl (fill9_blk t5.y _ _ _ _ _ _ _ _ _) Tryz.underlying123 rfl (by kernel_rfl)) rfl ⟨rfl, fill9_only (O.out.trans t5.ho) (.inr HGE.out) _ _ _ _ _ _ _ _ _⟩
end Go.Proofs.YtlieolehpmobfaaGreatDoor
end
section
namespace Go.Proofs.YtlieolehpmobfaaGreatDoor
open Go.RowKit
set_option maxRecDepth 100000
set_option linter.all false
theorem wpl_load {P : Program} {ops : Array Oper} {rest : List Oper} {o : Oper} {a : Act} {w : World} {Q : Exit → Act → World → Prop} (hgd : o.guard = none) (ty : TypeId) (x : Operand) (ho : o.op = .load ty x)
    (g : Nat) (hx : a.eval x = .pointer (some ⟨g, 0, none⟩)) (t : TypeId) (cs : Array Value) (d : TypeDesc) (hg : Blk w g t cs)
    (hu : P.underlying ty = some d) (hd : (match d with | .struct _ | .array _ _ => true | _ => false) = true) (hi : (P.info? ty).map (·.size) = some cs.size)
    (h : wpList P ops Q rest (a.put o.dst (.agg cs)) w) : wpList P ops Q (o :: rest) a w :=
  wpList_plain hgd fun _ hK => wp_load_row ty x ho g hx t cs (0, 0) d hg hu hd hi (hK _ _ h)
theorem en_cells_one (e : En) : (#[.string e.k, .string e.v, .bool e.d, .int .i64 e.s.c, .int .i64 e.s.s, .int .i64 e.a.c, .int .i64 e.a.s, .int .i64 e.p, .int .i64 e.g] : Array Value).all (·.oneCell') = true := by simp [Value.oneCell']
end Go.Proofs.YtlieolehpmobfaaGreatDoor
end
section
namespace Go.Proofs.YtlieolehpmobfaaGreatDoor
open Go.RowKit
set_option maxRecDepth 100000
set_option linter.all false
theorem textR_len (code : Int) (bs : List UInt8) (most : Int) : (textR code bs most).2.1.length ≤ bs.length := by
  unfold textR
  split
  · simp
  · split
    · exact Nat.le_refl _
    · split
      · exact Nat.le_refl _
      · split
        · exact Nat.le_refl _
        · simp only [List.length_drop, List.length_cons]; omega
theorem flagR_len (code : Int) (bs : List UInt8) : (flagR code bs).2.1.length ≤ bs.length := by
  unfold flagR
  split
  · simp
  · split
    · exact Nat.le_refl _
    · split
      · exact Nat.le_refl _
      · simp
theorem stampR_len (code : Int) (bs : List UInt8) : (stampR code bs).2.1.length ≤ bs.length :=
  Nat.le_trans (numR_len _ _ 1) (numR_len _ _ 4)
theorem Tk.new2 {w : World} {g : Nat} {S : Nat → Prop} {t : TypeId} {cs : Array Value} {code : Int} {bs : List UInt8} (o : Obj) (hr : Rd w g S code bs) (fr : ∀ b, S b → b < w.heap.size) :
    Tk (w.alloc o) g S (w.heap.size + 1) t cs code bs ((w.alloc o).alloc (.cells cs t)) := by
  have := Tk.new (t := t) (cs := cs) (hr.only ((Only.refl none_ _).alloc o) (fun h => h) (fun _ _ h => h)) (fun b hb => by rw [World.size_alloc]; have := fr b hb; omega)
  rwa [World.size_alloc] at this
theorem size_le_alloc (w : World) (o : Obj) : w.heap.size ≤ (w.alloc o).heap.size := by rw [World.size_alloc]; omega
structure Fr7 where
  a1 : Int × List UInt8 × List UInt8
  a2 : Int × List UInt8 × Bool
  a3 : Int × List UInt8 × List UInt8
  a4 : Int × List UInt8 × St
  a5 : Int × List UInt8 × St
  a6 : Int × List UInt8 × Nat
  a7 : Int × List UInt8 × Nat
def fieldsF (code : Int) (bs : List UInt8) : Fr7 :=
  let a1 := textR code bs 16
  let a2 := flagR a1.1 a1.2.1
  let a3 := textR a2.1 a2.2.1 32
  let a4 := stampR a3.1 a3.2.1
  let a5 := stampR a4.1 a4.2.1
  let a6 := numR a5.1 a5.2.1 2
  let a7 := numR a6.1 a6.2.1 4
  ⟨a1, a2, a3, a4, a5, a6, a7⟩
def Fr7.en (f : Fr7) : En := ⟨⟨f.a1.2.2.toArray⟩, ⟨f.a3.2.2.toArray⟩, f.a2.2.2, f.a4.2.2, f.a5.2.2, f.a6.2.2, f.a7.2.2⟩
set_option maxHeartbeats 1600000 in
theorem take_fields (g : Nat) (S : Nat → Prop) (code : Int) (bs : List UInt8) (w : World) (hr : Rd w g S code bs) (fr : ∀ b, S b → b < w.heap.size) (hm : bs.length ≤ 140737488355328) :
    Calls Tryz.prog 237 #[.pointer (some ⟨g, 0, none⟩)] w fun e w' =>
      e = .returned (.agg #[.string (fieldsF code bs).en.k, .string (fieldsF code bs).en.v, .bool (fieldsF code bs).en.d, .int .i64 (fieldsF code bs).en.s.c, .int .i64 (fieldsF code bs).en.s.s, .int .i64 (fieldsF code bs).en.a.c, .int .i64 (fieldsF code bs).en.a.s, .int .i64 (fieldsF code bs).en.p, .int .i64 (fieldsF code bs).en.g]) ∧ Rd w' g S (fieldsF code bs).a7.1 (fieldsF code bs).a7.2.1 ∧ Only (one g) w w' := by
  have hg := hr.lt
  have HG := Lib.hid hg
  clear hg
  have R0 := Lib.hid (Blk.new w 147 #[.string ⟨#[]⟩, .string ⟨#[]⟩, .bool false, .int .i64 0, .int .i64 0, .int .i64 0, .int .i64 0, .int .i64 0, .int .i64 0])
  have O0 := Lib.hid ((Only.refl (one g) w).alloc (.cells #[.string ⟨#[]⟩, .string ⟨#[]⟩, .bool false, .int .i64 0, .int .i64 0, .int .i64 0, .int .i64 0, .int .i64 0, .int .i64 0] 147))
  have T0 := Tk.new2 (t := 147) (cs := #[.string ⟨#[]⟩, .string ⟨#[]⟩, .bool false, .int .i64 0, .int .i64 0, .int .i64 0, .int .i64 0, .int .i64 0, .int .i64 0]) (.cells #[.string ⟨#[]⟩, .string ⟨#[]⟩, .bool false, .int .i64 0, .int .i64 0, .int .i64 0, .int .i64 0, .int .i64 0, .int .i64 0] 147) hr fr
  have T := Lib.hid T0
  clear T0
  obtain ⟨a1, h1⟩ : ∃ a, textR code bs 16 = a := ⟨_, rfl⟩
  obtain ⟨a2, h2⟩ : ∃ a, flagR a1.1 a1.2.1 = a := ⟨_, rfl⟩
  obtain ⟨a3, h3⟩ : ∃ a, textR a2.1 a2.2.1 32 = a := ⟨_, rfl⟩
  obtain ⟨a4, h4⟩ : ∃ a, stampR a3.1 a3.2.1 = a := ⟨_, rfl⟩
  obtain ⟨a5, h5⟩ : ∃ a, stampR a4.1 a4.2.1 = a := ⟨_, rfl⟩
  obtain ⟨a6, h6⟩ : ∃ a, numR a5.1 a5.2.1 2 = a := ⟨_, rfl⟩
  obtain ⟨a7, h7⟩ : ∃ a, numR a6.1 a6.2.1 4 = a := ⟨_, rfl⟩
  have l6 : a6.2.2 < 256 ^ 2 := h6 ▸ numR_lt a5.1 a5.2.1 2
  have l7 : a7.2.2 < 256 ^ 4 := h7 ▸ numR_lt a6.1 a6.2.1 4
  have m1 : a1.2.1.length ≤ 140737488355328 := Nat.le_trans (h1 ▸ textR_len code bs 16) hm
  have m2 : a2.2.1.length ≤ 140737488355328 := Nat.le_trans (h2 ▸ flagR_len a1.1 a1.2.1) m1
  have m3 : a3.2.1.length ≤ 140737488355328 := Nat.le_trans (h3 ▸ textR_len a2.1 a2.2.1 32) m2
  have m4 : a4.2.1.length ≤ 140737488355328 := Nat.le_trans (h4 ▸ stampR_len a3.1 a3.2.1) m3
  have m5 : a5.2.1.length ≤ 140737488355328 := Nat.le_trans (h5 ▸ stampR_len a4.1 a4.2.1) m4
  have m6 : a6.2.1.length ≤ 140737488355328 := Nat.le_trans (h6 ▸ numR_len a5.1 a5.2.1 2) m5
  have HS : Hid (fieldsF code bs = ⟨a1, a2, a3, a4, a5, a6, a7⟩) := by rw [Hid, fieldsF]; simp only [h1, h2, h3, h4, h5, h6, h7]
  have A6 : IntKind.i64.wrap (a6.2.2 : Int) = (a6.2.2 : Int) := IntWalk.i64_in _ (by omega)
  have A7 : IntKind.i64.wrap (a7.2.2 : Int) = (a7.2.2 : Int) := IntWalk.i64_in _ (by omega)
  have M1 := Lib.hid m1
  have M2 := Lib.hid m2
  have M3 := Lib.hid m3
  have M4 := Lib.hid m4
  have M5 := Lib.hid m5
  have M6 := Lib.hid m6
  have H1 := Lib.hid h1
  have H2 := Lib.hid h2
  have H3 := Lib.hid h3
  have H4 := Lib.hid h4
  have H5 := Lib.hid h5
  have H6 := Lib.hid h6
  have H7 := Lib.hid h7
  have HM := Lib.hid hm
  have FR := Lib.hid fr
  have FR2 : Hid (∀ (w' : World), w.heap.size ≤ w'.heap.size → ∀ b, S b → b < w'.heap.size) := fun w' h b hb => Nat.lt_of_lt_of_le (fr b hb) h
  have hle := size_le_alloc w (.cells #[.string ⟨#[]⟩, .string ⟨#[]⟩, .bool false, .int .i64 0, .int .i64 0, .int .i64 0, .int .i64 0, .int .i64 0, .int .i64 0] 147)
  have HLE := Lib.hid hle
  clear h1 h2 h3 h4 h5 h6 h7 l6 l7 m1 m2 m3 m4 m5 m6 hr fr hm hle
  have tok1 : True := trivial
  go_enter Tryz.func237, Tryz.ntmps237
  go_wp2_with (first
    | (go_at_call 235; have _t := tok1; clear tok1; refine (reader_text g S _ _ 16 _ T.out.rd HM.out).mono ?_; rw [H1.out]; rintro e w1 ⟨rfl, k, o⟩
       have T1 : Hid (Tk (w.alloc (.cells #[.string ⟨#[]⟩, .string ⟨#[]⟩, .bool false, .int .i64 0, .int .i64 0, .int .i64 0, .int .i64 0, .int .i64 0, .int .i64 0] 147)) g S (w.heap.size + 1) 147 #[.string ⟨#[]⟩, .string ⟨#[]⟩, .bool false, .int .i64 0, .int .i64 0, .int .i64 0, .int .i64 0, .int .i64 0, .int .i64 0] a1.1 a1.2.1 (w1)) := T.out.step k o
       have z1 := T1.out.bx.frozen 0
       have v1 := T1.out.bx.cell_ (i := 0) rfl
       have U1 : Hid (Tk (w.alloc (.cells #[.string ⟨#[]⟩, .string ⟨#[]⟩, .bool false, .int .i64 0, .int .i64 0, .int .i64 0, .int .i64 0, .int .i64 0, .int .i64 0] 147)) g S (w.heap.size + 1) 147 #[.string ⟨a1.2.2.toArray⟩, .string ⟨#[]⟩, .bool false, .int .i64 0, .int .i64 0, .int .i64 0, .int .i64 0, .int .i64 0, .int .i64 0] a1.1 a1.2.1 (w1.setCell ⟨w.heap.size + 1, 0, none⟩ (.string ⟨a1.2.2.toArray⟩))) := T1.out.set 0 _
       clear k o
       have tok2 : True := trivial)
    | (go_at_call 124; have _t := tok2; clear tok2; refine (reader_flag g S _ _ _ U1.out.rd M1.out).mono ?_; rw [H2.out]; rintro e w2 ⟨rfl, k, o⟩
       have T2 : Hid (Tk (w.alloc (.cells #[.string ⟨#[]⟩, .string ⟨#[]⟩, .bool false, .int .i64 0, .int .i64 0, .int .i64 0, .int .i64 0, .int .i64 0, .int .i64 0] 147)) g S (w.heap.size + 1) 147 #[.string ⟨a1.2.2.toArray⟩, .string ⟨#[]⟩, .bool false, .int .i64 0, .int .i64 0, .int .i64 0, .int .i64 0, .int .i64 0, .int .i64 0] a2.1 a2.2.1 (w2)) := U1.out.step k o
       have z2 := T2.out.bx.frozen 2
       have v2 := T2.out.bx.cell_ (i := 2) rfl
       have U2 : Hid (Tk (w.alloc (.cells #[.string ⟨#[]⟩, .string ⟨#[]⟩, .bool false, .int .i64 0, .int .i64 0, .int .i64 0, .int .i64 0, .int .i64 0, .int .i64 0] 147)) g S (w.heap.size + 1) 147 #[.string ⟨a1.2.2.toArray⟩, .string ⟨#[]⟩, .bool a2.2.2, .int .i64 0, .int .i64 0, .int .i64 0, .int .i64 0, .int .i64 0, .int .i64 0] a2.1 a2.2.1 (w2.setCell ⟨w.heap.size + 1, 2, none⟩ (.bool a2.2.2))) := T2.out.set 2 _
       clear k o
       have tok3 : True := trivial)
    | (go_at_call 235; have _t := tok3; clear tok3; refine (reader_text g S _ _ 32 _ U2.out.rd M2.out).mono ?_; rw [H3.out]; rintro e w3 ⟨rfl, k, o⟩
       have T3 : Hid (Tk (w.alloc (.cells #[.string ⟨#[]⟩, .string ⟨#[]⟩, .bool false, .int .i64 0, .int .i64 0, .int .i64 0, .int .i64 0, .int .i64 0, .int .i64 0] 147)) g S (w.heap.size + 1) 147 #[.string ⟨a1.2.2.toArray⟩, .string ⟨#[]⟩, .bool a2.2.2, .int .i64 0, .int .i64 0, .int .i64 0, .int .i64 0, .int .i64 0, .int .i64 0] a3.1 a3.2.1 (w3)) := U2.out.step k o
       have z3 := T3.out.bx.frozen 1
       have v3 := T3.out.bx.cell_ (i := 1) rfl
       have U3 : Hid (Tk (w.alloc (.cells #[.string ⟨#[]⟩, .string ⟨#[]⟩, .bool false, .int .i64 0, .int .i64 0, .int .i64 0, .int .i64 0, .int .i64 0, .int .i64 0] 147)) g S (w.heap.size + 1) 147 #[.string ⟨a1.2.2.toArray⟩, .string ⟨a3.2.2.toArray⟩, .bool a2.2.2, .int .i64 0, .int .i64 0, .int .i64 0, .int .i64 0, .int .i64 0, .int .i64 0] a3.1 a3.2.1 (w3.setCell ⟨w.heap.size + 1, 1, none⟩ (.string ⟨a3.2.2.toArray⟩))) := T3.out.set 1 _
       clear k o
       have tok4 : True := trivial)
    | (go_at_call 279; have _t := tok4; clear tok4; refine (take_stamp g S _ _ _ U3.out.rd (FR2.out _ (Nat.le_trans HLE.out U3.out.ho.size)) M3.out).mono ?_; rw [H4.out]; rintro e w4 ⟨rfl, k, o⟩
       have T4 : Hid (Tk (w.alloc (.cells #[.string ⟨#[]⟩, .string ⟨#[]⟩, .bool false, .int .i64 0, .int .i64 0, .int .i64 0, .int .i64 0, .int .i64 0, .int .i64 0] 147)) g S (w.heap.size + 1) 147 #[.string ⟨a1.2.2.toArray⟩, .string ⟨a3.2.2.toArray⟩, .bool a2.2.2, .int .i64 0, .int .i64 0, .int .i64 0, .int .i64 0, .int .i64 0, .int .i64 0] a4.1 a4.2.1 (w4)) := U3.out.step k o
       have z4 := T4.out.bx.frozen 3
       have v4 := T4.out.bx.cell_ (i := 3) rfl
       have U4 : Hid (Tk (w.alloc (.cells #[.string ⟨#[]⟩, .string ⟨#[]⟩, .bool false, .int .i64 0, .int .i64 0, .int .i64 0, .int .i64 0, .int .i64 0, .int .i64 0] 147)) g S (w.heap.size + 1) 147 #[.string ⟨a1.2.2.toArray⟩, .string ⟨a3.2.2.toArray⟩, .bool a2.2.2, .int .i64 a4.2.2.c, .int .i64 0, .int .i64 0, .int .i64 0, .int .i64 0, .int .i64 0] a4.1 a4.2.1 (w4.setCell ⟨w.heap.size + 1, 3, none⟩ (.int .i64 a4.2.2.c))) := T4.out.set 3 _
       have y4 := U4.out.bx.frozen 4
       have x4 := U4.out.bx.cell_ (i := 4) rfl
       have V4 : Hid (Tk (w.alloc (.cells #[.string ⟨#[]⟩, .string ⟨#[]⟩, .bool false, .int .i64 0, .int .i64 0, .int .i64 0, .int .i64 0, .int .i64 0, .int .i64 0] 147)) g S (w.heap.size + 1) 147 #[.string ⟨a1.2.2.toArray⟩, .string ⟨a3.2.2.toArray⟩, .bool a2.2.2, .int .i64 a4.2.2.c, .int .i64 a4.2.2.s, .int .i64 0, .int .i64 0, .int .i64 0, .int .i64 0] a4.1 a4.2.1 ((w4.setCell ⟨w.heap.size + 1, 3, none⟩ (.int .i64 a4.2.2.c)).setCell ⟨w.heap.size + 1, 4, none⟩ (.int .i64 a4.2.2.s))) := U4.out.set 4 _
       clear k o
       have tok5 : True := trivial)
    | (go_at_call 279; have _t := tok5; clear tok5; refine (take_stamp g S _ _ _ V4.out.rd (FR2.out _ (Nat.le_trans HLE.out V4.out.ho.size)) M4.out).mono ?_; rw [H5.out]; rintro e w5 ⟨rfl, k, o⟩
       have T5 : Hid (Tk (w.alloc (.cells #[.string ⟨#[]⟩, .string ⟨#[]⟩, .bool false, .int .i64 0, .int .i64 0, .int .i64 0, .int .i64 0, .int .i64 0, .int .i64 0] 147)) g S (w.heap.size + 1) 147 #[.string ⟨a1.2.2.toArray⟩, .string ⟨a3.2.2.toArray⟩, .bool a2.2.2, .int .i64 a4.2.2.c, .int .i64 a4.2.2.s, .int .i64 0, .int .i64 0, .int .i64 0, .int .i64 0] a5.1 a5.2.1 (w5)) := V4.out.step k o
       have z5 := T5.out.bx.frozen 5
       have v5 := T5.out.bx.cell_ (i := 5) rfl
       have U5 : Hid (Tk (w.alloc (.cells #[.string ⟨#[]⟩, .string ⟨#[]⟩, .bool false, .int .i64 0, .int .i64 0, .int .i64 0, .int .i64 0, .int .i64 0, .int .i64 0] 147)) g S (w.heap.size + 1) 147 #[.string ⟨a1.2.2.toArray⟩, .string ⟨a3.2.2.toArray⟩, .bool a2.2.2, .int .i64 a4.2.2.c, .int .i64 a4.2.2.s, .int .i64 a5.2.2.c, .int .i64 0, .int .i64 0, .int .i64 0] a5.1 a5.2.1 (w5.setCell ⟨w.heap.size + 1, 5, none⟩ (.int .i64 a5.2.2.c))) := T5.out.set 5 _
       have y5 := U5.out.bx.frozen 6
       have x5 := U5.out.bx.cell_ (i := 6) rfl
       have V5 : Hid (Tk (w.alloc (.cells #[.string ⟨#[]⟩, .string ⟨#[]⟩, .bool false, .int .i64 0, .int .i64 0, .int .i64 0, .int .i64 0, .int .i64 0, .int .i64 0] 147)) g S (w.heap.size + 1) 147 #[.string ⟨a1.2.2.toArray⟩, .string ⟨a3.2.2.toArray⟩, .bool a2.2.2, .int .i64 a4.2.2.c, .int .i64 a4.2.2.s, .int .i64 a5.2.2.c, .int .i64 a5.2.2.s, .int .i64 0, .int .i64 0] a5.1 a5.2.1 ((w5.setCell ⟨w.heap.size + 1, 5, none⟩ (.int .i64 a5.2.2.c)).setCell ⟨w.heap.size + 1, 6, none⟩ (.int .i64 a5.2.2.s))) := U5.out.set 6 _
       clear k o
       have tok6 : True := trivial)
    | (go_at_call 120; have _t := tok6; clear tok6; refine (reader_number g S _ _ 2 _ V5.out.rd M5.out).mono ?_; rw [H6.out]; rintro e w6 ⟨rfl, k, o⟩
       have T6 : Hid (Tk (w.alloc (.cells #[.string ⟨#[]⟩, .string ⟨#[]⟩, .bool false, .int .i64 0, .int .i64 0, .int .i64 0, .int .i64 0, .int .i64 0, .int .i64 0] 147)) g S (w.heap.size + 1) 147 #[.string ⟨a1.2.2.toArray⟩, .string ⟨a3.2.2.toArray⟩, .bool a2.2.2, .int .i64 a4.2.2.c, .int .i64 a4.2.2.s, .int .i64 a5.2.2.c, .int .i64 a5.2.2.s, .int .i64 0, .int .i64 0] a6.1 a6.2.1 (w6)) := V5.out.step k o
       have z6 := T6.out.bx.frozen 7
       have v6 := T6.out.bx.cell_ (i := 7) rfl
       have U6 : Hid (Tk (w.alloc (.cells #[.string ⟨#[]⟩, .string ⟨#[]⟩, .bool false, .int .i64 0, .int .i64 0, .int .i64 0, .int .i64 0, .int .i64 0, .int .i64 0] 147)) g S (w.heap.size + 1) 147 #[.string ⟨a1.2.2.toArray⟩, .string ⟨a3.2.2.toArray⟩, .bool a2.2.2, .int .i64 a4.2.2.c, .int .i64 a4.2.2.s, .int .i64 a5.2.2.c, .int .i64 a5.2.2.s, .int .i64 (a6.2.2 : Int), .int .i64 0] a6.1 a6.2.1 (w6.setCell ⟨w.heap.size + 1, 7, none⟩ (.int .i64 (a6.2.2 : Int)))) := T6.out.set 7 _
       clear k o
       have tok7 : True := trivial)
    | (go_at_call 120; have _t := tok7; clear tok7; refine (reader_number g S _ _ 4 _ U6.out.rd M6.out).mono ?_; rw [H7.out]; rintro e w7 ⟨rfl, k, o⟩
       have T7 : Hid (Tk (w.alloc (.cells #[.string ⟨#[]⟩, .string ⟨#[]⟩, .bool false, .int .i64 0, .int .i64 0, .int .i64 0, .int .i64 0, .int .i64 0, .int .i64 0] 147)) g S (w.heap.size + 1) 147 #[.string ⟨a1.2.2.toArray⟩, .string ⟨a3.2.2.toArray⟩, .bool a2.2.2, .int .i64 a4.2.2.c, .int .i64 a4.2.2.s, .int .i64 a5.2.2.c, .int .i64 a5.2.2.s, .int .i64 (a6.2.2 : Int), .int .i64 0] a7.1 a7.2.1 (w7)) := U6.out.step k o
       have z7 := T7.out.bx.frozen 8
       have v7 := T7.out.bx.cell_ (i := 8) rfl
       have U7 : Hid (Tk (w.alloc (.cells #[.string ⟨#[]⟩, .string ⟨#[]⟩, .bool false, .int .i64 0, .int .i64 0, .int .i64 0, .int .i64 0, .int .i64 0, .int .i64 0] 147)) g S (w.heap.size + 1) 147 #[.string ⟨a1.2.2.toArray⟩, .string ⟨a3.2.2.toArray⟩, .bool a2.2.2, .int .i64 a4.2.2.c, .int .i64 a4.2.2.s, .int .i64 a5.2.2.c, .int .i64 a5.2.2.s, .int .i64 (a6.2.2 : Int), .int .i64 (a7.2.2 : Int)] a7.1 a7.2.1 (w7.setCell ⟨w.heap.size + 1, 8, none⟩ (.int .i64 (a7.2.2 : Int)))) := T7.out.set 8 _
       clear k o
       have tok8 : True := trivial)
    | (refine wpl_load rfl 147 _ rfl (w.heap.size + 1) rfl 147 #[.string ⟨a1.2.2.toArray⟩, .string ⟨a3.2.2.toArray⟩, .bool a2.2.2, .int .i64 a4.2.2.c, .int .i64 a4.2.2.s, .int .i64 a5.2.2.c, .int .i64 a5.2.2.s, .int .i64 (a6.2.2 : Int), .int .i64 (a7.2.2 : Int)] _ U7.out.bx Tryz.underlying147 rfl (by kernel_rfl) ?_
       have R7 := Lib.hid (R0.out.only U7.out.ho (fun e => by have e' : w.heap.size = g := e; have := HG.out; omega)))
    | (refine wpList_store_row rfl 147 _ _ rfl w.heap.size #[.string ⟨a1.2.2.toArray⟩, .string ⟨a3.2.2.toArray⟩, .bool a2.2.2, .int .i64 a4.2.2.c, .int .i64 a4.2.2.s, .int .i64 a5.2.2.c, .int .i64 a5.2.2.s, .int .i64 (a6.2.2 : Int), .int .i64 (a7.2.2 : Int)] rfl rfl 147 _ R7.out (by kernel_rfl) rfl (by simp [Value.oneCell']) ?_
       have R8 := Lib.hid (R7.out.setRow #[.string ⟨a1.2.2.toArray⟩, .string ⟨a3.2.2.toArray⟩, .bool a2.2.2, .int .i64 a4.2.2.c, .int .i64 a4.2.2.s, .int .i64 a5.2.2.c, .int .i64 a5.2.2.s, .int .i64 (a6.2.2 : Int), .int .i64 (a7.2.2 : Int)])))
  refine bodyPost_ret (results_cell_row rfl _ _ w.heap.size 147 _ (0, 0) _ rfl R8.out Tryz.underlying147 rfl (by kernel_rfl)) rfl ?_
  have oF := (Only.refl (one w.heap.size) (w7.setCell ⟨w.heap.size + 1, 8, none⟩ (.int .i64 (a7.2.2 : Int)))).setRow (g := w.heap.size) (.inl (show one w.heap.size w.heap.size from rfl)) #[.string ⟨a1.2.2.toArray⟩, .string ⟨a3.2.2.toArray⟩, .bool a2.2.2, .int .i64 a4.2.2.c, .int .i64 a4.2.2.s, .int .i64 a5.2.2.c, .int .i64 a5.2.2.s, .int .i64 (a6.2.2 : Int), .int .i64 (a7.2.2 : Int)]
  rw [HS.out]
  exact ⟨rfl, U7.out.rd.only oF (fun e => by have e' : g = w.heap.size := e; have := HG.out; omega) (fun b hb e => by have e' : b = w.heap.size := e; have := FR.out b hb; omega),
    (O0.out.trans U7.out.ho).setRow (g := w.heap.size) (.inr (Nat.le_refl _)) _⟩
end Go.Proofs.YtlieolehpmobfaaGreatDoor
end
