/- Texts of mine, one behind the other: EnA, StA, StE. No statement of the seat is proved here. -/
import Derived.Test.YtniacolkjdmflaaPg3
import Derived.Test.YtniacolkjdmflaaChecked
import Derived.Test.YtniacolkjdmflaaPg1
import Derived.ChangeKeysEq
import Derived.Laws.StructEq
import Derived.Deep.QuietTactic
import Derived.BigQuiet
section
namespace Go.Proofs.Ytniacolkjdmflaa
open Go.RowKit
set_option maxRecDepth 100000

theorem eq_struct {P : Program} {t : TypeId} {fs : Array Field} (ht : P.underlying t = some (.struct fs)) (hp : P.stoodInHeld t = false) (d : Nat) (xs ys : Array Value) (w : World) :
    (Op.equalIn (d + 1) t (.agg xs) (.agg ys)).run P w = (Op.eqFields d xs ys fs.toList).run P w := by
  have e : P.fieldsOf t = fs := by rw [Program.fieldsOf, ht]
  rw [run_equalIn_struct w d t xs ys (by rw [e]; exact ht) hp, e]

theorem eq_api_stamp (w : World) (x y : St) (d : Nat) : (Op.equalIn (d + 2) 49 (.agg #[.int .i64 x.c, .int .i64 x.s]) (.agg #[.int .i64 y.c, .int .i64 y.s])).run Try.prog w = .ok (stEq x y) w := by
  rw [eq_struct Try.underlying49 (by kernel_rfl)]
  have e : ∀ (a b : Int), (Op.equalIn (d + 1) 3 (.int .i64 a) (.int .i64 b)).run Try.prog w = .ok (a == b) w := fun a b => run_equalIn_int w d 3 .i64 .i64 a b Try.underlying3
  simp only [stEq]
  cases h1 : x.c == y.c <;> cases h2 : x.s == y.s <;> simp [Op.eqFields, part, isAgg, run_underlying Try.underlying3, e, h1, h2]
theorem eq_ref_stamp (w : World) (x y : St) (d : Nat) : (Op.equalIn (d + 2) 24 (.agg #[.int .i64 x.c, .int .i64 x.s]) (.agg #[.int .i64 y.c, .int .i64 y.s])).run Try.prog w = .ok (stEq x y) w := by
  rw [eq_struct Try.underlying24 (by kernel_rfl)]
  have e : ∀ (a b : Int), (Op.equalIn (d + 1) 3 (.int .i64 a) (.int .i64 b)).run Try.prog w = .ok (a == b) w := fun a b => run_equalIn_int w d 3 .i64 .i64 a b Try.underlying3
  simp only [stEq]
  cases h1 : x.c == y.c <;> cases h2 : x.s == y.s <;> simp [Op.eqFields, part, isAgg, run_underlying Try.underlying3, e, h1, h2]
theorem eq_api_entry (w : World) (x y : En) (d : Nat) : (Op.equalIn (d + 3) 51 (.agg #[.string x.k, .string x.v, .bool x.d, .int .i64 x.s.c, .int .i64 x.s.s, .int .i64 x.a.c, .int .i64 x.a.s, .int .i64 x.p, .int .i64 x.g]) (.agg #[.string y.k, .string y.v, .bool y.d, .int .i64 y.s.c, .int .i64 y.s.s, .int .i64 y.a.c, .int .i64 y.a.s, .int .i64 y.p, .int .i64 y.g])).run Try.prog w = .ok (enEq x y) w := by
  rw [eq_struct Try.underlying51 (by kernel_rfl) (d + 2)]
  have e1 : ∀ (a b : ByteArray), (Op.equalIn (d + 2) 9 (.string a) (.string b)).run Try.prog w = .ok (a.toList == b.toList) w := fun a b => run_equalIn_string w (d + 1) 9 a b Try.underlying9
  have e2 : ∀ (a b : Bool), (Op.equalIn (d + 2) 4 (.bool a) (.bool b)).run Try.prog w = .ok (a == b) w := fun a b => run_equalIn_bool w (d + 1) 4 a b Try.underlying4
  have e3 : ∀ (a b : Int), (Op.equalIn (d + 2) 3 (.int .i64 a) (.int .i64 b)).run Try.prog w = .ok (a == b) w := fun a b => run_equalIn_int w (d + 1) 3 .i64 .i64 a b Try.underlying3
  have e4 := eq_api_stamp w x.s y.s d
  have e5 := eq_api_stamp w x.a y.a d
  obtain ⟨i0, hi0, hz0⟩ : ∃ i0, Try.prog.info? 49 = some i0 ∧ i0.size = 2 := by
    have : (Try.prog.info? 49).map (·.size) = some 2 := by kernel_rfl
    cases h : Try.prog.info? 49 with
    | none => rw [h] at this; cases this
    | some i0 => rw [h] at this; simp at this; exact ⟨i0, rfl, this⟩
  have p1 : (part 49 #[.string x.k, .string x.v, .bool x.d, .int .i64 x.s.c, .int .i64 x.s.s, .int .i64 x.a.c, .int .i64 x.a.s, .int .i64 x.p, .int .i64 x.g] 3).run Try.prog w = .ok (.agg #[.int .i64 x.s.c, .int .i64 x.s.s]) w := by
    simp [part, isAgg, run_underlying Try.underlying49, sizeOf, typeInfo, hi0, hz0]
  have p2 : (part 49 #[.string x.k, .string x.v, .bool x.d, .int .i64 x.s.c, .int .i64 x.s.s, .int .i64 x.a.c, .int .i64 x.a.s, .int .i64 x.p, .int .i64 x.g] 5).run Try.prog w = .ok (.agg #[.int .i64 x.a.c, .int .i64 x.a.s]) w := by
    simp [part, isAgg, run_underlying Try.underlying49, sizeOf, typeInfo, hi0, hz0]
  have q1 : (part 49 #[.string y.k, .string y.v, .bool y.d, .int .i64 y.s.c, .int .i64 y.s.s, .int .i64 y.a.c, .int .i64 y.a.s, .int .i64 y.p, .int .i64 y.g] 3).run Try.prog w = .ok (.agg #[.int .i64 y.s.c, .int .i64 y.s.s]) w := by
    simp [part, isAgg, run_underlying Try.underlying49, sizeOf, typeInfo, hi0, hz0]
  have q2 : (part 49 #[.string y.k, .string y.v, .bool y.d, .int .i64 y.s.c, .int .i64 y.s.s, .int .i64 y.a.c, .int .i64 y.a.s, .int .i64 y.p, .int .i64 y.g] 5).run Try.prog w = .ok (.agg #[.int .i64 y.a.c, .int .i64 y.a.s]) w := by
    simp [part, isAgg, run_underlying Try.underlying49, sizeOf, typeInfo, hi0, hz0]
  have ps : ∀ (cs : Array Value) (i : Nat) (u : Value), cs[i]? = some u → (part 9 cs i).run Try.prog w = .ok u w := fun cs i u h => by simp [part, isAgg, run_underlying Try.underlying9, h]
  have pb : ∀ (cs : Array Value) (i : Nat) (u : Value), cs[i]? = some u → (part 4 cs i).run Try.prog w = .ok u w := fun cs i u h => by simp [part, isAgg, run_underlying Try.underlying4, h]
  have pi : ∀ (cs : Array Value) (i : Nat) (u : Value), cs[i]? = some u → (part 3 cs i).run Try.prog w = .ok u w := fun cs i u h => by simp [part, isAgg, run_underlying Try.underlying3, h]
  have s1 := e1 x.k y.k
  have s2 := e1 x.v y.v
  have s3 := e2 x.d y.d
  have s6 := e3 x.p y.p
  have s7 := e3 x.g y.g
  unfold enEq
  generalize (x.k.toList == y.k.toList) = b1 at *
  generalize (x.v.toList == y.v.toList) = b2 at *
  generalize (x.d == y.d) = b3 at *
  generalize stEq x.s y.s = b4 at *
  generalize stEq x.a y.a = b5 at *
  generalize (x.p == y.p) = b6 at *
  generalize (x.g == y.g) = b7 at *
  have r0 := ps #[.string x.k, .string x.v, .bool x.d, .int .i64 x.s.c, .int .i64 x.s.s, .int .i64 x.a.c, .int .i64 x.a.s, .int .i64 x.p, .int .i64 x.g] 0 _ rfl
  have r1 := ps #[.string y.k, .string y.v, .bool y.d, .int .i64 y.s.c, .int .i64 y.s.s, .int .i64 y.a.c, .int .i64 y.a.s, .int .i64 y.p, .int .i64 y.g] 0 _ rfl
  have r2 := ps #[.string x.k, .string x.v, .bool x.d, .int .i64 x.s.c, .int .i64 x.s.s, .int .i64 x.a.c, .int .i64 x.a.s, .int .i64 x.p, .int .i64 x.g] 1 _ rfl
  have r3 := ps #[.string y.k, .string y.v, .bool y.d, .int .i64 y.s.c, .int .i64 y.s.s, .int .i64 y.a.c, .int .i64 y.a.s, .int .i64 y.p, .int .i64 y.g] 1 _ rfl
  have r4 := pb #[.string x.k, .string x.v, .bool x.d, .int .i64 x.s.c, .int .i64 x.s.s, .int .i64 x.a.c, .int .i64 x.a.s, .int .i64 x.p, .int .i64 x.g] 2 _ rfl
  have r5 := pb #[.string y.k, .string y.v, .bool y.d, .int .i64 y.s.c, .int .i64 y.s.s, .int .i64 y.a.c, .int .i64 y.a.s, .int .i64 y.p, .int .i64 y.g] 2 _ rfl
  have r6 := pi #[.string x.k, .string x.v, .bool x.d, .int .i64 x.s.c, .int .i64 x.s.s, .int .i64 x.a.c, .int .i64 x.a.s, .int .i64 x.p, .int .i64 x.g] 7 _ rfl
  have r7 := pi #[.string y.k, .string y.v, .bool y.d, .int .i64 y.s.c, .int .i64 y.s.s, .int .i64 y.a.c, .int .i64 y.a.s, .int .i64 y.p, .int .i64 y.g] 7 _ rfl
  have r8 := pi #[.string x.k, .string x.v, .bool x.d, .int .i64 x.s.c, .int .i64 x.s.s, .int .i64 x.a.c, .int .i64 x.a.s, .int .i64 x.p, .int .i64 x.g] 8 _ rfl
  have r9 := pi #[.string y.k, .string y.v, .bool y.d, .int .i64 y.s.c, .int .i64 y.s.s, .int .i64 y.a.c, .int .i64 y.a.s, .int .i64 y.p, .int .i64 y.g] 8 _ rfl
  clear ps pb pi e1 e2 e3
  cases b1
  · simp [Op.eqFields, r0, r1, s1]
  cases b2
  · simp [Op.eqFields, r0, r1, r2, r3, s1, s2]
  cases b3
  · simp [Op.eqFields, r0, r1, r2, r3, r4, r5, s1, s2, s3]
  cases b4
  · simp [Op.eqFields, r0, r1, r2, r3, r4, r5, p1, q1, s1, s2, s3, e4]
  cases b5
  · simp [Op.eqFields, r0, r1, r2, r3, r4, r5, p1, q1, p2, q2, s1, s2, s3, e4, e5]
  cases b6
  · simp [Op.eqFields, r0, r1, r2, r3, r4, r5, p1, q1, p2, q2, r6, r7, s1, s2, s3, e4, e5, s6]
  cases b7 <;> simp [Op.eqFields, r0, r1, r2, r3, r4, r5, p1, q1, p2, q2, r6, r7, r8, r9, s1, s2, s3, e4, e5, s6, s7]
theorem eq_ref_entry (w : World) (x y : En) (d : Nat) : (Op.equalIn (d + 3) 26 (.agg #[.string x.k, .string x.v, .bool x.d, .int .i64 x.s.c, .int .i64 x.s.s, .int .i64 x.a.c, .int .i64 x.a.s, .int .i64 x.p, .int .i64 x.g]) (.agg #[.string y.k, .string y.v, .bool y.d, .int .i64 y.s.c, .int .i64 y.s.s, .int .i64 y.a.c, .int .i64 y.a.s, .int .i64 y.p, .int .i64 y.g])).run Try.prog w = .ok (enEq x y) w := by
  rw [eq_struct Try.underlying26 (by kernel_rfl) (d + 2)]
  have e1 : ∀ (a b : ByteArray), (Op.equalIn (d + 2) 9 (.string a) (.string b)).run Try.prog w = .ok (a.toList == b.toList) w := fun a b => run_equalIn_string w (d + 1) 9 a b Try.underlying9
  have e2 : ∀ (a b : Bool), (Op.equalIn (d + 2) 4 (.bool a) (.bool b)).run Try.prog w = .ok (a == b) w := fun a b => run_equalIn_bool w (d + 1) 4 a b Try.underlying4
  have e3 : ∀ (a b : Int), (Op.equalIn (d + 2) 3 (.int .i64 a) (.int .i64 b)).run Try.prog w = .ok (a == b) w := fun a b => run_equalIn_int w (d + 1) 3 .i64 .i64 a b Try.underlying3
  have e4 := eq_ref_stamp w x.s y.s d
  have e5 := eq_ref_stamp w x.a y.a d
  obtain ⟨i0, hi0, hz0⟩ : ∃ i0, Try.prog.info? 24 = some i0 ∧ i0.size = 2 := by
    have : (Try.prog.info? 24).map (·.size) = some 2 := by kernel_rfl
    cases h : Try.prog.info? 24 with
    | none => rw [h] at this; cases this
    | some i0 => rw [h] at this; simp at this; exact ⟨i0, rfl, this⟩
  have p1 : (part 24 #[.string x.k, .string x.v, .bool x.d, .int .i64 x.s.c, .int .i64 x.s.s, .int .i64 x.a.c, .int .i64 x.a.s, .int .i64 x.p, .int .i64 x.g] 3).run Try.prog w = .ok (.agg #[.int .i64 x.s.c, .int .i64 x.s.s]) w := by
    simp [part, isAgg, run_underlying Try.underlying24, sizeOf, typeInfo, hi0, hz0]
  have p2 : (part 24 #[.string x.k, .string x.v, .bool x.d, .int .i64 x.s.c, .int .i64 x.s.s, .int .i64 x.a.c, .int .i64 x.a.s, .int .i64 x.p, .int .i64 x.g] 5).run Try.prog w = .ok (.agg #[.int .i64 x.a.c, .int .i64 x.a.s]) w := by
    simp [part, isAgg, run_underlying Try.underlying24, sizeOf, typeInfo, hi0, hz0]
  have q1 : (part 24 #[.string y.k, .string y.v, .bool y.d, .int .i64 y.s.c, .int .i64 y.s.s, .int .i64 y.a.c, .int .i64 y.a.s, .int .i64 y.p, .int .i64 y.g] 3).run Try.prog w = .ok (.agg #[.int .i64 y.s.c, .int .i64 y.s.s]) w := by
    simp [part, isAgg, run_underlying Try.underlying24, sizeOf, typeInfo, hi0, hz0]
  have q2 : (part 24 #[.string y.k, .string y.v, .bool y.d, .int .i64 y.s.c, .int .i64 y.s.s, .int .i64 y.a.c, .int .i64 y.a.s, .int .i64 y.p, .int .i64 y.g] 5).run Try.prog w = .ok (.agg #[.int .i64 y.a.c, .int .i64 y.a.s]) w := by
    simp [part, isAgg, run_underlying Try.underlying24, sizeOf, typeInfo, hi0, hz0]
  have ps : ∀ (cs : Array Value) (i : Nat) (u : Value), cs[i]? = some u → (part 9 cs i).run Try.prog w = .ok u w := fun cs i u h => by simp [part, isAgg, run_underlying Try.underlying9, h]
  have pb : ∀ (cs : Array Value) (i : Nat) (u : Value), cs[i]? = some u → (part 4 cs i).run Try.prog w = .ok u w := fun cs i u h => by simp [part, isAgg, run_underlying Try.underlying4, h]
  have pi : ∀ (cs : Array Value) (i : Nat) (u : Value), cs[i]? = some u → (part 3 cs i).run Try.prog w = .ok u w := fun cs i u h => by simp [part, isAgg, run_underlying Try.underlying3, h]
  have s1 := e1 x.k y.k
  have s2 := e1 x.v y.v
  have s3 := e2 x.d y.d
  have s6 := e3 x.p y.p
  have s7 := e3 x.g y.g
  unfold enEq
  generalize (x.k.toList == y.k.toList) = b1 at *
  generalize (x.v.toList == y.v.toList) = b2 at *
  generalize (x.d == y.d) = b3 at *
  generalize stEq x.s y.s = b4 at *
  generalize stEq x.a y.a = b5 at *
  generalize (x.p == y.p) = b6 at *
  generalize (x.g == y.g) = b7 at *
  have r0 := ps #[.string x.k, .string x.v, .bool x.d, .int .i64 x.s.c, .int .i64 x.s.s, .int .i64 x.a.c, .int .i64 x.a.s, .int .i64 x.p, .int .i64 x.g] 0 _ rfl
  have r1 := ps #[.string y.k, .string y.v, .bool y.d, .int .i64 y.s.c, .int .i64 y.s.s, .int .i64 y.a.c, .int .i64 y.a.s, .int .i64 y.p, .int .i64 y.g] 0 _ rfl
  have r2 := ps #[.string x.k, .string x.v, .bool x.d, .int .i64 x.s.c, .int .i64 x.s.s, .int .i64 x.a.c, .int .i64 x.a.s, .int .i64 x.p, .int .i64 x.g] 1 _ rfl
  have r3 := ps #[.string y.k, .string y.v, .bool y.d, .int .i64 y.s.c, .int .i64 y.s.s, .int .i64 y.a.c, .int .i64 y.a.s, .int .i64 y.p, .int .i64 y.g] 1 _ rfl
  have r4 := pb #[.string x.k, .string x.v, .bool x.d, .int .i64 x.s.c, .int .i64 x.s.s, .int .i64 x.a.c, .int .i64 x.a.s, .int .i64 x.p, .int .i64 x.g] 2 _ rfl
  have r5 := pb #[.string y.k, .string y.v, .bool y.d, .int .i64 y.s.c, .int .i64 y.s.s, .int .i64 y.a.c, .int .i64 y.a.s, .int .i64 y.p, .int .i64 y.g] 2 _ rfl
  have r6 := pi #[.string x.k, .string x.v, .bool x.d, .int .i64 x.s.c, .int .i64 x.s.s, .int .i64 x.a.c, .int .i64 x.a.s, .int .i64 x.p, .int .i64 x.g] 7 _ rfl
  have r7 := pi #[.string y.k, .string y.v, .bool y.d, .int .i64 y.s.c, .int .i64 y.s.s, .int .i64 y.a.c, .int .i64 y.a.s, .int .i64 y.p, .int .i64 y.g] 7 _ rfl
  have r8 := pi #[.string x.k, .string x.v, .bool x.d, .int .i64 x.s.c, .int .i64 x.s.s, .int .i64 x.a.c, .int .i64 x.a.s, .int .i64 x.p, .int .i64 x.g] 8 _ rfl
  have r9 := pi #[.string y.k, .string y.v, .bool y.d, .int .i64 y.s.c, .int .i64 y.s.s, .int .i64 y.a.c, .int .i64 y.a.s, .int .i64 y.p, .int .i64 y.g] 8 _ rfl
  clear ps pb pi e1 e2 e3
  cases b1
  · simp [Op.eqFields, r0, r1, s1]
  cases b2
  · simp [Op.eqFields, r0, r1, r2, r3, s1, s2]
  cases b3
  · simp [Op.eqFields, r0, r1, r2, r3, r4, r5, s1, s2, s3]
  cases b4
  · simp [Op.eqFields, r0, r1, r2, r3, r4, r5, p1, q1, s1, s2, s3, e4]
  cases b5
  · simp [Op.eqFields, r0, r1, r2, r3, r4, r5, p1, q1, p2, q2, s1, s2, s3, e4, e5]
  cases b6
  · simp [Op.eqFields, r0, r1, r2, r3, r4, r5, p1, q1, p2, q2, r6, r7, s1, s2, s3, e4, e5, s6]
  cases b7 <;> simp [Op.eqFields, r0, r1, r2, r3, r4, r5, p1, q1, p2, q2, r6, r7, r8, r9, s1, s2, s3, e4, e5, s6, s7]

/-- What '==' and '!=' of two structs give. -/
theorem eql_of {P : Program} {w : World} {t : TypeId} {xs ys : Array Value} {b : Bool} (h : (Op.equalIn 10000 t (.agg xs) (.agg ys)).run P w = .ok b w) : (binOp .eql t (.agg xs) (.agg ys)).run P w = .ok (.bool b) w := by
  rw [run_eql_struct, h]; rfl
theorem neq_of {P : Program} {w : World} {t : TypeId} {xs ys : Array Value} {b : Bool} (h : (Op.equalIn 10000 t (.agg xs) (.agg ys)).run P w = .ok b w) : (binOp .neq t (.agg xs) (.agg ys)).run P w = .ok (.bool (!b)) w := by
  rw [run_neq_struct, h]; rfl
end Go.Proofs.Ytniacolkjdmflaa
end
section
namespace Go.Proofs.Ytniacolkjdmflaa
open Go.RowKit
set_option maxRecDepth 100000

theorem st_isSite (n : Int) (w : World) :
    Calls Try.prog 132 #[.int .i64 n] w fun e w' => e = .returned (.bool (stSite n)) ∧ w = w' := by
  by_cases h1 : 0 ≤ n
  · by_cases h2 : n < 12
    · have H : Hid (stSite n = true) := by simp [Hid, stSite, h1]; omega
      go_enter Try.func132, Try.ntmps132
      go_wp2
      go_ret
      rw [H.out]
      exact ⟨rfl, rfl⟩
    · have H : Hid (stSite n = false) := by simp [Hid, stSite]; omega
      go_enter Try.func132, Try.ntmps132
      go_wp2
      go_ret
      rw [H.out]
      exact ⟨rfl, rfl⟩
  · have H : Hid (stSite n = false) := by simp [Hid, stSite]; omega
    go_enter Try.func132, Try.ntmps132
    go_wp2
    go_ret
    rw [H.out]
    exact ⟨rfl, rfl⟩

theorem st_good (c s : Int) (w : World) :
    Calls Try.prog 110 #[.agg #[.int .i64 c, .int .i64 s]] w fun e w' => e = .returned (.bool (stGood ⟨c, s⟩)) ∧ Only none_ w w' := by
  have O := Lib.hid ((Only.refl none_ w).alloc (.cells #[.int .i64 c, .int .i64 s] 49))
  obtain ⟨b, hb⟩ : ∃ b, stSite s = b := ⟨_, rfl⟩
  have HB := Lib.hid hb
  have HG : Hid (stGood ⟨c, s⟩ = (decide (1 ≤ c ∧ c ≤ 4294967295) && b)) := by rw [Hid, stGood, hb]
  clear hb
  by_cases h1 : 1 ≤ c
  · by_cases h2 : c ≤ 4294967295
    · have H : Hid (stGood ⟨c, s⟩ = b) := by rw [Hid, HG.out]; simp [h1, h2]
      go_enter Try.func110, Try.ntmps110
      go_wp2_with (first
        | (go_at_call 132; refine (st_isSite _ _).mono ?_; rintro e w' ⟨rfl, rfl⟩; rw [HB.out]))
      go_ret
      rw [H.out]
      exact ⟨rfl, O.out⟩
    · have H : Hid (stGood ⟨c, s⟩ = false) := by rw [Hid, HG.out]; simp [h1, h2]
      go_enter Try.func110, Try.ntmps110
      go_wp2_with fail
      go_ret
      rw [H.out]
      exact ⟨rfl, O.out⟩
  · have H : Hid (stGood ⟨c, s⟩ = false) := by rw [Hid, HG.out]; simp [h1]
    go_enter Try.func110, Try.ntmps110
    go_wp2_with fail
    go_ret
    rw [H.out]
    exact ⟨rfl, O.out⟩
end Go.Proofs.Ytniacolkjdmflaa
end
section
namespace Go.Proofs.Ytniacolkjdmflaa
open Go.RowKit
set_option maxRecDepth 100000

theorem rf_site (n : Int) (w : World) :
    Calls Try.prog 46 #[.int .i64 n] w fun e w' => e = .returned (.bool (stSite n)) ∧ w = w' := by
  by_cases h1 : 0 ≤ n
  · by_cases h2 : n < 12
    · have H : Hid (stSite n = true) := by simp [Hid, stSite, h1]; omega
      go_enter Try.func46, Try.ntmps46
      go_wp2
      go_ret
      rw [H.out]
      exact ⟨rfl, rfl⟩
    · have H : Hid (stSite n = false) := by simp [Hid, stSite]; omega
      go_enter Try.func46, Try.ntmps46
      go_wp2
      go_ret
      rw [H.out]
      exact ⟨rfl, rfl⟩
  · have H : Hid (stSite n = false) := by simp [Hid, stSite]; omega
    go_enter Try.func46, Try.ntmps46
    go_wp2
    go_ret
    rw [H.out]
    exact ⟨rfl, rfl⟩

theorem rf_good (c s : Int) (w : World) :
    Calls Try.prog 60 #[.agg #[.int .i64 c, .int .i64 s]] w fun e w' => e = .returned (.bool (stGood ⟨c, s⟩)) ∧ Only none_ w w' := by
  have O := Lib.hid ((Only.refl none_ w).alloc (.cells #[.int .i64 c, .int .i64 s] 24))
  obtain ⟨b, hb⟩ : ∃ b, stSite s = b := ⟨_, rfl⟩
  have HB := Lib.hid hb
  have HG : Hid (stGood ⟨c, s⟩ = (decide (1 ≤ c ∧ c ≤ 4294967295) && b)) := by rw [Hid, stGood, hb]
  clear hb
  by_cases h1 : 1 ≤ c
  · by_cases h2 : c ≤ 4294967295
    · have H : Hid (stGood ⟨c, s⟩ = b) := by rw [Hid, HG.out]; simp [h1, h2]
      go_enter Try.func60, Try.ntmps60
      go_wp2_with (first
        | (go_at_call 46; refine (rf_site _ _).mono ?_; rintro e w' ⟨rfl, rfl⟩; rw [HB.out]))
      go_ret
      rw [H.out]
      exact ⟨rfl, O.out⟩
    · have H : Hid (stGood ⟨c, s⟩ = false) := by rw [Hid, HG.out]; simp [h1, h2]
      go_enter Try.func60, Try.ntmps60
      go_wp2_with fail
      go_ret
      rw [H.out]
      exact ⟨rfl, O.out⟩
  · have H : Hid (stGood ⟨c, s⟩ = false) := by rw [Hid, HG.out]; simp [h1]
    go_enter Try.func60, Try.ntmps60
    go_wp2_with fail
    go_ret
    rw [H.out]
    exact ⟨rfl, O.out⟩

theorem rf_later (c s c' s' : Int) (w : World) :
    Calls Try.prog 29 #[.agg #[.int .i64 c, .int .i64 s], .agg #[.int .i64 c', .int .i64 s']] w fun e w' => e = .returned (.bool (stLater ⟨c, s⟩ ⟨c', s'⟩)) ∧ Only none_ w w' := by
  have O := Lib.hid (((Only.refl none_ w).alloc (.cells #[.int .i64 c, .int .i64 s] 24)).alloc (.cells #[.int .i64 c', .int .i64 s'] 24))
  by_cases h : c = c'
  · have hz : (c != c') = false := by simp [h]
    have H : Hid (stLater ⟨c, s⟩ ⟨c', s'⟩ = decide (s' < s)) := by simp [Hid, stLater, h]
    clear h
    go_enter Try.func29, Try.ntmps29
    go_wp2_with fail
    go_ret
    rw [H.out]
    exact ⟨rfl, O.out⟩
  · have hz : (c != c') = true := by simp [h]
    have H : Hid (stLater ⟨c, s⟩ ⟨c', s'⟩ = decide (c' < c)) := by simp [Hid, stLater, h]
    clear h
    go_enter Try.func29, Try.ntmps29
    go_wp2_with fail
    go_ret
    rw [H.out]
    exact ⟨rfl, O.out⟩

theorem st_to (c s : Int) (w : World) :
    Calls Try.prog 56 #[.agg #[.int .i64 c, .int .i64 s]] w fun e w' => e = .returned (.agg #[.int .i64 c, .int .i64 s]) ∧ Only none_ w w' := by
  have O := Lib.hid (((Only.refl none_ w).alloc (.cells #[.int .i64 c, .int .i64 s] 49)).alloc (.cells #[.int .i64 c, .int .i64 s] 24))
  go_enter Try.func56, Try.ntmps56
  go_wp2_with fail
  exact bodyPost_ret (v := .agg #[.int .i64 c, .int .i64 s]) (by simp [results, Try.results56, go_sem]) rfl ⟨rfl, O.out⟩
end Go.Proofs.Ytniacolkjdmflaa
end
