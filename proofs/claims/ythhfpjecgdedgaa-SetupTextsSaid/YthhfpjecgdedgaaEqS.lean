/- Structs held against each other, field by field. No statement of the seat is proved here. -/
import Derived.Test.YthhfpjecgdedgaaBase
import Derived.ChangeKeysEq
import Derived.Laws.StructEq
namespace Go.Proofs.Ythhfpjecgdedgaa
open Go.RowKit
set_option linter.all false
set_option maxRecDepth 100000

theorem eq_struct {P : Program} {t : TypeId} {fs : Array Field} (ht : P.underlying t = some (.struct fs)) (hp : P.stoodInHeld t = false) (d : Nat) (xs ys : Array Value) (w : World) :
    (Op.equalIn (d + 1) t (.agg xs) (.agg ys)).run P w = (Op.eqFields d xs ys fs.toList).run P w := by
  have e : P.fieldsOf t = fs := by rw [Program.fieldsOf, ht]
  rw [run_equalIn_struct w d t xs ys (by rw [e]; exact ht) hp, e]

/-- What '==' and '!=' of two structs give. -/
theorem eql_of {P : Program} {w : World} {t : TypeId} {xs ys : Array Value} {b : Bool} (h : (Op.equalIn 10000 t (.agg xs) (.agg ys)).run P w = .ok b w) : (binOp .eql t (.agg xs) (.agg ys)).run P w = .ok (.bool b) w := by
  rw [run_eql_struct, h]; rfl
theorem neq_of {P : Program} {w : World} {t : TypeId} {xs ys : Array Value} {b : Bool} (h : (Op.equalIn 10000 t (.agg xs) (.agg ys)).run P w = .ok b w) : (binOp .neq t (.agg xs) (.agg ys)).run P w = .ok (.bool (!b)) w := by
  rw [run_neq_struct, h]; rfl
end Go.Proofs.Ythhfpjecgdedgaa
