/- The document's stamps turned to the program's. No statement of the seat is proved here. -/
import Derived.Test.YtclngnoapfjghaaStE
namespace Go.Proofs.Ytclngnoapfjghaa
open Go.RowKit
set_option maxRecDepth 100000

theorem st_of (c s : Int) (w : World) :
    Calls Try.prog 45 #[.agg #[.int .i64 c, .int .i64 s]] w fun e w' => e = .returned (.agg #[.int .i64 c, .int .i64 s]) ∧ Only none_ w w' := by
  have O := Lib.hid (((Only.refl none_ w).alloc (.cells #[.int .i64 c, .int .i64 s] 29)).alloc (.cells #[.int .i64 c, .int .i64 s] 37))
  go_enter Try.func45, Try.ntmps45
  go_wp2_with fail
  exact bodyPost_ret (v := .agg #[.int .i64 c, .int .i64 s]) (by simp [results, Try.results45, go_sem]) rfl ⟨rfl, O.out⟩
end Go.Proofs.Ytclngnoapfjghaa
