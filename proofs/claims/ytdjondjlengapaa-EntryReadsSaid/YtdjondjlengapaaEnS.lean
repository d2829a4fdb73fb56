/- The example that the statements of layer 5 begin with. No statement of the seat is proved here. -/
import Derived.Test.YtdjondjlengapaaEnK
namespace Go.Proofs.Ytdjondjlengapaa
open Go.RowKit
set_option maxRecDepth 100000

theorem en_speaks (w : World) : Calls Try.prog 10 #[] w fun e w' => e = .returned (.bool true) ∧ w = w' := by
  have HE : Hid (enKeepers 10 3 12 = 3073) := by rw [Hid]; decide +kernel
  go_enter Try.func10, Try.ntmps10
  go_wp2_with (go_at_call 40; refine (en_keepers 10 3 12 _).mono ?_; rintro e w' ⟨rfl, rfl⟩; rw [HE.out])
  go_ret
  exact ⟨rfl, rfl⟩
end Go.Proofs.Ytdjondjlengapaa
