/- The example that the statements of layer 5 begin with. No statement of the seat is proved here. -/
import Derived.Test.YtkhckgbhpfjfkaaEnK
namespace Go.Proofs.Ytkhckgbhpfjfkaa
open Go.RowKit
set_option maxRecDepth 100000

theorem en_speaks (w : World) : Calls Try.prog 9 #[] w fun e w' => e = .returned (.bool true) ∧ w = w' := by
  have HE : Hid (enKeepers 10 3 12 = 3073) := by rw [Hid]; decide +kernel
  go_enter Try.func9, Try.ntmps9
  go_wp2_with (go_at_call 46; refine (en_keepers 10 3 12 _).mono ?_; rintro e w' ⟨rfl, rfl⟩; rw [HE.out])
  go_ret
  exact ⟨rfl, rfl⟩
end Go.Proofs.Ytkhckgbhpfjfkaa
