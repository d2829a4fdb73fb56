/- In a region that draws its order: what is held may be turned to more behind a call (a call's new memory is read behind it alone). No statement of the seat is proved here. -/
import Derived.Deep.RegionHeld3
namespace Go.Proofs.Ytbhdnhnkiibaaaa

section
variable {P : Program} {md : Region.Mode} {ops : Array Oper} {Q : Exit → Act → World → Prop} {S : World → Prop}
theorem held_more (S' : World → Prop) (h : ∀ w, S' w → S w) : ∀ (fuel : Nat) (listed : Array Bool) (a : Act) (w : World), wpAnyH P md ops Q S' fuel listed a w → wpAnyH P md ops Q S fuel listed a w
  | 0, _, _, _, hh => hh
  | fuel + 1, _, _, _, hh => ⟨hh.1, fun i hi => wpOp_mono (fun _ _ h' => ⟨h _ h'.1, held_more S' h fuel _ _ _ h'.2⟩) (hh.2 i hi)⟩
/-- The way back into the region, with more held. Both sides hold, so they are the same: a step rewrites one into the other in its place. -/
theorem shut_more (S' : World → Prop) (h : ∀ w, S' w → S w) {fuel : Nat} {listed : Array Bool} {K : Act → World → Prop} (hK : Shut (∀ a w, S w → (S w → wpAnyH P md ops Q S fuel listed a w) → K a w)) :
    Shut (∀ a w, S w → (S w → wpAnyH P md ops Q S fuel listed a w) → K a w) = Shut (∀ a w, S' w → (S' w → wpAnyH P md ops Q S' fuel listed a w) → K a w) :=
  propext ⟨fun _ a w hS hW => hK a w (h w hS) (fun _ => held_more S' h fuel listed a w (hW hS)), fun _ => hK⟩
end
end Go.Proofs.Ytbhdnhnkiibaaaa
