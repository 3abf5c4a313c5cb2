/- A region that draws its order, walked under what cells hold: that may grow as the walk goes on. -/
import Derived.Deep.RegionHeld
import Derived.Test.YtjllmladhjbnaaaGreatDoorBase2
namespace Go.Proofs.YtjllmladhjbnaaaGreatDoor
open Go.RowKit
theorem held_grow {P : Program} {md : Region.Mode} {ops : Array Oper} {Q : Exit → Act → World → Prop} {S S' : World → Prop} (h : ∀ W, S' W → S W) :
    ∀ (fuel : Nat) (listed : Array Bool) (a : Act) (w : World), wpAnyH P md ops Q S' fuel listed a w → wpAnyH P md ops Q S fuel listed a w
  | 0, _, _, _, H => H
  | fuel + 1, _, _, _, H => ⟨H.1, fun i hi => wpOp_mono (fun a' w' h' => ⟨h _ h'.1, held_grow h fuel _ a' w' h'.2⟩) (H.2 i hi)⟩
end Go.Proofs.YtjllmladhjbnaaaGreatDoor
