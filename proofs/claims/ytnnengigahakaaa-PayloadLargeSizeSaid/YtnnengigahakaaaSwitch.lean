/-
  A drawn region walked by hand: another condition on the world from some point on. Nothing of the program.
-/
import Derived.Deep.RegionHeld3
namespace Go.Proofs.Ytnnengigahakaaa
open Go


theorem wpAnyH_switch {P : Program} {md : Region.Mode} {ops : Array Oper} {Q : Exit → Act → World → Prop} {S S2 : World → Prop} (hs : ∀ w, S2 w → S w) :
    ∀ {fuel : Nat} {listed : Array Bool} {a : Act} {w : World}, wpAnyH P md ops Q S2 fuel listed a w → wpAnyH P md ops Q S fuel listed a w
  | 0, _, _, _, h => h
  | _ + 1, _, _, _, h => ⟨h.1, fun i hi => wpOp_mono (fun _ _ h' => ⟨hs _ h'.1, wpAnyH_switch hs h'.2⟩) (h.2 i hi)⟩
end Go.Proofs.Ytnnengigahakaaa
