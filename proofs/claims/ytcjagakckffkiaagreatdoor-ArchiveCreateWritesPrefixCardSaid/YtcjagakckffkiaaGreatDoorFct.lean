/-
  Closed facts on the whole program, each by itself: the kernel asks some gigabytes for each.
-/
import Derived.Test.YtcjagakckffkiaaGreatDoorChecked
import Derived.ProofKit
import Derived.JoinedOf
import Derived.SevenTiedAt
namespace Go.Proofs.YtcjagakckffkiaaGreatDoor.Fct
open Go.ChangeShapes Go.WideShapes Go.ChangeAt Go.RowKit

theorem laidOut : laidOutB Tryz.checked.prog = true := by kernel_rfl
theorem mapsRowed : Go.mapsRowed Tryz.checked.prog = true := by kernel_rfl
theorem stops : (Tryz.checked.prog.stops == []) = true := by kernel_rfl
theorem knobs : (Tryz.checked.prog.stopKnobs == []) = true := by kernel_rfl
theorem plainKeys : Tryz.checked.prog.plainKeys = true := by kernel_rfl
theorem lifts : Tryz.checked.prog.liftsFinal = false := by kernel_rfl
theorem make : Tryz.checked.prog.make = some .cut := by kernel_rfl
theorem heard : Tryz.checked.prog.stopsHeard = true := by kernel_rfl
theorem enter : Tryz.checked.prog.mayEnter = true := by kernel_rfl
theorem looks : true = Tryz.checked.prog.looks [] := by kernel_rfl
theorem main : Tryz.checked.prog.mainIs = some (true, ("27c61408b14d384d66d888a4d68bc2c32a1b10f80d106d659f3a841be4402673" : String).toList) := by kernel_rfl
theorem and2 {a b : Bool} (h : a = true) (k : b = true) : (a && b) = true := by subst h; subst k; rfl
end Go.Proofs.YtcjagakckffkiaaGreatDoor.Fct
