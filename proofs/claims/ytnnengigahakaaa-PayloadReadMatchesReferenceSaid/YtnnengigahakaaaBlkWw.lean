/-
  Layer 6: what a writer accepts, and how many bytes Pad writes. No memory.
-/
import Derived.Test.YtnnengigahakaaaSnkMath
namespace Go.Proofs.Ytnnengigahakaaa
/-- how many of n bytes a writer's Write accepts, its error behind it -/
def wwK (F : Int) (L n : Nat) (err : Int) : Nat := if err = 0 then allK F L n else 0
def wwE (F : Int) (L n : Nat) (err : Int) : Int := if err = 0 then allE F L n else err

/-- how many bytes Pad writes -/
def padN (o : Nat) : Nat := (512 - o % 512) % 512
end Go.Proofs.Ytnnengigahakaaa
