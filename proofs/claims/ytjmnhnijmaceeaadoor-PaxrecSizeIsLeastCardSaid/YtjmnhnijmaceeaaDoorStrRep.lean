/-
  strings.Repeat of one byte. Nothing of the program.
-/
import Derived.Test.YtjmnhnijmaceeaaDoorGenB
import Derived.Lib.Repeat
namespace Go.Proofs.YtjmnhnijmaceeaaDoor
open Go.RowKit

theorem nums_rep (x : UInt8) (c : Nat) : numsOf ⟨(Lib.repeatL [x] c).toArray⟩ = List.replicate c (x.toNat : Int) := by
  have : ∀ c, Lib.repeatL [x] c = List.replicate c x := by
    intro c
    induction c with
    | zero => rfl
    | succ c ih => rw [Lib.repeatL, ih]; rfl
  rw [numsOf_eq, this]
  simp
end Go.Proofs.YtjmnhnijmaceeaaDoor
