/-
  The elements of []byte and []int; the chunk size with a number.
-/
import Derived.Test.YtmbimnnacjbdfaaDoorRows
import Derived.Test.YtmbimnnacjbdfaaDoorPk03
import Derived.Deep.QuietTactic
import Derived.BigQuiet
import Derived.BigRegion
namespace Go.Proofs.YtmbimnnacjbdfaaDoor
open Go.RowKit

theorem u8T : ElemT Tryd.prog 5 .u8 1 := elemT (by kernel_rfl)

theorem i64T : ElemT Tryd.prog 3 .i64 8 := elemT (by kernel_rfl)

/-- the chunk size with the number r -/
def chunkZ (cs : List Int) (r : Nat) : Int := if cs.length = 0 then 1048576 else max (cs.getD (r % cs.length) 0) 1

theorem chunkZ_pos (cs : List Int) (r : Nat) : 1 ≤ chunkZ cs r := by unfold chunkZ; split <;> omega

/-- where the sequence stands behind r reads -/
def ixN (cs : List Int) (r : Nat) : Nat := if cs.length = 0 then 0 else r % cs.length
end Go.Proofs.YtmbimnnacjbdfaaDoor
