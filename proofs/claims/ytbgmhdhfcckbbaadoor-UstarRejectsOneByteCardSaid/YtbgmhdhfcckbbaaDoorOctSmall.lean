/-
  Walks of the small functions of layer 1: isDigit; validWidth and Max by OctSmallF.
-/
import Derived.Test.YtbgmhdhfcckbbaaDoorOctSmallF
namespace Go.Proofs.YtbgmhdhfcckbbaaDoor.Oct
open Go.RowKit

def odB (n : Int) : Bool := decide (48 ≤ n ∧ n ≤ 55)

set_option maxHeartbeats 400000 in
theorem digit_any (n : Int) (w : World) :
    Calls Tryd.prog 80 #[.int .u8 n] w fun e w' => e = .returned (.bool (odB n)) ∧ w = w' := by
  by_cases h1 : 48 ≤ n
  · by_cases h2 : n ≤ 55
    · have h : odB n = true := by unfold odB; simp [h1, h2]
      rw [h]; clear h
      go_enter Tryd.func80, Tryd.ntmps80
      go_wp2
      go_ret
      exact ⟨rfl, rfl⟩
    · have h : odB n = false := by unfold odB; simp [h2]
      rw [h]; clear h
      go_enter Tryd.func80, Tryd.ntmps80
      go_wp2
      go_ret
      exact ⟨rfl, rfl⟩
  · have h : odB n = false := by unfold odB; simp [h1]
    rw [h]; clear h
    go_enter Tryd.func80, Tryd.ntmps80
    go_wp2
    go_ret
    exact ⟨rfl, rfl⟩

end Go.Proofs.YtbgmhdhfcckbbaaDoor.Oct
