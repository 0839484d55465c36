/-
  The example of the chapter holds: alive returns true. Format in one form.
-/
import Derived.Test.YtbchehpjimgapaaDoorCstFormat
namespace Go.Proofs.YtbchehpjimgapaaDoor
open Go.RowKit

theorem ab_nums : numsOf { data := #[97, 98] } = [97, 98] := rfl
theorem ab_fld : strOfNums (fldS [97, 98] 4) = { data := #[97, 98, 0, 0] } := by decide
theorem ab_ok : ceF (numsOf { data := #[97, 98] }) (4 : Nat) = 0 := by decide

set_option maxHeartbeats 400000 in
theorem alive_any (w : World) :
    Calls Tryd.prog 6 #[] w fun e w' => e = .returned (.bool true) ∧ Below w.heap.size w w' := by
  go_enter Tryd.func6, Tryd.ntmps6
  go_wp2_with fail
  refine (fmt_ok _ 4 _ ab_ok).mono ?_
  rintro e w1 ⟨b, c, rfl, hrow, hlt, hbel⟩
  have hc := run_str_of (P := Tryd.prog) Tryd.underlying22 Tryd.underlying5 Tryd.underlying9 hrow 4 c rfl
  rw [ab_nums, ab_fld] at hc
  clear hrow
  go_wp2
  go_ret
  exact ⟨rfl, hbel⟩

end Go.Proofs.YtbchehpjimgapaaDoor
