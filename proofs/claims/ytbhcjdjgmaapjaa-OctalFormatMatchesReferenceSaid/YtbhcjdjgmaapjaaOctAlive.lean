/-
  The examples of the chapter hold: alive returns true.
-/
import Derived.Test.YtbhcjdjgmaapjaaOctRef
namespace Go.Proofs.Ytbhcjdjgmaapjaa
open Go.RowKit

theorem fld_420 : strOfNums (fld 7 420) = { data := #[48, 48, 48, 48, 54, 52, 52, 0] } := by decide
theorem mx_11 : mx 11 = 8589934591 := by decide

set_option maxHeartbeats 400000 in
theorem alive_any (w : World) :
    Calls Try.prog 12 #[] w fun e w' => e = .returned (.bool true) ∧ Below w.heap.size w w' := by
  go_enter Try.func12, Try.ntmps12
  go_wp2_with (first | (go_at_call 10; refine (fmt_ok 420 8 7 _ (by decide) (by decide) (by decide) (by decide) (by decide)).mono ?_; rintro e w1 ⟨rfl, hown, hbel⟩; have hc := run_str_of (P := Try.prog) Try.underlying22 Try.underlying5 Try.underlying9 (RowAt.of_own hown (fld_bd 7 420)) 8 8 rfl; rw [fld_420] at hc; clear hown) | (go_at_call 13; refine (max_ok 12 11 _ (by decide) (by decide) (by decide)).mono ?_; rintro e w2 ⟨rfl, rfl⟩; rw [mx_11]))
  go_ret
  exact ⟨rfl, hbel⟩

end Go.Proofs.Ytbhcjdjgmaapjaa
