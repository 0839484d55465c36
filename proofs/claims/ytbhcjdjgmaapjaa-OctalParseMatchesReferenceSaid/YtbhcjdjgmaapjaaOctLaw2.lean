/-
  OctalParseMatchesReference, walked.
-/
import Derived.Test.YtbhcjdjgmaapjaaOctAlive
namespace Go.Proofs.Ytbhcjdjgmaapjaa
open Go.RowKit

set_option maxHeartbeats 1000000 in
theorem walk_OctalParseMatchesReference (a : Option Addr) (len cap : Nat) (zs : List Int) (w : World) (h : ArgInts .u8 w a len cap zs) :
    Calls Try.prog 4 #[.slice a len cap] w fun e w' => e = .returned (.bool true) ∧ Below w.heap.size w w' := by
  have hm : len ≤ maxLen := Nat.le_trans h.2.1 h.2.2.1
  have hz := Lib.hid h.1
  have hb := Lib.hid h.bytes
  have HM := Lib.hid hm
  clear h
  unfold maxLen at hm
  by_cases hl : (1000 : Int) < len
  · go_enter Try.func4, Try.ntmps4
    go_wp2_with (go_at_call 12; refine (alive_any _).mono ?_; rintro e w1 ⟨rfl, hb⟩)
    go_ret
    exact ⟨rfl, hb⟩
  · go_enter Try.func4, Try.ntmps4
    go_wp2_with (first | (go_at_call 15; refine (parse_in _ _ _ zs _ hb.out hz.out HM.out).mono ?_; rintro e w1 ⟨rfl, rfl⟩) | (go_at_call 16; refine (rparse_in _ _ _ zs _ hb.out hz.out HM.out).mono ?_; rintro e w1 ⟨rfl, rfl⟩) | (go_at_call 12; refine (alive_any _).mono ?_; rintro e w1 ⟨rfl, hb⟩))
    go_ret
    exact ⟨rfl, hb⟩

end Go.Proofs.Ytbhcjdjgmaapjaa
