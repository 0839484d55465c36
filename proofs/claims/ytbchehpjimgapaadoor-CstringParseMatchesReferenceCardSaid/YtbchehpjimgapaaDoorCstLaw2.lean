/-
  CstringParseMatchesReference, walked.
-/
import Derived.Test.YtbchehpjimgapaaDoorCstAlive
import Derived.Test.YtbchehpjimgapaaDoorCstRefP
namespace Go.Proofs.YtbchehpjimgapaaDoor
open Go.RowKit

set_option maxHeartbeats 1000000 in
theorem walk_CstringParseMatchesReference (a : Option Addr) (len cap : Nat) (zs : List Int) (w : World) (h : ArgInts .u8 w a len cap zs) :
    Calls Tryd.prog 3 #[.slice a len cap] w fun e w' => e = .returned (.bool true) ∧ Below w.heap.size w w' := by
  have hlc := h.2.1
  have HM := Lib.hid h.2.2.1
  have hm : len ≤ maxLen := Nat.le_trans hlc h.2.2.1
  have hz := Lib.hid h.1
  have hb := Lib.hid h.bytes
  clear h
  unfold maxLen at hm
  by_cases hl : (2000 : Int) < len
  · go_enter Tryd.func3, Tryd.ntmps3
    go_wp2_with fail
    refine (alive_any _).mono ?_; rintro e w1 ⟨rfl, hb1⟩
    go_wp2
    go_ret
    exact ⟨rfl, hb1⟩
  · go_enter Tryd.func3, Tryd.ntmps3
    go_wp2_with fail
    refine (parse_in _ _ _ zs _ hb.out hz.out hlc HM.out).mono ?_; rintro e w1 ⟨rfl, rfl⟩
    go_wp2_with fail
    refine (rparse_in _ _ _ zs _ hb.out hz.out hlc HM.out).mono ?_; rintro e w1 ⟨rfl, rfl⟩
    go_wp2_with fail
    refine (alive_any _).mono ?_; rintro e w1 ⟨rfl, hb1⟩
    go_wp2
    go_ret
    exact ⟨rfl, hb1⟩

end Go.Proofs.YtbchehpjimgapaaDoor
