/-
  The examples of the chapter hold: alive returns true.
-/
import Derived.Test.YtbhcjdjgmaapjaaOctRef
namespace Go.Proofs.Ytbhcjdjgmaapjaa
open Go.RowKit

theorem fld_420 : strOfNums (fld 7 420) = { data := #[48, 48, 48, 48, 54, 52, 52, 0] } := by decide
theorem mx_11 : mx 11 = 8589934591 := by decide

set_option maxHeartbeats 400000 in
theorem alive_any (w : World) :
    Calls Try.prog 12 #[] w fun e w' => e = .returned (.bool true) ∧ Below w.heap.size w w' := by
  go_enter Try.func12, Try.ntmps12
  go_wp2_with (first | (go_at_call 10; refine (fmt_ok 420 8 7 _ (by decide) (by decide) (by decide) (by decide) (by decide)).mono ?_; rintro e w1 ⟨rfl, hown, hbel⟩; have hc := run_str_of (P := Try.prog) Try.underlying22 Try.underlying5 Try.underlying9 (RowAt.of_own hown (fld_bd 7 420)) 8 8 rfl; rw [fld_420] at hc; clear hown) | (go_at_call 13; refine (max_ok 12 11 _ (by decide) (by decide) (by decide)).mono ?_; rintro e w2 ⟨rfl, rfl⟩; rw [mx_11]))
  go_ret
  exact ⟨rfl, hbel⟩

/-- n has a field of wd bytes -/
def FmtOk (n wd : Int) (k : Nat) : Prop := wd = (k : Int) + 1 ∧ 1 ≤ k ∧ k ≤ 21 ∧ 0 ≤ n ∧ n ≤ mx k
def FmtErr (w : World) (e : Ending) (w' : World) : Prop := ∃ E : Int, e = .returned (.tuple #[.slice none 0 0, .int .i64 E]) ∧ (E = 2 ∨ E = 3) ∧ w = w'
theorem fmt_err (n wd : Int) (w : World) (h : ∀ k, ¬ FmtOk n wd k) : Calls Try.prog 10 #[.int .i64 n, .int .i64 wd] w (FmtErr w) := by
  by_cases h1 : wd < 2 ∨ 22 < wd
  · exact (fmt_bad n wd w h1).mono fun e w' h => ⟨2, h.1, .inl rfl, h.2⟩
  · obtain ⟨k, hk⟩ : ∃ k : Nat, wd = (k : Int) + 1 ∧ 1 ≤ k ∧ k ≤ 21 := ⟨(wd - 1).toNat, by omega⟩
    by_cases h2 : n < 0 ∨ mx k < n
    · exact (fmt_range n wd k w hk.2.1 hk.2.2 hk.1 h2).mono fun e w' h => ⟨3, h.1, .inr rfl, h.2⟩
    · exact absurd ⟨hk.1, hk.2.1, hk.2.2, by omega, by omega⟩ (h k)
theorem fmt_is (n wd : Int) (k : Nat) (w : World) (h : FmtOk n wd k) :
    Calls Try.prog 10 #[.int .i64 n, .int .i64 wd] w fun e w' => e = .returned (.tuple #[.slice (some ⟨w.heap.size, 0, none⟩) (k + 1) (k + 1), .int .i64 0]) ∧
      w'.ownsRow w.heap.size 5 1 (.slice (some ⟨w.heap.size, 0, none⟩) (k + 1) (k + 1)) (k + 1) ((fld k n).map (.int .u8)) ∧ Below w.heap.size w w' :=
  fmt_ok n wd k w h.2.1 h.2.2.1 h.1 h.2.2.2.1 h.2.2.2.2

end Go.Proofs.Ytbhcjdjgmaapjaa
