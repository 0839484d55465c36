/-
  Walks of the small functions of layer 1: validWidth, Max.
-/
import Derived.Test.YtbgmhdhfcckbbaaDoorRows
import Derived.Test.YtbgmhdhfcckbbaaDoorGen
import Derived.Test.YtbgmhdhfcckbbaaDoorOctMath
namespace Go.Proofs.YtbgmhdhfcckbbaaDoor.Oct
open Go.RowKit

def vwB (n : Int) : Bool := decide (2 ≤ n ∧ n ≤ 22)

theorem ret_int {k : IntKind} {a b : Int} (h : a = b) : Ending.returned (.int k a) = .returned (.int k b) := by rw [h]
theorem ret_bool {a b : Bool} (h : a = b) : Ending.returned (.bool a) = .returned (.bool b) := by rw [h]

set_option maxHeartbeats 400000 in
theorem valid_any (n : Int) (w : World) :
    Calls Tryd.prog 73 #[.int .i64 n] w fun e w' => e = .returned (.bool (vwB n)) ∧ w = w' := by
  by_cases h1 : 2 ≤ n
  · by_cases h2 : n ≤ 22
    · have h : vwB n = true := by unfold vwB; simp [h1, h2]
      rw [h]; clear h
      go_enter Tryd.func73, Tryd.ntmps73
      go_wp2
      go_ret
      exact ⟨rfl, rfl⟩
    · have h : vwB n = false := by unfold vwB; simp [h2]
      rw [h]; clear h
      go_enter Tryd.func73, Tryd.ntmps73
      go_wp2
      go_ret
      exact ⟨rfl, rfl⟩
  · have h : vwB n = false := by unfold vwB; simp [h1]
    rw [h]; clear h
    go_enter Tryd.func73, Tryd.ntmps73
    go_wp2
    go_ret
    exact ⟨rfl, rfl⟩


theorem vwB_true {n : Int} (h1 : 2 ≤ n) (h2 : n ≤ 22) : vwB n = true := by unfold vwB; simp [h1, h2]
theorem vwB_false {n : Int} (h : n < 2 ∨ 22 < n) : vwB n = false := by unfold vwB; simp; omega

set_option maxHeartbeats 400000 in
theorem max_bad (n : Int) (w : World) (h : n < 2 ∨ 22 < n) :
    Calls Tryd.prog 74 #[.int .i64 n] w fun e w' => e = .returned (.int .i64 0) ∧ w = w' := by
  have hv := vwB_false h
  clear h
  go_enter Tryd.func74, Tryd.ntmps74
  go_wp2_with (go_at_call 73; refine (valid_any _ _).mono ?_; rintro e w' ⟨rfl, rfl⟩)
  go_ret
  exact ⟨rfl, rfl⟩

set_option maxHeartbeats 400000 in
theorem max_ok (n : Int) (k : Nat) (w : World) (h1 : 1 ≤ k) (h2 : k ≤ 21) (hn : n = (k : Int) + 1) :
    Calls Tryd.prog 74 #[.int .i64 n] w fun e w' => e = .returned (.int .i64 (mx k)) ∧ w = w' := by
  have hv := vwB_true (n := n) (by omega) (by omega)
  have HN := Lib.hid hn; clear hn
  have HV := HN.out
  have h3 : 2 ≤ n := by omega
  have h4 : n ≤ 22 := by omega
  clear HV
  go_enter Tryd.func74, Tryd.ntmps74
  go_wp2_with (go_at_call 73; refine (valid_any _ _).mono ?_; rintro e w' ⟨rfl, rfl⟩)
  go_loop [3, 9] (fun t i => ∃ j : Nat, j ≤ k ∧ i = .int .i64 j ∧ t = .int .i64 (mx j)) (fun _ i => k - (intOf i).toNat)
  case atStart => exact ⟨0, Nat.zero_le _, rfl, rfl⟩
  case round =>
    obtain ⟨j, hj, rfl, rfl⟩ := hrel
    have b0 := mx_nonneg j
    by_cases hlt : j < k
    · have b1 := mx_small (k := j) (by omega)
      have HS := Lib.hid (mx_succ j)
      have hlt' : (j : Int) < n - 1 := by rw [HN.out]; omega
      go_wp2
      go_round
      case rel => exact ⟨j + 1, by omega, by go_num, by rw [HS.out]⟩
      case measure => simp [intOf]; omega
    · have hlt' : ¬ (j : Int) < n - 1 := by rw [HN.out]; omega
      obtain rfl : j = k := by omega
      go_wp2
      go_ret
      exact ⟨rfl, rfl⟩
end Go.Proofs.YtbgmhdhfcckbbaaDoor.Oct
