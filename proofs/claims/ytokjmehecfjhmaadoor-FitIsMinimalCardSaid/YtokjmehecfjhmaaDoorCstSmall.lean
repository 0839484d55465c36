/-
  Walks of the small functions of layer 2: validWidth, the search of a zero byte, check, Fits.
-/
import Derived.Test.YtokjmehecfjhmaaDoorRows
import Derived.Test.YtokjmehecfjhmaaDoorCstMath
namespace Go.Proofs.YtokjmehecfjhmaaDoor.Cst
open Go.RowKit

def vwB (n : Int) : Bool := decide (1 ≤ n ∧ n ≤ 256)

set_option maxHeartbeats 400000 in
theorem valid_any (n : Int) (w : World) :
    Calls Tryd.prog 73 #[.int .i64 n] w fun e w' => e = .returned (.bool (vwB n)) ∧ w = w' := by
  by_cases h1 : 1 ≤ n
  · by_cases h2 : n ≤ 256
    · have h : vwB n = true := by unfold vwB; simp [h1, h2]
      rw [h]; clear h
      go_enter Tryd.func73, Tryd.ntmps73
      go_wp2
      go_ret
      exact ⟨rfl, rfl⟩
    · have h : vwB n = false := by unfold vwB; simp [h2]
      rw [h]; clear h
      go_enter Tryd.func73, Tryd.ntmps73
      go_wp2
      go_ret
      exact ⟨rfl, rfl⟩
  · have h : vwB n = false := by unfold vwB; simp [h1]
    rw [h]; clear h
    go_enter Tryd.func73, Tryd.ntmps73
    go_wp2
    go_ret
    exact ⟨rfl, rfl⟩

theorem vwB_true {n : Int} (h1 : 1 ≤ n) (h2 : n ≤ 256) : vwB n = true := by unfold vwB; simp [h1, h2]
theorem vwB_false {n : Int} (h : n < 1 ∨ 256 < n) : vwB n = false := by unfold vwB; simp; omega

set_option maxRecDepth 20000 in
set_option maxHeartbeats 1000000 in
theorem idx_any (s : ByteArray) (w : World) :
    Calls Tryd.prog 38 #[.string s, .int .u8 0] w fun e w' => e = .returned (.int .i64 (Lib.indexByte s.data.toList 0)) ∧ w = w' := by
  go_enter Tryd.func38, Tryd.ntmps38
  go_wp2
  rw [run_callFunc_extern Tryd.func64 (by kernel_rfl) (by kernel_rfl) (by kernel_rfl) (e := Extern.BytealgIndexByte.indexByte) (by kernel_rfl), Lib.run_indexByteString s 0 w]
  simp only [Result.andThen]
  rw [Oper.upon_value]
  go_wp2
  go_ret
  exact ⟨rfl, rfl⟩

set_option maxHeartbeats 1000000 in
theorem check_any (s : ByteArray) (wd : Int) (w : World) :
    Calls Tryd.prog 63 #[.string s, .int .i64 wd] w fun e w' => e = .returned (.int .i64 (ceF (numsOf s) wd)) ∧ w = w' := by
  have hl := numsOf_length s
  by_cases h1 : wd < 1 ∨ 256 < wd
  · have hv := vwB_false h1
    have he : ceF (numsOf s) wd = 2 := by unfold ceF; rw [if_pos h1]
    rw [he]; clear h1 he
    go_enter Tryd.func63, Tryd.ntmps63
    go_wp2_with (go_at_call 73; refine (valid_any _ _).mono ?_; rintro e w' ⟨rfl, rfl⟩)
    go_ret
    exact ⟨rfl, rfl⟩
  · have hv := vwB_true (n := wd) (by omega) (by omega)
    obtain ⟨k, HK⟩ := named (Lib.indexByte s.data.toList 0)
    have hk := idx_str s
    rw [← HK.out] at hk
    by_cases h2 : (0 : Int) ∈ numsOf s
    · have hp := hk.2 h2
      have he : ceF (numsOf s) wd = 6 := by unfold ceF; rw [if_neg h1, if_pos h2]
      rw [he]; clear h1 he hk h2
      go_enter Tryd.func63, Tryd.ntmps63
      go_wp2_with (first | (go_at_call 73; refine (valid_any _ _).mono ?_; rintro e w' ⟨rfl, rfl⟩) | (go_at_call 38; refine (idx_any _ _).mono ?_; rintro e w' ⟨rfl, rfl⟩; rw [← HK.out]))
      go_ret
      exact ⟨rfl, rfl⟩
    · have hp : ¬ 0 ≤ k := fun h => h2 (hk.1 h)
      by_cases h3 : wd < s.size
      · have he : ceF (numsOf s) wd = 7 := by unfold ceF; rw [if_neg h1, if_neg h2, if_pos (by omega)]
        rw [he]; clear h1 he hk h2 hl
        go_enter Tryd.func63, Tryd.ntmps63
        go_wp2_with (first | (go_at_call 73; refine (valid_any _ _).mono ?_; rintro e w' ⟨rfl, rfl⟩) | (go_at_call 38; refine (idx_any _ _).mono ?_; rintro e w' ⟨rfl, rfl⟩; rw [← HK.out]))
        go_ret
        exact ⟨rfl, rfl⟩
      · have he : ceF (numsOf s) wd = 0 := by unfold ceF; rw [if_neg h1, if_neg h2, if_neg (by omega)]
        rw [he]; clear h1 he hk h2 hl
        go_enter Tryd.func63, Tryd.ntmps63
        go_wp2_with (first | (go_at_call 73; refine (valid_any _ _).mono ?_; rintro e w' ⟨rfl, rfl⟩) | (go_at_call 38; refine (idx_any _ _).mono ?_; rintro e w' ⟨rfl, rfl⟩; rw [← HK.out]))
        go_ret
        exact ⟨rfl, rfl⟩

end Go.Proofs.YtokjmehecfjhmaaDoor.Cst
