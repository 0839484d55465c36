/-
  Layer 11: the walks of Blocks and of the search for a byte that is not zero.
-/
import Derived.Test.YtnnengigahakaaaPayMath
namespace Go.Proofs.Ytnnengigahakaaa
open Go.RowKit

theorem blocks_any (z : Int) (hz : z ≤ 9223372036854775807) (w : World) : Calls Try.prog 14 #[.int .i64 z] w fun e w' => e = .returned (.int .i64 (blkN z.toNat : Nat)) ∧ w = w' := by
  by_cases h0 : z ≤ 0
  · have e : blkN z.toNat = 0 := by rw [show z.toNat = 0 by omega]; rfl
    rw [e]
    clear hz e
    go_enter Try.func14, Try.ntmps14
    go_wp2
    go_ret
    exact ⟨rfl, rfl⟩
  · obtain ⟨s, rfl⟩ : ∃ s : Nat, z = s + 1 := ⟨(z - 1).toNat, by omega⟩
    have e : ((blkN ((s : Int) + 1).toNat : Nat) : Int) = (s : Int) / 512 + 1 := by
      rw [show ((s : Int) + 1).toNat = s + 1 by omega]; unfold blkN; omega
    rw [e]
    have h1 : ¬ (s : Int) + 1 ≤ 0 := by omega
    have h2 : (s : Int) + 1 - 1 = s := by omega
    have h3 : (s : Int) ≤ 9223372036854775806 := by omega
    clear h0 e hz
    go_enter Try.func14, Try.ntmps14
    go_wp2
    go_ret
    exact ⟨rfl, rfl⟩

theorem nz_any (d : Int) (w : World) : Calls Try.prog 27 #[.int .u8 d] w fun e w' => e = .returned (.bool (d != 0)) ∧ w = w' := by
  go_enter Try.func27, Try.ntmps27
  go_wp2
  go_ret
  exact ⟨rfl, rfl⟩

set_option maxHeartbeats 1000000 in
theorem ixf_any (a : Option Addr) (n c : Nat) (P : List Int) (w : World) (hi : InK .u8 w a P) (hl : P.length = n) (hn : n ≤ 9223372036854775807) :
    Calls Try.prog 26 #[.slice a n c, .func (.func 27) #[] #[]] w fun e w' => e = .returned (.int .i64 (if nzI P < n then (nzI P : Int) else -1)) ∧ w = w' := by
  have HI := Lib.hid hi; have HL := Lib.hid hl
  have hn' : (n : Int) ≤ 9223372036854775807 := by omega
  obtain ⟨R, hR⟩ := named (if nzI P < n then (nzI P : Int) else -1)
  obtain ⟨k, hk⟩ := named (nzI P)
  rw [← hR.out]
  clear hi hl hn
  go_enter Try.func26, Try.ntmps26
  go_wp2_with fail
  go_loop [5, 8] (fun _ i => ∃ j : Nat, j ≤ k ∧ i = .int .i64 j) (fun _ i => n - (intOf i).toNat)
  case atStart => exact ⟨0, Nat.zero_le _, rfl⟩
  case round =>
    obtain ⟨j, hj, rfl⟩ := hrel
    have HJ := Lib.hid hj
    clear hj
    have hkn : k ≤ n := by rw [hk.out, ← HL.out]; exact nzI_le P
    by_cases hlt : j < n
    · have hlt' : (j : Int) < n := by omega
      obtain ⟨b, off, rfl, _⟩ := HI.out.plain (by rw [HL.out]; omega)
      obtain ⟨d, hd⟩ := named (P.getD j 0)
      have hcell := HI.out.get j (by rw [HL.out]; exact hlt)
      rw [← hd.out] at hcell
      by_cases hjk : j < k
      · have hd0 : d = 0 := by rw [hd.out]; exact nzI_zero (by rw [← hk.out]; exact hjk)
        have hne : (d != 0) = false := by rw [hd0]; rfl
        clear hd hd0
        go_wp2_with fail
        refine (nz_any d w).mono ?_; rintro e w1 ⟨rfl, rfl⟩
        rw [hne]
        go_wp2_with fail
        go_round
        case rel => exact ⟨j + 1, by omega, by go_num⟩
        case measure => simp [intOf]; omega
      · obtain rfl : j = k := by have := HJ.out; omega
        have hd0 : d ≠ 0 := by rw [hd.out, hk.out]; exact nzI_lt (by rw [← hk.out, HL.out]; omega)
        have hne : (d != 0) = true := by simp [hd0]
        have hR1 : R = j := by rw [hR.out, ← hk.out, if_pos hlt]
        clear hR hd hd0
        subst hR1
        go_wp2_with fail
        refine (nz_any d w).mono ?_; rintro e w1 ⟨rfl, rfl⟩
        rw [hne]
        go_wp2_with fail
        go_ret
        exact ⟨rfl, rfl⟩
    · have hj : j = n := by have := HJ.out; omega
      have hR1 : R = -1 := by rw [hR.out, ← hk.out, if_neg (by have := HJ.out; omega)]
      clear hR
      subst hR1
      subst hj
      go_wp2_with fail
      go_ret
      exact ⟨rfl, rfl⟩
end Go.Proofs.Ytnnengigahakaaa
