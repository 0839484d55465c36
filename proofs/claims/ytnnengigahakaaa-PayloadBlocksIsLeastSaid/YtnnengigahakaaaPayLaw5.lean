/-
  PayloadBlocksIsLeast, walked.
-/
import Derived.Test.YtnnengigahakaaaPayAlive
namespace Go.Proofs.Ytnnengigahakaaa
open Go.RowKit

set_option maxHeartbeats 4000000 in
theorem walk_PayloadBlocksIsLeast (z : Int) (w : World) (hz : (Lit.int .i64 z).wf = true) :
    Calls Try.prog 7 #[.int .i64 z] w fun e w' => e = .returned (.bool true) ∧ Below w.heap.size w w' := by
  obtain ⟨z0, z1⟩ := bounds_i64 hz
  clear hz
  by_cases h0 : z ≤ 0
  · have e0 : ((blkN z.toNat : Nat) : Int) = 0 := by rw [show z.toNat = 0 by omega]; rfl
    go_enter Try.func7, Try.ntmps7
    go_wp2_with fail
    refine (blocks_any z z1 w).mono ?_; rintro e w1 ⟨rfl, rfl⟩
    rw [e0]
    go_wp2_with fail
    refine (alive_any w).mono ?_; rintro e w2 ⟨rfl, b2⟩
    go_wp2_with fail
    go_ret
    exact ⟨rfl, b2⟩
  · obtain ⟨n, hn⟩ := named (blkN z.toNat)
    have f1 : (1 : Int) ≤ n := by have := blkN_pos (s := z.toNat) (by omega); have := hn.out; omega
    have f2 : (n : Int) ≤ 18014398509481984 := by have := hn.out; unfold blkN at this; omega
    have f3 : ((n : Int) - 1) * 512 < z := by have := hn.out; unfold blkN at this; omega
    have f4 : z - ((n : Int) - 1) * 512 ≤ 512 := by have := hn.out; unfold blkN at this; omega
    obtain ⟨x, hx⟩ : ∃ x : Int, ((n : Int) - 1) * 512 = x := ⟨_, rfl⟩
    rw [hx] at f3 f4
    have f5 : 0 ≤ x := by omega
    go_enter Try.func7, Try.ntmps7
    go_wp2_with fail
    refine (blocks_any z z1 w).mono ?_; rintro e w1 ⟨rfl, rfl⟩
    rw [← hn.out]
    go_wp2_with fail
    refine (alive_any w).mono ?_; rintro e w2 ⟨rfl, b2⟩
    go_wp2_with fail
    go_ret
    exact ⟨rfl, b2⟩
end Go.Proofs.Ytnnengigahakaaa
