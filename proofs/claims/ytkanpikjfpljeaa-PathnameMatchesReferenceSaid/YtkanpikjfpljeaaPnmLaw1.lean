/-
  PathnameMatchesReference, walked.
-/
import Derived.Test.YtkanpikjfpljeaaPnmAlive
import Derived.Test.YtkanpikjfpljeaaPnmRefC
import Derived.Test.YtkanpikjfpljeaaPnmRefK
namespace Go.Proofs.Ytkanpikjfpljeaa
open Go.RowKit
open Pnm

set_option maxRecDepth 100000 in
set_option maxHeartbeats 4000000 in
theorem walk_PathnameMatchesReference (p : ByteArray) (w : World) (hp : p.size ≤ maxLen) :
    Calls Try.prog 3 #[.string p] w fun e w' => e = .returned (.bool true) ∧ Below w.heap.size w w' := by
  have HP := Lib.hid hp
  unfold maxLen at hp
  by_cases hl : 70000 < p.size
  · have hl' : (70000 : Int) < p.size := by omega
    go_enter Try.func3, Try.ntmps3
    go_wp2_with fail
    refine (alive_any w).mono ?_; rintro e w1 ⟨rfl, b1⟩
    have B1 := Lib.hid b1; clear b1
    go_wp2_with fail
    go_ret
    exact ⟨rfl, B1.out⟩
  · have hl' : ¬ (70000 : Int) < p.size := by omega
    obtain ⟨a, ha⟩ := named (strOfNums (splP (numsOf p)))
    obtain ⟨b, hb⟩ := named (strOfNums (splN (numsOf p)))
    obtain ⟨ok, hok⟩ := named (splB (numsOf p))
    obtain ⟨c, hc⟩ := named (chE (numsOf p))
    obtain ⟨d, hd⟩ := named (strOfNums (parZ (numsOf p)))
    obtain ⟨f, hf⟩ := named (strOfNums (basZ (numsOf p)))
    go_enter Try.func3, Try.ntmps3
    go_wp2_with fail
    refine (psplit p w HP.out).mono ?_; rintro e w1 ⟨rfl, b1⟩
    rw [← ha.out, ← hb.out, ← hok.out]
    have B1 := Lib.hid b1; clear b1
    go_wp2_with fail
    refine (rsplit_any p w1 HP.out).mono ?_; rintro e w2 ⟨rfl, b2⟩
    rw [← ha.out, ← hb.out, ← hok.out]
    have B2 := Lib.hid (B1.out.trans (b2.mono B1.out.size)); clear b2
    go_wp2_with fail
    refine (alive_any w2).mono ?_; rintro e w3 ⟨rfl, b3⟩
    have B3 := Lib.hid (B2.out.trans (b3.mono B2.out.size)); clear b3
    go_wp2_with fail
    refine (pcheck p w3 HP.out).mono ?_; rintro e w4 ⟨rfl, b4⟩
    rw [← hc.out]
    have B4 := Lib.hid (B3.out.trans (b4.mono B3.out.size)); clear b4
    go_wp2_with fail
    refine (rcheck_any p w4 HP.out).mono ?_; rintro e w5 ⟨rfl, rfl⟩
    rw [← hc.out]
    go_wp2_with fail
    refine (pparent p w4 HP.out).mono ?_; rintro e w5 ⟨rfl, b5⟩
    rw [← hd.out]
    have B5 := Lib.hid (B4.out.trans (b5.mono B4.out.size)); clear b5
    go_wp2_with fail
    refine (rparent_any p w5 HP.out).mono ?_; rintro e w6 ⟨rfl, rfl⟩
    rw [← hd.out]
    go_wp2_with fail
    refine (pbase p w5 HP.out).mono ?_; rintro e w6 ⟨rfl, b6⟩
    rw [← hf.out]
    have B6 := Lib.hid (B5.out.trans (b6.mono B5.out.size)); clear b6
    go_wp2_with fail
    refine (rbase_any p w6 HP.out).mono ?_; rintro e w7 ⟨rfl, rfl⟩
    rw [← hf.out]
    cases ok
    all_goals
      go_wp2_with fail
      go_ret
      exact ⟨rfl, B6.out⟩
end Go.Proofs.Ytkanpikjfpljeaa
