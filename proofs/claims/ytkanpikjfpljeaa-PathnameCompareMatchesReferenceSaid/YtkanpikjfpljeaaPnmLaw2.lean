/-
  PathnameCompareMatchesReference, walked.
-/
import Derived.Test.YtkanpikjfpljeaaPnmAlive
import Derived.Test.YtkanpikjfpljeaaPnmRefC
namespace Go.Proofs.Ytkanpikjfpljeaa
open Go.RowKit
open Pnm

set_option maxRecDepth 100000 in
set_option maxHeartbeats 4000000 in
theorem walk_PathnameCompareMatchesReference (a b : ByteArray) (w : World) (ha : a.size ≤ maxLen) (hb : b.size ≤ maxLen) :
    Calls Try.prog 4 #[.string a, .string b] w fun e w' => e = .returned (.bool true) ∧ Below w.heap.size w w' := by
  have HA := Lib.hid ha; have HB := Lib.hid hb
  unfold maxLen at ha hb
  by_cases h1 : 3000 < a.size
  · have h1' : (3000 : Int) < a.size := by omega
    go_enter Try.func4, Try.ntmps4
    go_wp2_with fail
    refine (alive_any w).mono ?_; rintro e w1 ⟨rfl, b1⟩
    have B1 := Lib.hid b1; clear b1
    go_wp2_with fail
    go_ret
    exact ⟨rfl, B1.out⟩
  · have h1' : ¬ (3000 : Int) < a.size := by omega
    by_cases h2 : 3000 < b.size
    · have h2' : (3000 : Int) < b.size := by omega
      go_enter Try.func4, Try.ntmps4
      go_wp2_with fail
      refine (alive_any w).mono ?_; rintro e w1 ⟨rfl, b1⟩
      have B1 := Lib.hid b1; clear b1
      go_wp2_with fail
      go_ret
      exact ⟨rfl, B1.out⟩
    · have h2' : ¬ (3000 : Int) < b.size := by omega
      have ZA : Hid (a.size ≤ 1000000) := by show _ ≤ _; omega
      have ZB : Hid (b.size ≤ 1000000) := by show _ ≤ _; omega
      obtain ⟨c, hc⟩ := named (cmpZ (numsOf a) (numsOf b))
      obtain ⟨j, hj⟩ := named (strOfNums (joinZ (numsOf a) (numsOf b)))
      go_enter Try.func4, Try.ntmps4
      go_wp2_with fail
      refine (alive_any w).mono ?_; rintro e w1 ⟨rfl, b1⟩
      have B1 := Lib.hid b1; clear b1
      go_wp2_with fail
      refine (pcompare a b w1 HA.out HB.out).mono ?_; rintro e w2 ⟨rfl, b2⟩
      rw [← hc.out]
      have B2 := Lib.hid (B1.out.trans (b2.mono B1.out.size)); clear b2
      go_wp2_with fail
      refine (rcmp_any a b w2 HA.out).mono ?_; rintro e w3 ⟨rfl, b3⟩
      rw [← hc.out]
      have B3 := Lib.hid (B2.out.trans (b3.mono B2.out.size)); clear b3
      go_wp2_with fail
      refine (pjoin a b w3 ZA.out ZB.out).mono ?_; rintro e w4 ⟨rfl, b4⟩
      rw [← hj.out]
      have B4 := Lib.hid (B3.out.trans (b4.mono B3.out.size)); clear b4
      go_wp2_with fail
      refine (rjoin_any a b w4 ZA.out ZB.out).mono ?_; rintro e w5 ⟨rfl, rfl⟩
      rw [← hj.out]
      go_wp2_with fail
      go_ret
      exact ⟨rfl, B4.out⟩
end Go.Proofs.Ytkanpikjfpljeaa
