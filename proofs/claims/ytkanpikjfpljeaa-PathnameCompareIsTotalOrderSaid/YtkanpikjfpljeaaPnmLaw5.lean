/-
  PathnameCompareIsTotalOrder, walked.
-/
import Derived.Test.YtkanpikjfpljeaaPnmAlive
namespace Go.Proofs.Ytkanpikjfpljeaa
open Go.RowKit
open Pnm

set_option maxRecDepth 100000 in
set_option maxHeartbeats 8000000 in
theorem walk_PathnameCompareIsTotalOrder (a b c : ByteArray) (w : World) (ha : a.size ≤ maxLen) (hb : b.size ≤ maxLen) (hc : c.size ≤ maxLen) :
    Calls Try.prog 7 #[.string a, .string b, .string c] w fun e w' => e = .returned (.bool true) ∧ Below w.heap.size w w' := by
  have HA := Lib.hid ha; have HB := Lib.hid hb; have HC := Lib.hid hc
  unfold maxLen at ha hb hc
  have ia : (a.size : Int) ≤ 9223372036854775807 := by omega
  have ib : (b.size : Int) ≤ 9223372036854775807 := by omega
  have ic : (c.size : Int) ≤ 9223372036854775807 := by omega
  obtain ⟨m, hm⟩ : ∃ m, IntKind.i64.wrap ((a.size : Int) + b.size) = m := ⟨_, rfl⟩
  obtain ⟨n, hn⟩ : ∃ n, IntKind.i64.wrap (m + (c.size : Int)) = n := ⟨_, rfl⟩
  clear ha hb hc
  by_cases big : 3000 < n
  · go_enter Try.func7, Try.ntmps7
    go_wp2_with fail
    refine (alive_any w).mono ?_; rintro e w1 ⟨rfl, b1⟩
    have B1 := Lib.hid b1; clear b1
    go_wp2_with fail
    go_ret
    exact ⟨rfl, B1.out⟩
  · have big' : decide (3000 < n) = false := by simpa using big
    obtain ⟨y, hy⟩ := named (cmpZ (numsOf b) (numsOf c))
    obtain ⟨z, hz⟩ := named (cmpZ (numsOf a) (numsOf c))
    have CY : Hid (cmpZ (numsOf b) (numsOf c) = y) := hy.out.symm
    have CZ : Hid (cmpZ (numsOf a) (numsOf c) = z) := hz.out.symm
    have t1 : cmpZ (numsOf a) (numsOf b) ≤ 0 → y ≤ 0 → z ≤ 0 := fun h1 h2 => by rw [hz.out]; exact cmp_trans _ _ _ h1 (by rw [← hy.out]; exact h2)
    have t2 : 0 ≤ cmpZ (numsOf a) (numsOf b) → 0 ≤ y → 0 ≤ z := fun h1 h2 => by
      have := cmp_trans (numsOf c) (numsOf b) (numsOf a) (by rw [cmp_neg, ← hy.out]; omega) (by rw [cmp_neg]; omega)
      rw [cmp_neg, ← hz.out] at this; omega
    have tn : cmpZ (numsOf b) (numsOf a) = - cmpZ (numsOf a) (numsOf b) := cmp_neg _ _
    clear hy hz
    rcases cmp_cases (numsOf a) (numsOf b) with hx | hx | hx
    · rw [hx] at t1 t2 tn
      have CX := Lib.hid hx; have CN : Hid (cmpZ (numsOf b) (numsOf a) = 1) := tn
      have hne : (a.toList == b.toList) = false := bytes_neq (fun e => by rw [e] at hx; have := (cmp_eq (numsOf b) (numsOf b)).2 rfl; omega)
      by_cases hy0 : 0 < y
      · clear t1 t2 tn hx
        go_enter Try.func7, Try.ntmps7
        go_wp2_with fail
        refine (pcompare a b w HA.out HB.out).mono ?_; rintro e w1 ⟨rfl, b1⟩
        rw [CX.out]
        have B1 := Lib.hid b1; clear b1
        go_wp2_with fail
        refine (pcompare b c w1 HB.out HC.out).mono ?_; rintro e w2 ⟨rfl, b2⟩
        rw [CY.out]
        have B2 := Lib.hid (B1.out.trans (b2.mono B1.out.size)); clear b2
        go_wp2_with fail
        refine (pcompare a c w2 HA.out HC.out).mono ?_; rintro e w3 ⟨rfl, b3⟩
        rw [CZ.out]
        have B3 := Lib.hid (B2.out.trans (b3.mono B2.out.size)); clear b3
        go_wp2_with fail
        refine (alive_any w3).mono ?_; rintro e w4 ⟨rfl, b4⟩
        have B4 := Lib.hid (B3.out.trans (b4.mono B3.out.size)); clear b4
        go_wp2_with fail
        refine (pcompare b a w4 HB.out HA.out).mono ?_; rintro e w5 ⟨rfl, b5⟩
        rw [CN.out]
        have B5 := Lib.hid (B4.out.trans (b5.mono B4.out.size)); clear b5
        go_wp2_with fail
        go_ret
        exact ⟨rfl, B5.out⟩
      · have hz0 : z ≤ 0 := t1 (by decide) (by omega)
        have hy1 : decide (0 < y) = false := by simpa using hy0
        clear t1 t2 tn hx hy0
        go_enter Try.func7, Try.ntmps7
        go_wp2_with fail
        refine (pcompare a b w HA.out HB.out).mono ?_; rintro e w1 ⟨rfl, b1⟩
        rw [CX.out]
        have B1 := Lib.hid b1; clear b1
        go_wp2_with fail
        refine (pcompare b c w1 HB.out HC.out).mono ?_; rintro e w2 ⟨rfl, b2⟩
        rw [CY.out]
        have B2 := Lib.hid (B1.out.trans (b2.mono B1.out.size)); clear b2
        go_wp2_with fail
        refine (pcompare a c w2 HA.out HC.out).mono ?_; rintro e w3 ⟨rfl, b3⟩
        rw [CZ.out]
        have B3 := Lib.hid (B2.out.trans (b3.mono B2.out.size)); clear b3
        go_wp2_with fail
        refine (alive_any w3).mono ?_; rintro e w4 ⟨rfl, b4⟩
        have B4 := Lib.hid (B3.out.trans (b4.mono B3.out.size)); clear b4
        go_wp2_with fail
        refine (pcompare b a w4 HB.out HA.out).mono ?_; rintro e w5 ⟨rfl, b5⟩
        rw [CN.out]
        have B5 := Lib.hid (B4.out.trans (b5.mono B4.out.size)); clear b5
        go_wp2_with fail
        go_ret
        exact ⟨rfl, B5.out⟩
    · rw [hx] at t1 t2 tn
      obtain rfl : a = b := by rw [← strOfNums_numsOf a, (cmp_eq _ _).1 hx, strOfNums_numsOf]
      have CX := Lib.hid hx; have CN : Hid (cmpZ (numsOf a) (numsOf a) = 0) := hx
      have t3 := t1 (by decide)
      have t4 := t2 (by decide)
      by_cases hy0 : 0 < y
      · have hz0 : 0 ≤ z := t4 (by omega)
        have hy1 : decide (y < 0) = false := by simp; omega
        clear t1 t2 tn hx t3 t4
        go_enter Try.func7, Try.ntmps7
        go_wp2_with fail
        refine (pcompare a a w HA.out HA.out).mono ?_; rintro e w1 ⟨rfl, b1⟩
        rw [CX.out]
        have B1 := Lib.hid b1; clear b1
        go_wp2_with fail
        refine (pcompare a c w1 HA.out HC.out).mono ?_; rintro e w2 ⟨rfl, b2⟩
        rw [CY.out]
        have B2 := Lib.hid (B1.out.trans (b2.mono B1.out.size)); clear b2
        go_wp2_with fail
        refine (pcompare a c w2 HA.out HC.out).mono ?_; rintro e w3 ⟨rfl, b3⟩
        rw [CZ.out]
        have B3 := Lib.hid (B2.out.trans (b3.mono B2.out.size)); clear b3
        go_wp2_with fail
        refine (alive_any w3).mono ?_; rintro e w4 ⟨rfl, b4⟩
        have B4 := Lib.hid (B3.out.trans (b4.mono B3.out.size)); clear b4
        go_wp2_with fail
        refine (pcompare a a w4 HA.out HA.out).mono ?_; rintro e w5 ⟨rfl, b5⟩
        rw [CN.out]
        have B5 := Lib.hid (B4.out.trans (b5.mono B4.out.size)); clear b5
        go_wp2_with fail
        go_ret
        exact ⟨rfl, B5.out⟩
      · have hy2 : decide (0 < y) = false := by simpa using hy0
        have hz0 : z ≤ 0 := t3 (by omega)
        by_cases hy1 : y < 0
        · clear t1 t2 tn hx t3 t4 hy0
          go_enter Try.func7, Try.ntmps7
          go_wp2_with fail
          refine (pcompare a a w HA.out HA.out).mono ?_; rintro e w1 ⟨rfl, b1⟩
          rw [CX.out]
          have B1 := Lib.hid b1; clear b1
          go_wp2_with fail
          refine (pcompare a c w1 HA.out HC.out).mono ?_; rintro e w2 ⟨rfl, b2⟩
          rw [CY.out]
          have B2 := Lib.hid (B1.out.trans (b2.mono B1.out.size)); clear b2
          go_wp2_with fail
          refine (pcompare a c w2 HA.out HC.out).mono ?_; rintro e w3 ⟨rfl, b3⟩
          rw [CZ.out]
          have B3 := Lib.hid (B2.out.trans (b3.mono B2.out.size)); clear b3
          go_wp2_with fail
          refine (alive_any w3).mono ?_; rintro e w4 ⟨rfl, b4⟩
          have B4 := Lib.hid (B3.out.trans (b4.mono B3.out.size)); clear b4
          go_wp2_with fail
          refine (pcompare a a w4 HA.out HA.out).mono ?_; rintro e w5 ⟨rfl, b5⟩
          rw [CN.out]
          have B5 := Lib.hid (B4.out.trans (b5.mono B4.out.size)); clear b5
          go_wp2_with fail
          go_ret
          exact ⟨rfl, B5.out⟩
        · have hz1 : 0 ≤ z := t4 (by omega)
          have hy3 : decide (y < 0) = false := by simpa using hy1
          clear t1 t2 tn hx t3 t4 hy0 hy1
          go_enter Try.func7, Try.ntmps7
          go_wp2_with fail
          refine (pcompare a a w HA.out HA.out).mono ?_; rintro e w1 ⟨rfl, b1⟩
          rw [CX.out]
          have B1 := Lib.hid b1; clear b1
          go_wp2_with fail
          refine (pcompare a c w1 HA.out HC.out).mono ?_; rintro e w2 ⟨rfl, b2⟩
          rw [CY.out]
          have B2 := Lib.hid (B1.out.trans (b2.mono B1.out.size)); clear b2
          go_wp2_with fail
          refine (pcompare a c w2 HA.out HC.out).mono ?_; rintro e w3 ⟨rfl, b3⟩
          rw [CZ.out]
          have B3 := Lib.hid (B2.out.trans (b3.mono B2.out.size)); clear b3
          go_wp2_with fail
          refine (alive_any w3).mono ?_; rintro e w4 ⟨rfl, b4⟩
          have B4 := Lib.hid (B3.out.trans (b4.mono B3.out.size)); clear b4
          go_wp2_with fail
          refine (pcompare a a w4 HA.out HA.out).mono ?_; rintro e w5 ⟨rfl, b5⟩
          rw [CN.out]
          have B5 := Lib.hid (B4.out.trans (b5.mono B4.out.size)); clear b5
          go_wp2_with fail
          go_ret
          exact ⟨rfl, B5.out⟩
    · rw [hx] at t1 t2 tn
      have CX := Lib.hid hx; have CN : Hid (cmpZ (numsOf b) (numsOf a) = -1) := tn
      have hne : (a.toList == b.toList) = false := bytes_neq (fun e => by rw [e] at hx; have := (cmp_eq (numsOf b) (numsOf b)).2 rfl; omega)
      by_cases hy0 : y < 0
      · clear t1 t2 tn hx
        go_enter Try.func7, Try.ntmps7
        go_wp2_with fail
        refine (pcompare a b w HA.out HB.out).mono ?_; rintro e w1 ⟨rfl, b1⟩
        rw [CX.out]
        have B1 := Lib.hid b1; clear b1
        go_wp2_with fail
        refine (pcompare b c w1 HB.out HC.out).mono ?_; rintro e w2 ⟨rfl, b2⟩
        rw [CY.out]
        have B2 := Lib.hid (B1.out.trans (b2.mono B1.out.size)); clear b2
        go_wp2_with fail
        refine (pcompare a c w2 HA.out HC.out).mono ?_; rintro e w3 ⟨rfl, b3⟩
        rw [CZ.out]
        have B3 := Lib.hid (B2.out.trans (b3.mono B2.out.size)); clear b3
        go_wp2_with fail
        refine (alive_any w3).mono ?_; rintro e w4 ⟨rfl, b4⟩
        have B4 := Lib.hid (B3.out.trans (b4.mono B3.out.size)); clear b4
        go_wp2_with fail
        refine (pcompare b a w4 HB.out HA.out).mono ?_; rintro e w5 ⟨rfl, b5⟩
        rw [CN.out]
        have B5 := Lib.hid (B4.out.trans (b5.mono B4.out.size)); clear b5
        go_wp2_with fail
        go_ret
        exact ⟨rfl, B5.out⟩
      · have hz0 : 0 ≤ z := t2 (by decide) (by omega)
        have hy1 : decide (y < 0) = false := by simpa using hy0
        clear t1 t2 tn hx hy0
        go_enter Try.func7, Try.ntmps7
        go_wp2_with fail
        refine (pcompare a b w HA.out HB.out).mono ?_; rintro e w1 ⟨rfl, b1⟩
        rw [CX.out]
        have B1 := Lib.hid b1; clear b1
        go_wp2_with fail
        refine (pcompare b c w1 HB.out HC.out).mono ?_; rintro e w2 ⟨rfl, b2⟩
        rw [CY.out]
        have B2 := Lib.hid (B1.out.trans (b2.mono B1.out.size)); clear b2
        go_wp2_with fail
        refine (pcompare a c w2 HA.out HC.out).mono ?_; rintro e w3 ⟨rfl, b3⟩
        rw [CZ.out]
        have B3 := Lib.hid (B2.out.trans (b3.mono B2.out.size)); clear b3
        go_wp2_with fail
        refine (alive_any w3).mono ?_; rintro e w4 ⟨rfl, b4⟩
        have B4 := Lib.hid (B3.out.trans (b4.mono B3.out.size)); clear b4
        go_wp2_with fail
        refine (pcompare b a w4 HB.out HA.out).mono ?_; rintro e w5 ⟨rfl, b5⟩
        rw [CN.out]
        have B5 := Lib.hid (B4.out.trans (b5.mono B4.out.size)); clear b5
        go_wp2_with fail
        go_ret
        exact ⟨rfl, B5.out⟩
end Go.Proofs.Ytkanpikjfpljeaa
