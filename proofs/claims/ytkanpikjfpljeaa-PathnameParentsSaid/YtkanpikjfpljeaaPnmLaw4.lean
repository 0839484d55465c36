/-
  PathnameParents, walked.
-/
import Derived.Test.YtkanpikjfpljeaaPnmAlive
import Derived.Test.YtkanpikjfpljeaaPnmHas
namespace Go.Proofs.Ytkanpikjfpljeaa
open Go.RowKit
open Pnm

theorem par_size (p : ByteArray) : (strOfNums (parZ (numsOf p))).size ≤ p.size ∧ (strOfNums (basZ (numsOf p))).size ≤ p.size ∧ numsOf (strOfNums (parZ (numsOf p))) = parZ (numsOf p) ∧ numsOf (strOfNums (basZ (numsOf p))) = basZ (numsOf p) := by
  have hb := numsOf_bd p
  have h1 : ∀ z ∈ parZ (numsOf p), 0 ≤ z ∧ z ≤ 255 := fun z hz => by
    unfold parZ at hz
    split at hz
    · simp at hz
    · exact hb z (List.mem_of_mem_take hz)
  have h2 : ∀ z ∈ basZ (numsOf p), 0 ≤ z ∧ z ≤ 255 := fun z hz => hb z (List.mem_of_mem_drop hz)
  refine ⟨?_, ?_, numsOf_strOfNums h1, numsOf_strOfNums h2⟩
  · rw [size_str h1, ← numsOf_length p]; unfold parZ; split
    · exact Nat.zero_le _
    · rw [List.length_take]; omega
  · rw [size_str h2, ← numsOf_length p]; unfold basZ; rw [List.length_drop]; omega

set_option maxRecDepth 100000 in
set_option maxHeartbeats 4000000 in
theorem walk_PathnameParents (p : ByteArray) (w : World) (hp : p.size ≤ maxLen) :
    Calls Try.prog 6 #[.string p] w fun e w' => e = .returned (.bool true) ∧ Below w.heap.size w w' := by
  have HP := Lib.hid hp
  unfold maxLen at hp
  by_cases h1 : 3000 < p.size
  · have h1' : (3000 : Int) < p.size := by omega
    go_enter Try.func6, Try.ntmps6
    go_wp2_with fail
    refine (alive_any w).mono ?_; rintro e w1 ⟨rfl, b1⟩
    have B1 := Lib.hid b1; clear b1
    go_wp2_with fail
    go_ret
    exact ⟨rfl, B1.out⟩
  · have h1' : ¬ (3000 : Int) < p.size := by omega
    by_cases hk : chE (numsOf p) = 0
    · have HK := Lib.hid hk
      obtain ⟨_, hok⟩ := chE_zero.1 hk
      obtain ⟨z1, z2, n1, n2⟩ := par_size p
      obtain ⟨Q, hQ⟩ := named (strOfNums (parZ (numsOf p)))
      obtain ⟨B, hB⟩ := named (strOfNums (basZ (numsOf p)))
      rw [← hQ.out] at z1 n1; rw [← hB.out] at z2 n2
      obtain ⟨ns, cs⟩ := par_bas (numsOf p)
      have BN : Hid (decide ((47 : Int) ∈ numsOf B) = false) := by show _ = _; rw [n2]; exact decide_eq_false ns
      have ZQ : Hid (Q.size ≤ maxLen ∧ Q.size ≤ 1000000) := by show _ ∧ _; unfold maxLen; omega
      have ZB : Hid (B.size ≤ maxLen ∧ B.size ≤ 1000000) := by show _ ∧ _; unfold maxLen; omega
      have base : Hid (chE (numsOf B) = 0 ∧ joinZ (numsOf Q) (numsOf B) = numsOf p) := by
        show _ ∧ _
        rcases cs with ⟨_, e1, e2⟩ | ⟨_, e⟩
        · rw [n1, n2, e1, e2]; exact ⟨hk, rfl⟩
        · have hok' := hok
          rw [e, pathOk_app] at hok'
          have hne : parZ (numsOf p) ≠ [] := fun h => by
            have := hok'.1 [] (by rw [h]; simp [comps])
            exact this.1 rfl
          refine ⟨chE_zero.2 ⟨by rw [numsOf_length]; omega, by rw [n2]; exact hok'.2⟩, ?_⟩
          unfold joinZ; rw [n1, n2, if_neg hne]; exact e.symm
      by_cases hq : Q = { data := #[] }
      · subst hq
        clear hk hok z1 z2 n1 n2 ns cs
        go_enter Try.func6, Try.ntmps6
        go_wp2_with fail
        refine (pcheck p w HP.out).mono ?_; rintro e w1 ⟨rfl, b1⟩
        rw [HK.out]
        have B1 := Lib.hid b1; clear b1
        go_wp2_with fail
        refine (pparent p w1 HP.out).mono ?_; rintro e w2 ⟨rfl, b2⟩
        rw [← hQ.out]
        have B2 := Lib.hid (B1.out.trans (b2.mono B1.out.size)); clear b2
        go_wp2_with fail
        refine (pbase p w2 HP.out).mono ?_; rintro e w3 ⟨rfl, b3⟩
        rw [← hB.out]
        have B3 := Lib.hid (B2.out.trans (b3.mono B2.out.size)); clear b3
        go_wp2_with fail
        refine (alive_any w3).mono ?_; rintro e w4 ⟨rfl, b4⟩
        have B4 := Lib.hid (B3.out.trans (b4.mono B3.out.size)); clear b4
        go_wp2_with fail
        refine (pcheck B w4 ZB.out.1).mono ?_; rintro e w5 ⟨rfl, b5⟩
        rw [base.out.1]
        have B5 := Lib.hid (B4.out.trans (b5.mono B4.out.size)); clear b5
        go_wp2_with fail
        refine (has_any B 47 w5 false BN.out).mono ?_; rintro e w6 ⟨rfl, rfl⟩
        go_wp2_with fail
        refine (pjoin { data := #[] } B w5 ZQ.out.2 ZB.out.2).mono ?_; rintro e w6 ⟨rfl, b6⟩
        rw [base.out.2, strOfNums_numsOf]
        have B6 := Lib.hid (B5.out.trans (b6.mono B5.out.size)); clear b6
        go_wp2_with fail
        go_ret
        exact ⟨rfl, B6.out⟩
      · have he : Q.toList.isEmpty = false := empty_no hq
        have pq : Hid (chE (numsOf Q) = 0 ∧ cmpZ (numsOf Q) (numsOf p) = -1) := by
          show _ ∧ _
          rcases cs with ⟨_, e1, e2⟩ | ⟨_, e⟩
          · exact absurd (by rw [hQ.out, e1]; rfl) hq
          · have hok' := hok
            rw [e, pathOk_app] at hok'
            refine ⟨chE_zero.2 ⟨by rw [numsOf_length]; omega, by rw [n1]; exact hok'.1⟩, ?_⟩
            rw [n1]
            conv => lhs; arg 2; rw [e]
            exact cmp_pre _ _ _
        clear hk hok z1 z2 n1 n2 ns cs hq
        go_enter Try.func6, Try.ntmps6
        go_wp2_with fail
        refine (pcheck p w HP.out).mono ?_; rintro e w1 ⟨rfl, b1⟩
        rw [HK.out]
        have B1 := Lib.hid b1; clear b1
        go_wp2_with fail
        refine (pparent p w1 HP.out).mono ?_; rintro e w2 ⟨rfl, b2⟩
        rw [← hQ.out]
        have B2 := Lib.hid (B1.out.trans (b2.mono B1.out.size)); clear b2
        go_wp2_with fail
        refine (pbase p w2 HP.out).mono ?_; rintro e w3 ⟨rfl, b3⟩
        rw [← hB.out]
        have B3 := Lib.hid (B2.out.trans (b3.mono B2.out.size)); clear b3
        go_wp2_with fail
        refine (pcheck Q w3 ZQ.out.1).mono ?_; rintro e w4 ⟨rfl, b4⟩
        rw [pq.out.1]
        have B4 := Lib.hid (B3.out.trans (b4.mono B3.out.size)); clear b4
        go_wp2_with fail
        refine (pcompare Q p w4 ZQ.out.1 HP.out).mono ?_; rintro e w5 ⟨rfl, b5⟩
        rw [pq.out.2]
        have B5 := Lib.hid (B4.out.trans (b5.mono B4.out.size)); clear b5
        go_wp2_with fail
        refine (alive_any w5).mono ?_; rintro e w6 ⟨rfl, b6⟩
        have B6 := Lib.hid (B5.out.trans (b6.mono B5.out.size)); clear b6
        go_wp2_with fail
        refine (pcheck B w6 ZB.out.1).mono ?_; rintro e w7 ⟨rfl, b7⟩
        rw [base.out.1]
        have B7 := Lib.hid (B6.out.trans (b7.mono B6.out.size)); clear b7
        go_wp2_with fail
        refine (has_any B 47 w7 false BN.out).mono ?_; rintro e w8 ⟨rfl, rfl⟩
        go_wp2_with fail
        refine (pjoin Q B w7 ZQ.out.2 ZB.out.2).mono ?_; rintro e w8 ⟨rfl, b8⟩
        rw [base.out.2, strOfNums_numsOf]
        have B8 := Lib.hid (B7.out.trans (b8.mono B7.out.size)); clear b8
        go_wp2_with fail
        go_ret
        exact ⟨rfl, B8.out⟩
    · obtain ⟨E, hE⟩ := named (chE (numsOf p))
      have hne : (E != 0) = true := by rw [hE.out]; simp [hk]
      clear hk
      go_enter Try.func6, Try.ntmps6
      go_wp2_with fail
      refine (pcheck p w HP.out).mono ?_; rintro e w1 ⟨rfl, b1⟩
      rw [← hE.out]
      have B1 := Lib.hid b1; clear b1
      go_wp2_with fail
      refine (alive_any w1).mono ?_; rintro e w2 ⟨rfl, b2⟩
      have B2 := Lib.hid (B1.out.trans (b2.mono B1.out.size)); clear b2
      go_wp2_with fail
      go_ret
      exact ⟨rfl, B2.out⟩
end Go.Proofs.Ytkanpikjfpljeaa
