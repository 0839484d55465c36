/-
  PathnameSplitUsesFirst, walked.
-/
import Derived.Test.YtkanpikjfpljeaaPnmAlive
namespace Go.Proofs.Ytkanpikjfpljeaa
open Go.RowKit
open Pnm

set_option maxRecDepth 100000 in
set_option maxHeartbeats 8000000 in
theorem walk_PathnameSplitUsesFirst (p : ByteArray) (w : World) (hp : p.size ≤ maxLen) :
    Calls Try.prog 9 #[.string p] w fun e w' => e = .returned (.bool true) ∧ Below w.heap.size w w' := by
  have HP := Lib.hid hp
  unfold maxLen at hp
  have NL := Lib.hid (numsOf_length p)
  have HBD := Lib.hid (numsOf_bd p)
  by_cases h1 : 3000 < p.size
  · have h1' : (3000 : Int) < p.size := by omega
    obtain ⟨P, hP⟩ := named (strOfNums (splP (numsOf p)))
    obtain ⟨N, hN⟩ := named (strOfNums (splN (numsOf p)))
    obtain ⟨B, hB⟩ := named (splB (numsOf p))
    go_enter Try.func9, Try.ntmps9
    go_wp2_with fail
    refine (psplit p w HP.out).mono ?_; rintro e w0 ⟨rfl, b0⟩
    rw [← hP.out, ← hN.out, ← hB.out]
    have B0 := Lib.hid b0; clear b0
    go_wp2_with fail
    refine (alive_any w0).mono ?_; rintro e w1 ⟨rfl, b1⟩
    have B1 := Lib.hid (B0.out.trans (b1.mono B0.out.size)); clear b1
    go_wp2_with fail
    go_ret
    exact ⟨rfl, B1.out⟩
  · have h1' : ¬ (3000 : Int) < p.size := by omega
    by_cases hs : p.size ≤ 100
    · obtain ⟨e1, e2, e3⟩ := spl_short (zs := numsOf p) (by rw [NL.out]; exact hs)
      have E1 := Lib.hid e1; have E2 := Lib.hid e2; have E3 := Lib.hid e3
      clear e1 e2 e3
      have why : (1 : Int) ≤ p.size ∨ (p = { data := #[] }) := by
        by_cases h : 1 ≤ p.size
        · exact .inl (by omega)
        · refine .inr ?_
          rw [← strOfNums_numsOf p, List.length_eq_zero_iff.1 (show (numsOf p).length = 0 by rw [NL.out]; omega)]; rfl
      rcases why with m1 | rfl
      all_goals
        go_enter Try.func9, Try.ntmps9
        go_wp2_with fail
        refine (psplit _ w HP.out).mono ?_; rintro e w1 ⟨rfl, b1⟩
        rw [E1.out, E2.out, E3.out, strOfNums_numsOf, show strOfNums [] = { data := #[] } from rfl]
        have B1 := Lib.hid b1; clear b1
        go_wp2_with fail
        go_loopw [6] (fun t wr => t = .int .i64 1 ∧ wr = w1) (fun _ _ => 0)
        case atStart => exact ⟨rfl, rfl⟩
        case round =>
          obtain ⟨rfl, rfl⟩ := hrel
          have HB1 := B1
          go_wp2_with fail
          refine (alive_any _).mono ?_; rintro e w2 ⟨rfl, b2⟩
          have B2 := Lib.hid (HB1.out.trans (b2.mono HB1.out.size)); clear b2
          go_wp2_with fail
          go_ret
          exact ⟨rfl, B2.out⟩
    · rcases spl_long (zs := numsOf p) (by rw [NL.out]; exact hs) with ⟨i, _, hsf, hfi, e1, e2, e3, e4⟩ | ⟨hno, e1, e2, e3⟩
      · obtain ⟨s1, s2, s3, s4, s5⟩ := hsf
        rw [NL.out] at s3 s4
        obtain ⟨P, hP⟩ := named (strOfNums ((numsOf p).take i))
        obtain ⟨N, hN⟩ := named (strOfNums ((numsOf p).drop (i + 1)))
        have n1 : numsOf P = (numsOf p).take i := by rw [hP.out]; exact numsOf_strOfNums fun z hz => HBD.out z (List.mem_of_mem_take hz)
        have n2 : numsOf N = (numsOf p).drop (i + 1) := by rw [hN.out]; exact numsOf_strOfNums fun z hz => HBD.out z (List.mem_of_mem_drop hz)
        have z1 : P.size = i := by rw [← numsOf_length, n1, List.length_take, NL.out]; omega
        obtain ⟨q, hq⟩ : ∃ q, N.size = q := ⟨_, rfl⟩
        have z2 : (1 : Int) ≤ q := by have : q = p.size - (i + 1) := by rw [← hq, ← numsOf_length, n2, List.length_drop, NL.out]
                                      omega
        have E1 := Lib.hid e1; have E2 := Lib.hid e2; have E3 := Lib.hid e3; have HF := Lib.hid hfi
        have HA : Hid (∀ j (h : j < p.size), (numsOf p).getD j 0 = (p[j].toNat : Int)) := num_at p
        clear e1 e2 e3 e4 n1 n2 s5 hfi
        go_enter Try.func9, Try.ntmps9
        go_wp2_with fail
        refine (psplit p w HP.out).mono ?_; rintro e w1 ⟨rfl, b1⟩
        rw [E1.out, E2.out, E3.out, ← hP.out, ← hN.out]
        have B1 := Lib.hid b1; clear b1
        go_wp2_with fail
        go_loopw [6] (fun t wr => ∃ j : Nat, 1 ≤ j ∧ j ≤ i ∧ t = .int .i64 j ∧ wr = w1) (fun t _ => p.size + 1 - (intOf t).toNat)
        case atStart => exact ⟨1, Nat.le_refl _, s1, rfl, rfl⟩
        case round =>
          obtain ⟨j, hj1, hj2, rfl, rfl⟩ := hrel
          have HB1 := B1
          by_cases hlt : j < i
          · have m1 : (j : Int) < i := by omega
            have m2 : (j : Int) < p.size := by omega
            have hlt' : j < p.size := by omega
            have hx := HA.out j hlt'
            obtain ⟨x, hxe⟩ : ∃ x : Int, ((p[j].toNat : Nat) : Int) = x := ⟨_, rfl⟩
            rw [hxe] at hx
            have why : (x == 47) = false ∨ ((x == 47) = true ∧ decide ((p.size : Int) - j - 1 ≤ 100) = false) ∨ ((x == 47) = true ∧ (p.size : Int) - j - 1 ≤ 100 ∧ decide ((1 : Int) ≤ (p.size : Int) - j - 1) = false) := by
              by_cases c1 : x = 47
              · by_cases c3 : (p.size : Int) - j - 1 ≤ 100
                · exact absurd ⟨hj1, by omega, by rw [NL.out]; omega, by rw [NL.out]; omega, by rw [hx]; exact c1⟩ (HF.out j hlt)
                · exact .inr (.inl ⟨by rw [c1]; rfl, by simpa using c3⟩)
              · exact .inl (by simpa using c1)
            clear hx
            rcases why with m3 | ⟨m3, m4⟩ | ⟨m3, m4, m5⟩
            all_goals
              go_wp2_with fail
              go_roundw
              case rel => exact ⟨j + 1, by omega, by omega, by go_num, trivial⟩
              case measure => simp [intOf]; omega
          · have m1 : decide ((j : Int) < i) = false := by simp; omega
            go_wp2_with fail
            refine (alive_any _).mono ?_; rintro e w2 ⟨rfl, b2⟩
            have B2 := Lib.hid (HB1.out.trans (b2.mono HB1.out.size)); clear b2
            go_wp2_with fail
            go_ret
            exact ⟨rfl, B2.out⟩
      · have E1 := Lib.hid e1; have E2 := Lib.hid e2; have E3 := Lib.hid e3
        clear e1 e2 e3 hno
        go_enter Try.func9, Try.ntmps9
        go_wp2_with fail
        refine (psplit p w HP.out).mono ?_; rintro e w1 ⟨rfl, b1⟩
        rw [E1.out, E2.out, E3.out, show strOfNums [] = { data := #[] } from rfl]
        have B1 := Lib.hid b1; clear b1
        go_wp2_with fail
        refine (alive_any w1).mono ?_; rintro e w2 ⟨rfl, b2⟩
        have B2 := Lib.hid (B1.out.trans (b2.mono B1.out.size)); clear b2
        go_wp2_with fail
        go_ret
        exact ⟨rfl, B2.out⟩
end Go.Proofs.Ytkanpikjfpljeaa
