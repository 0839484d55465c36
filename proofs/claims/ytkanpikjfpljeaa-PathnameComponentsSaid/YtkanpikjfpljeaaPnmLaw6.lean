/-
  PathnameComponents, walked.
-/
import Derived.Test.YtkanpikjfpljeaaPnmAlive
import Derived.Test.YtkanpikjfpljeaaPnmHas
namespace Go.Proofs.Ytkanpikjfpljeaa
open Go.RowKit
open Pnm

theorem comp_all (p c : ByteArray) (hn : (47 : Int) ∉ numsOf c) (hs : p.size + c.size ≤ 3000) :
    (chE (numsOf (p ++ { data := #[47] } ++ c)) = 0 ↔ partOk (numsOf c) ∧ chE (numsOf p) = 0) ∧ (chE (numsOf c) = 0 ↔ partOk (numsOf c)) := by
  have e : numsOf (p ++ { data := #[47] } ++ c) = numsOf p ++ 47 :: numsOf c := by rw [nums_cat, nums_cat, List.append_assoc]; rfl
  constructor
  · rw [chE_zero, chE_zero, e, pathOk_app, pathOk_one hn]
    constructor
    · rintro ⟨_, h1, h2⟩; exact ⟨h2, by rw [numsOf_length]; omega, h1⟩
    · rintro ⟨h2, _, h1⟩; exact ⟨by rw [List.length_append, List.length_cons, numsOf_length, numsOf_length]; omega, h1, h2⟩
  · rw [chE_zero, pathOk_one hn]
    exact ⟨fun h => h.2, fun h => ⟨by rw [numsOf_length]; omega, h⟩⟩

set_option maxRecDepth 100000 in
set_option maxHeartbeats 4000000 in
theorem walk_PathnameComponents (p c : ByteArray) (w : World) (hp : p.size ≤ 140737488355328) (hc : c.size ≤ 140737488355328) :
    Calls Try.prog 8 #[.string p, .string c] w fun e w' => e = .returned (.bool true) ∧ Below w.heap.size w w' := by
  have ip : (p.size : Int) ≤ 140737488355328 := by omega
  have ic : (c.size : Int) ≤ 140737488355328 := by omega
  have jp : p.size + 1 ≤ 140737488355329 := by omega
  by_cases big : 3000 < p.size + c.size
  · have big' : (3000 : Int) < (p.size : Int) + c.size := by omega
    go_enter Try.func8, Try.ntmps8
    go_wp2_with fail
    refine (alive_any w).mono ?_; rintro e w1 ⟨rfl, b1⟩
    have B1 := Lib.hid b1; clear b1
    go_wp2_with fail
    go_ret
    exact ⟨rfl, B1.out⟩
  · have big' : ¬ (3000 : Int) < (p.size : Int) + c.size := by omega
    by_cases hn : (47 : Int) ∈ numsOf c
    · have HH : Hid (decide ((47 : Int) ∈ numsOf c) = true) := decide_eq_true hn
      clear hn
      go_enter Try.func8, Try.ntmps8
      go_wp2_with fail
      refine (has_any c 47 w true HH.out).mono ?_; rintro e w0 ⟨rfl, rfl⟩
      go_wp2_with fail
      refine (alive_any w).mono ?_; rintro e w1 ⟨rfl, b1⟩
      have B1 := Lib.hid b1; clear b1
      go_wp2_with fail
      go_ret
      exact ⟨rfl, B1.out⟩
    · have HH : Hid (decide ((47 : Int) ∈ numsOf c) = false) := decide_eq_false hn
      obtain ⟨f1, f2⟩ := comp_all p c hn (by omega)
      obtain ⟨EQ, hEQ⟩ := named (chE (numsOf (p ++ { data := #[47] } ++ c)))
      obtain ⟨EP, hEP⟩ := named (chE (numsOf p))
      obtain ⟨EC, hEC⟩ := named (chE (numsOf c))
      rw [← hEQ.out, ← hEP.out] at f1; rw [← hEC.out] at f2
      have ZQ : Hid ((p ++ { data := #[47] } ++ c).size ≤ maxLen) := by show _ ≤ _; rw [← numsOf_length, nums_cat, nums_cat, List.length_append, List.length_append, numsOf_length, numsOf_length, numsOf_length, show ({ data := #[47] } : ByteArray).size = 1 from rfl]; unfold maxLen; omega
      have ZP : Hid (p.size ≤ maxLen) := by show _ ≤ _; unfold maxLen; omega
      have ZC : Hid (c.size ≤ maxLen) := by show _ ≤ _; unfold maxLen; omega
      have k1 : ¬ 9223372036854775807 < p.size + 1 := by omega
      have k2 : ¬ 9223372036854775807 < p.size + 1 + c.size := by omega
      clear hn big ip ic jp hp hc
      by_cases hv : partOk (numsOf c)
      · have n1 : c.toList.isEmpty = false := empty_no (fun e => hv.1 (by rw [e]; rfl))
        have e2 : ({ data := #[46] } : ByteArray).toList = [46] := by rw [ByteArray.toList_eq]
        have e3 : ({ data := #[46, 46] } : ByteArray).toList = [46, 46] := by rw [ByteArray.toList_eq]
        have n2 : (c.toList == [46]) = false := by rw [← e2]; exact bytes_neq (fun e => hv.2.1 (by rw [e]; rfl))
        have n3 : (c.toList == [46, 46]) = false := by rw [← e3]; exact bytes_neq (fun e => hv.2.2.1 (by rw [e]; rfl))
        have H0 : Hid (decide ((0 : Int) ∈ numsOf c) = false) := decide_eq_false hv.2.2.2
        have g2 : EC = 0 := f2.2 hv
        have g1 : EQ = 0 ↔ EP = 0 := ⟨fun h => (f1.1 h).2, fun h => f1.2 ⟨hv, h⟩⟩
        have G2 := Lib.hid g2
        clear f1 f2 e2 e3 hv g2
        by_cases he : EP = 0
        · have GQ := Lib.hid (g1.2 he); have GP := Lib.hid he
          clear g1 he
          go_enter Try.func8, Try.ntmps8
          go_wp2_with fail
          refine (has_any c 47 w false HH.out).mono ?_; rintro e w0 ⟨rfl, rfl⟩
          go_wp2_with fail
          refine (has_any c 0 w false H0.out).mono ?_; rintro e w0 ⟨rfl, rfl⟩
          go_wp2_with fail
          refine (alive_any w).mono ?_; rintro e w1 ⟨rfl, b1⟩
          have B1 := Lib.hid b1; clear b1
          go_wp2_with fail
          refine (pcheck _ w1 ZQ.out).mono ?_; rintro e w2 ⟨rfl, b2⟩
          rw [← hEQ.out, GQ.out]
          have B2 := Lib.hid (B1.out.trans (b2.mono B1.out.size)); clear b2
          go_wp2_with fail
          refine (pcheck p w2 ZP.out).mono ?_; rintro e w3 ⟨rfl, b3⟩
          rw [← hEP.out, GP.out]
          have B3 := Lib.hid (B2.out.trans (b3.mono B2.out.size)); clear b3
          go_wp2_with fail
          refine (pcheck c w3 ZC.out).mono ?_; rintro e w4 ⟨rfl, b4⟩
          rw [← hEC.out, G2.out]
          have B4 := Lib.hid (B3.out.trans (b4.mono B3.out.size)); clear b4
          go_wp2_with fail
          go_ret
          exact ⟨rfl, B4.out⟩
        · have q1 : (EP == 0) = false := by simpa using he
          have q2 : (EQ == 0) = false := by simpa using fun h => he (g1.1 h)
          clear g1 he
          go_enter Try.func8, Try.ntmps8
          go_wp2_with fail
          refine (has_any c 47 w false HH.out).mono ?_; rintro e w0 ⟨rfl, rfl⟩
          go_wp2_with fail
          refine (has_any c 0 w false H0.out).mono ?_; rintro e w0 ⟨rfl, rfl⟩
          go_wp2_with fail
          refine (alive_any w).mono ?_; rintro e w1 ⟨rfl, b1⟩
          have B1 := Lib.hid b1; clear b1
          go_wp2_with fail
          refine (pcheck _ w1 ZQ.out).mono ?_; rintro e w2 ⟨rfl, b2⟩
          rw [← hEQ.out]
          have B2 := Lib.hid (B1.out.trans (b2.mono B1.out.size)); clear b2
          go_wp2_with fail
          refine (pcheck p w2 ZP.out).mono ?_; rintro e w3 ⟨rfl, b3⟩
          rw [← hEP.out]
          have B3 := Lib.hid (B2.out.trans (b3.mono B2.out.size)); clear b3
          go_wp2_with fail
          refine (pcheck c w3 ZC.out).mono ?_; rintro e w4 ⟨rfl, b4⟩
          rw [← hEC.out, G2.out]
          have B4 := Lib.hid (B3.out.trans (b4.mono B3.out.size)); clear b4
          go_wp2_with fail
          go_ret
          exact ⟨rfl, B4.out⟩
      · have q1 : (EQ == 0) = false := by simpa using fun h => hv (f1.1 h).1
        have q2 : (EC == 0) = false := by simpa using fun h => hv (f2.1 h)
        by_cases c1 : c = { data := #[] } ∨ c = { data := #[46] } ∨ c = { data := #[46, 46] }
        · clear f1 f2 hv
          rcases c1 with rfl | rfl | rfl
          · have big2 : ¬ (3000 : Int) < (p.size : Int) := by have h0 : ((({ data := #[] } : ByteArray).size : Nat) : Int) = 0 := rfl; omega
            have k3 : ¬ 9223372036854775807 < p.size + 1 := k1
            clear big' k2
            go_enter Try.func8, Try.ntmps8
            go_wp2_with fail
            refine (has_any _ 47 w false HH.out).mono ?_; rintro e w0 ⟨rfl, rfl⟩
            go_wp2_with fail
            refine (alive_any w).mono ?_; rintro e w1 ⟨rfl, b1⟩
            have B1 := Lib.hid b1; clear b1
            go_wp2_with fail
            refine (pcheck _ w1 ZQ.out).mono ?_; rintro e w2 ⟨rfl, b2⟩
            rw [← hEQ.out]
            have B2 := Lib.hid (B1.out.trans (b2.mono B1.out.size)); clear b2
            go_wp2_with fail
            refine (pcheck _ w2 ZC.out).mono ?_; rintro e w4 ⟨rfl, b4⟩
            rw [← hEC.out]
            have B4 := Lib.hid (B2.out.trans (b4.mono B2.out.size)); clear b4
            go_wp2_with fail
            go_ret
            exact ⟨rfl, B4.out⟩
          · have big2 : ¬ (3000 : Int) < (p.size : Int) + 1 := big'
            have k3 : ¬ 9223372036854775807 < p.size + 1 + 1 := k2
            clear big' k2
            go_enter Try.func8, Try.ntmps8
            go_wp2_with fail
            refine (has_any _ 47 w false HH.out).mono ?_; rintro e w0 ⟨rfl, rfl⟩
            go_wp2_with fail
            refine (alive_any w).mono ?_; rintro e w1 ⟨rfl, b1⟩
            have B1 := Lib.hid b1; clear b1
            go_wp2_with fail
            refine (pcheck _ w1 ZQ.out).mono ?_; rintro e w2 ⟨rfl, b2⟩
            rw [← hEQ.out]
            have B2 := Lib.hid (B1.out.trans (b2.mono B1.out.size)); clear b2
            go_wp2_with fail
            refine (pcheck _ w2 ZC.out).mono ?_; rintro e w4 ⟨rfl, b4⟩
            rw [← hEC.out]
            have B4 := Lib.hid (B2.out.trans (b4.mono B2.out.size)); clear b4
            go_wp2_with fail
            go_ret
            exact ⟨rfl, B4.out⟩
          · have big2 : ¬ (3000 : Int) < (p.size : Int) + 2 := big'
            have k3 : ¬ 9223372036854775807 < p.size + 1 + 2 := k2
            clear big' k2
            go_enter Try.func8, Try.ntmps8
            go_wp2_with fail
            refine (has_any _ 47 w false HH.out).mono ?_; rintro e w0 ⟨rfl, rfl⟩
            go_wp2_with fail
            refine (alive_any w).mono ?_; rintro e w1 ⟨rfl, b1⟩
            have B1 := Lib.hid b1; clear b1
            go_wp2_with fail
            refine (pcheck _ w1 ZQ.out).mono ?_; rintro e w2 ⟨rfl, b2⟩
            rw [← hEQ.out]
            have B2 := Lib.hid (B1.out.trans (b2.mono B1.out.size)); clear b2
            go_wp2_with fail
            refine (pcheck _ w2 ZC.out).mono ?_; rintro e w4 ⟨rfl, b4⟩
            rw [← hEC.out]
            have B4 := Lib.hid (B2.out.trans (b4.mono B2.out.size)); clear b4
            go_wp2_with fail
            go_ret
            exact ⟨rfl, B4.out⟩
        · have d1 : ¬ c = { data := #[] } := fun h => c1 (.inl h)
          have d2 : ¬ c = { data := #[46] } := fun h => c1 (.inr (.inl h))
          have d3 : ¬ c = { data := #[46, 46] } := fun h => c1 (.inr (.inr h))
          have n1 : c.toList.isEmpty = false := empty_no d1
          have e2 : ({ data := #[46] } : ByteArray).toList = [46] := by rw [ByteArray.toList_eq]
          have e3 : ({ data := #[46, 46] } : ByteArray).toList = [46, 46] := by rw [ByteArray.toList_eq]
          have n2 : (c.toList == [46]) = false := by rw [← e2]; exact bytes_neq d2
          have n3 : (c.toList == [46, 46]) = false := by rw [← e3]; exact bytes_neq d3
          have inj : ∀ {s t : ByteArray}, numsOf s = numsOf t → s = t := fun {s t} h => by rw [← strOfNums_numsOf s, ← strOfNums_numsOf t, h]
          have H0 : Hid (decide ((0 : Int) ∈ numsOf c) = true) := decide_eq_true (Decidable.byContradiction fun h0 => hv ⟨fun h => d1 (inj h), fun h => d2 (inj h), fun h => d3 (inj h), h0⟩)
          clear f1 f2 hv c1 d1 d2 d3 e2 e3 inj
          go_enter Try.func8, Try.ntmps8
          go_wp2_with fail
          refine (has_any _ 47 w false HH.out).mono ?_; rintro e w0 ⟨rfl, rfl⟩
          go_wp2_with fail
          refine (has_any c 0 w true H0.out).mono ?_; rintro e w0 ⟨rfl, rfl⟩
          go_wp2_with fail
          refine (alive_any w).mono ?_; rintro e w1 ⟨rfl, b1⟩
          have B1 := Lib.hid b1; clear b1
          go_wp2_with fail
          refine (pcheck _ w1 ZQ.out).mono ?_; rintro e w2 ⟨rfl, b2⟩
          rw [← hEQ.out]
          have B2 := Lib.hid (B1.out.trans (b2.mono B1.out.size)); clear b2
          go_wp2_with fail
          refine (pcheck _ w2 ZC.out).mono ?_; rintro e w4 ⟨rfl, b4⟩
          rw [← hEC.out]
          have B4 := Lib.hid (B2.out.trans (b4.mono B2.out.size)); clear b4
          go_wp2_with fail
          go_ret
          exact ⟨rfl, B4.out⟩
end Go.Proofs.Ytkanpikjfpljeaa
