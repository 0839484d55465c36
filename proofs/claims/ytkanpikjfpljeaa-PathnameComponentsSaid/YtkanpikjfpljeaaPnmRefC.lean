/-
  Layer 8: the reference's Compare, Split.
-/
import Derived.Test.YtkanpikjfpljeaaPnmRef
import Derived.Test.YtkanpikjfpljeaaObj
import Derived.Deep.QuietTactic
import Derived.BigQuiet
import Derived.BigRegion
namespace Go.Proofs.Ytkanpikjfpljeaa.Pnm
open Go.RowKit

theorem drop_num (s : ByteArray) (j : Nat) (h : j < s.size) : (numsOf s).drop j = (s[j].toNat : Int) :: (numsOf s).drop (j + 1) := by
  have hl : j < (numsOf s).length := by rw [numsOf_length]; exact h
  rw [List.drop_eq_getElem_cons hl]
  have := num_at s j h
  rw [List.getD_eq_getElem?_getD, List.getElem?_eq_getElem hl] at this
  rw [← this]; rfl
theorem drop_all (s : ByteArray) : (numsOf s).drop s.size = [] := by rw [List.drop_eq_nil_iff, numsOf_length]; exact Nat.le_refl _

set_option maxRecDepth 100000 in
set_option maxHeartbeats 4000000 in
theorem rcmp_any (s t : ByteArray) (w : World) (hs : s.size ≤ maxLen) : Calls Try.prog 21 #[.string s, .string t] w fun e w' => e = .returned (.int .i64 (cmpZ (numsOf s) (numsOf t))) ∧ Below w.heap.size w w' := by
  unfold maxLen at hs
  obtain ⟨C, hC⟩ := named (cmpZ (numsOf s) (numsOf t))
  rw [← hC.out]
  have DS : Hid (∀ j (h : j < s.size), (numsOf s).drop j = (s[j].toNat : Int) :: (numsOf s).drop (j + 1)) := drop_num s
  have DT : Hid (∀ j (h : j < t.size), (numsOf t).drop j = (t[j].toNat : Int) :: (numsOf t).drop (j + 1)) := drop_num t
  go_enter Try.func21, Try.ntmps21
  go_wp2_with fail
  go_loopw [5] (fun i wr => ∃ j : Nat, j ≤ s.size ∧ j ≤ t.size ∧ i = .int .i64 j ∧ cmpZ ((numsOf s).drop j) ((numsOf t).drop j) = C ∧ Below w.heap.size w wr) (fun i _ => s.size + 1 - (intOf i).toNat)
  case atStart => exact ⟨0, Nat.zero_le _, Nat.zero_le _, rfl, hC.out.symm, Below.refl _ _⟩
  case round =>
    obtain ⟨j, hj1, hj2, rfl, hc, hb⟩ := hrel
    have HC := Lib.hid hc; have HB := Lib.hid hb
    clear hc hb
    by_cases l1 : j < s.size
    · by_cases l2 : j < t.size
      · have m1 : (j : Int) < s.size := by omega
        have m2 : (j : Int) < t.size := by omega
        have d1 := DS.out j l1
        have d2 := DT.out j l2
        obtain ⟨x, hx⟩ : ∃ x : Int, ((s[j].toNat : Nat) : Int) = x := ⟨_, rfl⟩
        obtain ⟨y, hy⟩ : ∃ y : Int, ((t[j].toNat : Nat) : Int) = y := ⟨_, rfl⟩
        rw [hx] at d1; rw [hy] at d2
        have hc := HC.out
        rw [d1, d2, cmpZ] at hc
        have HC2 := Lib.hid hc
        clear d1 d2 hc
        by_cases o1 : x < y
        · have e : Hid (C = -1) := by show _ = _; rw [← HC2.out, if_pos o1]
          go_wp2_with fail
          go_quiet (fail)
          go_wp2
          go_ret
          rw [e.out]
          exact ⟨rfl, HB.out.trans (drewN_below _ _ _)⟩
        · by_cases o2 : y < x
          · have e : Hid (C = 1) := by show _ = _; rw [← HC2.out, if_neg o1, if_pos o2]
            go_wp2_with fail
            go_quiet (fail)
            go_wp2
            go_quiet (fail)
            go_wp2
            go_ret
            rw [e.out]
            exact ⟨rfl, (HB.out.trans (drewN_below _ _ _)).trans (drewN_below _ _ _)⟩
          · have e : Hid (cmpZ ((numsOf s).drop (j + 1)) ((numsOf t).drop (j + 1)) = C) := by show _ = _; rw [← HC2.out, if_neg o1, if_neg o2]
            go_wp2_with fail
            go_quiet (fail)
            go_wp2
            go_quiet (fail)
            go_wp2
            go_roundw
            case rel => exact ⟨j + 1, by omega, by omega, by go_num, e.out, HB.out.trans (drewN_below _ _ _)⟩
            case measure => simp [intOf]; omega
      · obtain rfl : j = t.size := by omega
        have m1 : ((t.size : Nat) : Int) < s.size := by omega
        have m2 : ¬ ((s.size : Nat) : Int) < t.size := by omega
        have e : Hid (C = 1) := by
          show _ = _
          rw [← HC.out, drop_all, DS.out _ l1]; rfl
        go_wp2
        go_ret
        rw [e.out]
        exact ⟨rfl, HB.out⟩
    · obtain rfl : j = s.size := by omega
      by_cases l2 : s.size < t.size
      · have m1 : ((s.size : Nat) : Int) < t.size := by omega
        have e : Hid (C = -1) := by
          show _ = _
          rw [← HC.out, drop_all, DT.out _ l2]; rfl
        go_wp2
        go_ret
        rw [e.out]
        exact ⟨rfl, HB.out⟩
      · have m1 : ¬ ((s.size : Nat) : Int) < t.size := by omega
        have m2 : ¬ ((t.size : Nat) : Int) < s.size := by omega
        have e : Hid (C = 0) := by
          show _ = _
          rw [← HC.out, drop_all, show s.size = t.size by omega, drop_all]; rfl
        go_wp2
        go_ret
        rw [e.out]
        exact ⟨rfl, HB.out⟩

set_option maxRecDepth 100000 in
set_option maxHeartbeats 4000000 in
theorem rsplit_any (s : ByteArray) (w : World) (hs : s.size ≤ maxLen) : Calls Try.prog 13 #[.string s] w fun e w' => e = .returned (.tuple #[.string (strOfNums (splP (numsOf s))), .string (strOfNums (splN (numsOf s))), .bool (splB (numsOf s))]) ∧ Below w.heap.size w w' := by
  unfold maxLen at hs
  obtain ⟨P, hP⟩ := named (strOfNums (splP (numsOf s)))
  obtain ⟨N, hN⟩ := named (strOfNums (splN (numsOf s)))
  obtain ⟨B, hB⟩ := named (splB (numsOf s))
  rw [← hP.out, ← hN.out, ← hB.out]
  have NL := Lib.hid (numsOf_length s)
  by_cases h1 : s.size ≤ 100
  · have h1' : (s.size : Int) ≤ 100 := by omega
    have e1 : Hid (P = { data := #[] } ∧ N = s ∧ B = true) := by
      show _ ∧ _ ∧ _
      have hl : (numsOf s).length ≤ 100 := by rw [NL.out]; exact h1
      refine ⟨?_, ?_, ?_⟩
      · rw [hP.out]; unfold splP; rw [if_pos hl]; rfl
      · rw [hN.out]; unfold splN; rw [if_pos hl, strOfNums_numsOf]
      · rw [hB.out]; unfold splB; rw [if_pos hl]
    clear h1
    go_enter Try.func13, Try.ntmps13
    go_wp2
    go_ret3
    obtain ⟨q1, q2, q3⟩ := e1.out
    rw [q1, q2, q3]
    exact ⟨rfl, Below.refl _ _⟩
  · have h1' : ¬ (s.size : Int) ≤ 100 := by omega
    have hl : ¬ (numsOf s).length ≤ 100 := by rw [NL.out]; exact h1
    have FN : Hid ((∀ k, ¬ sufS (numsOf s) k) → P = { data := #[] } ∧ N = { data := #[] } ∧ B = false) := fun h => by
      have e := splI_no h
      refine ⟨?_, ?_, ?_⟩
      · rw [hP.out]; unfold splP; rw [if_neg hl, e]; rfl
      · rw [hN.out]; unfold splN; rw [if_neg hl, e]; rfl
      · rw [hB.out]; unfold splB; rw [if_neg hl, e]; rfl
    have FS : Hid (∀ j, sufS (numsOf s) j → (∀ k, k < j → ¬ sufS (numsOf s) k) → P = s.extract 0 j ∧ N = s.extract (j + 1) s.size ∧ B = true) := fun j h h' => by
      have e := splI_first h h'
      refine ⟨?_, ?_, ?_⟩
      · rw [hP.out]; unfold splP; rw [if_neg hl, e, ext_str]; rfl
      · rw [hN.out]; unfold splN; rw [if_neg hl, e, ext_str, List.take_of_length_le (by rw [List.length_drop, NL.out]; exact Nat.le_refl _)]
      · rw [hB.out]; unfold splB; rw [if_neg hl, e]; rfl
    have HA : Hid (∀ j (h : j < s.size), (numsOf s).getD j 0 = (s[j].toNat : Int)) := num_at s
    clear hP hN hB hl
    go_enter Try.func13, Try.ntmps13
    go_wp2_with fail
    go_loopw [5, 6] (fun i _ wr => ∃ j : Nat, 1 ≤ j ∧ j ≤ 156 ∧ j ≤ s.size ∧ i = .int .i64 j ∧ (∀ k, k < j → ¬ sufS (numsOf s) k) ∧ wr = w) (fun i _ _ => s.size + 1 - (intOf i).toNat)
    case atStart => exact ⟨1, Nat.le_refl _, by decide, by omega, rfl, fun k hk h => by have := h.1; omega, rfl⟩
    case round =>
      obtain ⟨j, hj1, hj2, hj3, rfl, hn, rfl⟩ := hrel
      have HNO := Lib.hid hn
      clear hn
      by_cases l1 : j < s.size
      · have m1 : (j : Int) < s.size := by omega
        by_cases l2 : j ≤ 155
        · have m2 : (j : Int) ≤ 155 := by omega
          have hx := HA.out j l1
          obtain ⟨x, hxe⟩ : ∃ x : Int, ((s[j].toNat : Nat) : Int) = x := ⟨_, rfl⟩
          rw [hxe] at hx
          have hw1 : IntKind.i64.wrap ((s.size : Int) - j - 1) = (s.size : Int) - j - 1 := by exact wrapP (by omega) (by omega)
          by_cases hsf : sufS (numsOf s) j
          · obtain ⟨q1, q2, q3⟩ := FS.out j hsf HNO.out
            obtain ⟨_, _, a3, a4, a5⟩ := hsf
            rw [NL.out] at a3 a4
            have m3 : (x == 47) = true := by rw [← hx, a5]; rfl
            have m4 : (1 : Int) ≤ (s.size : Int) - j - 1 := by omega
            have m5 : (s.size : Int) - j - 1 ≤ 100 := by omega
            have m6 : (j : Int) + 1 ≤ s.size := by omega
            have Q := Lib.hid (And.intro q1 (And.intro q2 q3))
            clear hx q1 q2 q3 a3 a4 a5
            go_wp2_with fail
            go_quiet (fail)
            go_wp2
            go_ret3
            obtain ⟨q1, q2, q3⟩ := Q.out
            rw [q1, q2, q3]
            exact ⟨rfl, drewN_below _ _ _⟩
          · have HN1 : Hid (∀ k, k < j + 1 → ¬ sufS (numsOf s) k) := fun k hk => by
              by_cases e : k = j
              · rw [e]; exact hsf
              · exact HNO.out k (by omega)
            have why : (x == 47) = false ∨ ((x == 47) = true ∧ decide ((1 : Int) ≤ (s.size : Int) - j - 1) = false) ∨ ((x == 47) = true ∧ (1 : Int) ≤ (s.size : Int) - j - 1 ∧ decide ((s.size : Int) - j - 1 ≤ 100) = false) := by
              by_cases c1 : x = 47
              · by_cases c2 : (1 : Int) ≤ (s.size : Int) - j - 1
                · by_cases c3 : (s.size : Int) - j - 1 ≤ 100
                  · exact absurd ⟨hj1, l2, by rw [NL.out]; omega, by rw [NL.out]; omega, by rw [hx]; exact c1⟩ hsf
                  · exact .inr (.inr ⟨by rw [c1]; rfl, c2, by simpa using c3⟩)
                · exact .inr (.inl ⟨by rw [c1]; rfl, by simpa using c2⟩)
              · exact .inl (by simpa using c1)
            clear hx hsf
            rcases why with m3 | ⟨m3, m4⟩ | ⟨m3, m4, m5⟩
            all_goals
              go_wp2_with fail
              go_roundw
              case rel => exact ⟨j + 1, by omega, by omega, by omega, by go_num, HN1.out, trivial⟩
              case measure => simp [intOf]; omega
        · have m2 : decide ((j : Int) ≤ 155) = false := by simp; omega
          have e1 := Lib.hid (FN.out fun k hk => if h : k < j then HNO.out k h hk else by have := hk.2.1; omega)
          go_wp2
          go_ret3
          obtain ⟨q1, q2, q3⟩ := e1.out
          rw [q1, q2, q3]
          exact ⟨rfl, Below.refl _ _⟩
      · have m1 : decide ((j : Int) < s.size) = false := by simp; omega
        have e1 := Lib.hid (FN.out fun k hk => if h : k < j then HNO.out k h hk else by have := hk.2.2.1; rw [NL.out] at this; omega)
        go_wp2
        go_ret3
        obtain ⟨q1, q2, q3⟩ := e1.out
        rw [q1, q2, q3]
        exact ⟨rfl, Below.refl _ _⟩
end Go.Proofs.Ytkanpikjfpljeaa.Pnm
