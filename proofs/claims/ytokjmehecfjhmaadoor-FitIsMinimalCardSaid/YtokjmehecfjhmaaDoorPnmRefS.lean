/-
  Layer 8: the reference's Split.
-/
import Derived.Test.YtokjmehecfjhmaaDoorPnmRefJ
import Derived.Test.YtokjmehecfjhmaaDoorObj
import Derived.Deep.QuietTactic
import Derived.BigQuiet
import Derived.BigRegion
namespace Go.Proofs.YtokjmehecfjhmaaDoor.Pnm
open Go.RowKit

theorem drop_num (s : ByteArray) (j : Nat) (h : j < s.size) : (numsOf s).drop j = (s[j].toNat : Int) :: (numsOf s).drop (j + 1) := by
  have hl : j < (numsOf s).length := by rw [numsOf_length]; exact h
  rw [List.drop_eq_getElem_cons hl]
  have := num_at s j h
  rw [List.getD_eq_getElem?_getD, List.getElem?_eq_getElem hl] at this
  rw [← this]; rfl
theorem drop_all (s : ByteArray) : (numsOf s).drop s.size = [] := by rw [List.drop_eq_nil_iff, numsOf_length]; exact Nat.le_refl _

set_option maxRecDepth 100000 in
set_option maxHeartbeats 4000000 in
theorem rsplit_any (s : ByteArray) (w : World) (hs : s.size ≤ maxLen) : Calls Tryd.prog 25 #[.string s] w fun e w' => e = .returned (.tuple #[.string (strOfNums (splP (numsOf s))), .string (strOfNums (splN (numsOf s))), .bool (splB (numsOf s))]) ∧ Below w.heap.size w w' := by
  unfold maxLen at hs
  obtain ⟨P, hP⟩ := named (strOfNums (splP (numsOf s)))
  obtain ⟨N, hN⟩ := named (strOfNums (splN (numsOf s)))
  obtain ⟨B, hB⟩ := named (splB (numsOf s))
  rw [← hP.out, ← hN.out, ← hB.out]
  have NL := Lib.hid (numsOf_length s)
  by_cases h1 : s.size ≤ 100
  · have h1' : (s.size : Int) ≤ 100 := by omega
    have e1 : Hid (P = { data := #[] } ∧ N = s ∧ B = true) := by
      show _ ∧ _ ∧ _
      have hl : (numsOf s).length ≤ 100 := by rw [NL.out]; exact h1
      refine ⟨?_, ?_, ?_⟩
      · rw [hP.out]; unfold splP; rw [if_pos hl]; rfl
      · rw [hN.out]; unfold splN; rw [if_pos hl, strOfNums_numsOf]
      · rw [hB.out]; unfold splB; rw [if_pos hl]
    clear h1
    go_enter Tryd.func25, Tryd.ntmps25
    go_wp2
    go_ret3
    obtain ⟨q1, q2, q3⟩ := e1.out
    rw [q1, q2, q3]
    exact ⟨rfl, Below.refl _ _⟩
  · have h1' : ¬ (s.size : Int) ≤ 100 := by omega
    have hl : ¬ (numsOf s).length ≤ 100 := by rw [NL.out]; exact h1
    have FN : Hid ((∀ k, ¬ sufS (numsOf s) k) → P = { data := #[] } ∧ N = { data := #[] } ∧ B = false) := fun h => by
      have e := splI_no h
      refine ⟨?_, ?_, ?_⟩
      · rw [hP.out]; unfold splP; rw [if_neg hl, e]; rfl
      · rw [hN.out]; unfold splN; rw [if_neg hl, e]; rfl
      · rw [hB.out]; unfold splB; rw [if_neg hl, e]; rfl
    have FS : Hid (∀ j, sufS (numsOf s) j → (∀ k, k < j → ¬ sufS (numsOf s) k) → P = s.extract 0 j ∧ N = s.extract (j + 1) s.size ∧ B = true) := fun j h h' => by
      have e := splI_first h h'
      refine ⟨?_, ?_, ?_⟩
      · rw [hP.out]; unfold splP; rw [if_neg hl, e, ext_str]; rfl
      · rw [hN.out]; unfold splN; rw [if_neg hl, e, ext_str, List.take_of_length_le (by rw [List.length_drop, NL.out]; exact Nat.le_refl _)]
      · rw [hB.out]; unfold splB; rw [if_neg hl, e]; rfl
    have HA : Hid (∀ j (h : j < s.size), (numsOf s).getD j 0 = (s[j].toNat : Int)) := num_at s
    clear hP hN hB hl
    go_enter Tryd.func25, Tryd.ntmps25
    go_wp2_with fail
    go_loopw [5, 6] (fun i _ wr => ∃ j : Nat, 1 ≤ j ∧ j ≤ 156 ∧ j ≤ s.size ∧ i = .int .i64 j ∧ (∀ k, k < j → ¬ sufS (numsOf s) k) ∧ wr = w) (fun i _ _ => s.size + 1 - (intOf i).toNat)
    case atStart => exact ⟨1, Nat.le_refl _, by decide, by omega, rfl, fun k hk h => by have := h.1; omega, rfl⟩
    case round =>
      obtain ⟨j, hj1, hj2, hj3, rfl, hn, rfl⟩ := hrel
      have HNO := Lib.hid hn
      clear hn
      by_cases l1 : j < s.size
      · have m1 : (j : Int) < s.size := by omega
        by_cases l2 : j ≤ 155
        · have m2 : (j : Int) ≤ 155 := by omega
          have hx := HA.out j l1
          obtain ⟨x, hxe⟩ : ∃ x : Int, ((s[j].toNat : Nat) : Int) = x := ⟨_, rfl⟩
          rw [hxe] at hx
          have hw1 : IntKind.i64.wrap ((s.size : Int) - j - 1) = (s.size : Int) - j - 1 := by exact wrapP (by omega) (by omega)
          by_cases hsf : sufS (numsOf s) j
          · obtain ⟨q1, q2, q3⟩ := FS.out j hsf HNO.out
            obtain ⟨_, _, a3, a4, a5⟩ := hsf
            rw [NL.out] at a3 a4
            have m3 : (x == 47) = true := by rw [← hx, a5]; rfl
            have m4 : (1 : Int) ≤ (s.size : Int) - j - 1 := by omega
            have m5 : (s.size : Int) - j - 1 ≤ 100 := by omega
            have m6 : (j : Int) + 1 ≤ s.size := by omega
            have Q := Lib.hid (And.intro q1 (And.intro q2 q3))
            clear hx q1 q2 q3 a3 a4 a5
            go_wp2_with fail
            go_quiet (fail)
            go_wp2
            go_ret3
            obtain ⟨q1, q2, q3⟩ := Q.out
            rw [q1, q2, q3]
            exact ⟨rfl, drewN_below _ _ _⟩
          · have HN1 : Hid (∀ k, k < j + 1 → ¬ sufS (numsOf s) k) := fun k hk => by
              by_cases e : k = j
              · rw [e]; exact hsf
              · exact HNO.out k (by omega)
            have why : (x == 47) = false ∨ ((x == 47) = true ∧ decide ((1 : Int) ≤ (s.size : Int) - j - 1) = false) ∨ ((x == 47) = true ∧ (1 : Int) ≤ (s.size : Int) - j - 1 ∧ decide ((s.size : Int) - j - 1 ≤ 100) = false) := by
              by_cases c1 : x = 47
              · by_cases c2 : (1 : Int) ≤ (s.size : Int) - j - 1
                · by_cases c3 : (s.size : Int) - j - 1 ≤ 100
                  · exact absurd ⟨hj1, l2, by rw [NL.out]; omega, by rw [NL.out]; omega, by rw [hx]; exact c1⟩ hsf
                  · exact .inr (.inr ⟨by rw [c1]; rfl, c2, by simpa using c3⟩)
                · exact .inr (.inl ⟨by rw [c1]; rfl, by simpa using c2⟩)
              · exact .inl (by simpa using c1)
            clear hx hsf
            rcases why with m3 | ⟨m3, m4⟩ | ⟨m3, m4, m5⟩
            all_goals
              go_wp2_with fail
              go_roundw
              case rel => exact ⟨j + 1, by omega, by omega, by omega, by go_num, HN1.out, trivial⟩
              case measure => simp [intOf]; omega
        · have m2 : decide ((j : Int) ≤ 155) = false := by simp; omega
          have e1 := Lib.hid (FN.out fun k hk => if h : k < j then HNO.out k h hk else by have := hk.2.1; omega)
          go_wp2
          go_ret3
          obtain ⟨q1, q2, q3⟩ := e1.out
          rw [q1, q2, q3]
          exact ⟨rfl, Below.refl _ _⟩
      · have m1 : decide ((j : Int) < s.size) = false := by simp; omega
        have e1 := Lib.hid (FN.out fun k hk => if h : k < j then HNO.out k h hk else by have := hk.2.2.1; rw [NL.out] at this; omega)
        go_wp2
        go_ret3
        obtain ⟨q1, q2, q3⟩ := e1.out
        rw [q1, q2, q3]
        exact ⟨rfl, Below.refl _ _⟩
end Go.Proofs.YtokjmehecfjhmaaDoor.Pnm
