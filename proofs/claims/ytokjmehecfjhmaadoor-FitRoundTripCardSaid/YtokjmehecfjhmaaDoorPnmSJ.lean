/-
  Layer 8: the program's Join, Split.
-/
import Derived.Test.YtokjmehecfjhmaaDoorPnmRefS
namespace Go.Proofs.YtokjmehecfjhmaaDoor.Pnm
open Go.RowKit

theorem pjoin (s t : ByteArray) (w : World) (hs : s.size ≤ 1000000) (ht : t.size ≤ 1000000) : Calls Tryd.prog 46 #[.string s, .string t] w fun e w' => e = .returned (.string (strOfNums (joinZ (numsOf s) (numsOf t)))) ∧ Below w.heap.size w w' := by
  have h1 : (s.size : Int) ≤ 1000000 := by omega
  have h2 : (t.size : Int) ≤ 1000000 := by omega
  by_cases he : s = { data := #[] }
  · subst he
    have e : joinZ (numsOf { data := #[] }) (numsOf t) = numsOf t := rfl
    rw [e, strOfNums_numsOf]
    go_enter Tryd.func46, Tryd.ntmps46
    go_wp2
    go_ret
    exact ⟨rfl, Below.refl _ _⟩
  · have hn : numsOf s ≠ [] := fun h => he (by have := congrArg strOfNums h; rw [strOfNums_numsOf] at this; rw [this]; rfl)
    have e : joinZ (numsOf s) (numsOf t) = numsOf (s ++ { data := #[47] } ++ t) := by
      unfold joinZ; rw [if_neg hn, nums_cat, nums_cat, List.append_assoc]; rfl
    rw [e, strOfNums_numsOf]
    have hne : s.toList.isEmpty = false := empty_no he
    clear hn e he hs ht
    go_enter Tryd.func46, Tryd.ntmps46
    go_wp2
    go_ret
    exact ⟨rfl, Below.refl _ _⟩

theorem psuit (i n : Int) (w : World) (hi0 : 0 ≤ i) (hin : i < n) (hn : n ≤ 9223372036854775807) (B : Bool) (hB : B = (decide (1 ≤ i) && decide (i ≤ 155) && decide (1 ≤ n - i - 1) && decide (n - i - 1 ≤ 100))) : Calls Tryd.prog 40 #[.int .i64 i, .int .i64 n] w fun e w' => e = .returned (.bool B) ∧ w = w' := by
  have w1 : IntKind.i64.wrap (n - i) = n - i := wrapP (by omega) (by omega)
  have w2 : IntKind.i64.wrap (n - i - 1) = n - i - 1 := wrapP (by omega) (by omega)
  by_cases c1 : 1 ≤ i
  · by_cases c2 : i ≤ 155
    · by_cases c3 : 1 ≤ n - i - 1
      · have e := Lib.hid (show B = decide (n - i - 1 ≤ 100) by rw [hB, decide_eq_true c1, decide_eq_true c2, decide_eq_true c3]; rfl)
        clear hB
        go_enter Tryd.func40, Tryd.ntmps40
        go_wp2
        go_ret
        exact ⟨by rw [e.out]; rfl, rfl⟩
      · have e := Lib.hid (show B = false by rw [hB, decide_eq_true c1, decide_eq_true c2, decide_eq_false c3]; rfl)
        clear hB
        go_enter Tryd.func40, Tryd.ntmps40
        go_wp2
        go_ret
        exact ⟨by rw [e.out]; rfl, rfl⟩
    · have e := Lib.hid (show B = false by rw [hB, decide_eq_true c1, decide_eq_false c2]; rfl)
      clear hB
      go_enter Tryd.func40, Tryd.ntmps40
      go_wp2
      go_ret
      exact ⟨by rw [e.out]; rfl, rfl⟩
  · have e := Lib.hid (show B = false by rw [hB, decide_eq_false c1]; rfl)
    clear hB
    go_enter Tryd.func40, Tryd.ntmps40
    go_wp2
    go_ret
    exact ⟨by rw [e.out]; rfl, rfl⟩

set_option maxRecDepth 100000 in
set_option maxHeartbeats 4000000 in
theorem psplit (s : ByteArray) (w : World) (hs : s.size ≤ maxLen) : Calls Tryd.prog 22 #[.string s] w fun e w' => e = .returned (.tuple #[.string (strOfNums (splP (numsOf s))), .string (strOfNums (splN (numsOf s))), .bool (splB (numsOf s))]) ∧ Below w.heap.size w w' := by
  unfold maxLen at hs
  obtain ⟨P, hP⟩ := named (strOfNums (splP (numsOf s)))
  obtain ⟨N, hN⟩ := named (strOfNums (splN (numsOf s)))
  obtain ⟨B, hB⟩ := named (splB (numsOf s))
  rw [← hP.out, ← hN.out, ← hB.out]
  have NL := Lib.hid (numsOf_length s)
  by_cases h1 : s.size ≤ 100
  · have h1' : (s.size : Int) ≤ 100 := by omega
    have e1 : Hid (P = { data := #[] } ∧ N = s ∧ B = true) := by
      show _ ∧ _ ∧ _
      have hl : (numsOf s).length ≤ 100 := by rw [NL.out]; exact h1
      refine ⟨?_, ?_, ?_⟩
      · rw [hP.out]; unfold splP; rw [if_pos hl]; rfl
      · rw [hN.out]; unfold splN; rw [if_pos hl, strOfNums_numsOf]
      · rw [hB.out]; unfold splB; rw [if_pos hl]
    clear h1
    go_enter Tryd.func22, Tryd.ntmps22
    go_wp2
    go_ret3
    obtain ⟨q1, q2, q3⟩ := e1.out
    rw [q1, q2, q3]
    exact ⟨rfl, Below.refl _ _⟩
  · have h1' : ¬ (s.size : Int) ≤ 100 := by omega
    have hl : ¬ (numsOf s).length ≤ 100 := by rw [NL.out]; exact h1
    have FN : Hid ((∀ k, ¬ sufS (numsOf s) k) → P = { data := #[] } ∧ N = { data := #[] } ∧ B = false) := fun h => by
      have e := splI_no h
      refine ⟨?_, ?_, ?_⟩
      · rw [hP.out]; unfold splP; rw [if_neg hl, e]; rfl
      · rw [hN.out]; unfold splN; rw [if_neg hl, e]; rfl
      · rw [hB.out]; unfold splB; rw [if_neg hl, e]; rfl
    have FS : Hid (∀ j, sufS (numsOf s) j → (∀ k, k < j → ¬ sufS (numsOf s) k) → P = s.extract 0 j ∧ N = s.extract (j + 1) s.size ∧ B = true) := fun j h h' => by
      have e := splI_first h h'
      refine ⟨?_, ?_, ?_⟩
      · rw [hP.out]; unfold splP; rw [if_neg hl, e, ext_str]; rfl
      · rw [hN.out]; unfold splN; rw [if_neg hl, e, ext_str, List.take_of_length_le (by rw [List.length_drop, NL.out]; exact Nat.le_refl _)]
      · rw [hB.out]; unfold splB; rw [if_neg hl, e]; rfl
    have HA : Hid (∀ j (h : j < s.size), (numsOf s).getD j 0 = (s[j].toNat : Int)) := num_at s
    clear hP hN hB hl
    go_enter Tryd.func22, Tryd.ntmps22
    go_wp2_with fail
    go_loopw [12] (fun i wr => ∃ j : Nat, j ≤ s.size ∧ i = .int .i64 j ∧ (∀ k, k < j → ¬ sufS (numsOf s) k) ∧ wr = w) (fun i _ => s.size + 1 - (intOf i).toNat)
    case atStart => exact ⟨0, Nat.zero_le _, rfl, fun k hk h => by omega, rfl⟩
    case round =>
      obtain ⟨j, hj3, rfl, hn, rfl⟩ := hrel
      have HNO := Lib.hid hn
      clear hn
      by_cases l1 : j < s.size
      · have m1 : (j : Int) < s.size := by omega
        have hx := HA.out j l1
        obtain ⟨x, hxe⟩ : ∃ x : Int, ((s[j].toNat : Nat) : Int) = x := ⟨_, rfl⟩
        rw [hxe] at hx
        by_cases hsf : sufS (numsOf s) j
        · obtain ⟨q1, q2, q3⟩ := FS.out j hsf HNO.out
          obtain ⟨a1, a2, a3, a4, a5⟩ := hsf
          rw [NL.out] at a3 a4
          have m3 : (x == 47) = true := by rw [← hx, a5]; rfl
          have m6 : (j : Int) + 1 ≤ s.size := by omega
          have Q := Lib.hid (And.intro q1 (And.intro q2 q3))
          have S := Lib.hid (psuit j s.size wr (by omega) m1 (by omega) true (by rw [decide_eq_true (show (1 : Int) ≤ j by omega), decide_eq_true (show (j : Int) ≤ 155 by omega), decide_eq_true (show (1 : Int) ≤ (s.size : Int) - j - 1 by omega), decide_eq_true (show (s.size : Int) - j - 1 ≤ 100 by omega)]; rfl))
          clear hx q1 q2 q3 a1 a2 a3 a4 a5
          go_wp2_with fail
          refine S.out.mono ?_; rintro e w1 ⟨rfl, rfl⟩
          go_wp2_with fail
          go_quiet (fail)
          go_wp2
          go_ret3
          obtain ⟨q1, q2, q3⟩ := Q.out
          rw [q1, q2, q3]
          exact ⟨rfl, drewN_below _ _ _⟩
        · have HN1 : Hid (∀ k, k < j + 1 → ¬ sufS (numsOf s) k) := fun k hk => by
            by_cases e : k = j
            · rw [e]; exact hsf
            · exact HNO.out k (by omega)
          by_cases c1 : x = 47
          · have m3 : (x == 47) = true := by rw [c1]; rfl
            have S := Lib.hid (psuit j s.size wr (by omega) m1 (by omega) false (by
              symm
              rcases Bool.eq_false_or_eq_true (decide ((1 : Int) ≤ j) && decide ((j : Int) ≤ 155) && decide ((1 : Int) ≤ (s.size : Int) - j - 1) && decide ((s.size : Int) - j - 1 ≤ 100)) with h | h
              · exfalso
                simp only [Bool.and_eq_true, decide_eq_true_eq] at h
                exact hsf ⟨by omega, by omega, by rw [NL.out]; omega, by rw [NL.out]; omega, by rw [hx]; exact c1⟩
              · exact h))
            clear hx hsf c1
            go_wp2_with fail
            refine S.out.mono ?_; rintro e w1 ⟨rfl, rfl⟩
            go_wp2_with fail
            go_roundw
            case rel => exact ⟨j + 1, by omega, by go_num, HN1.out, trivial⟩
            case measure => simp [intOf]; omega
          · have m3 : (x == 47) = false := by simpa using c1
            clear hx hsf c1
            go_wp2_with fail
            go_roundw
            case rel => exact ⟨j + 1, by omega, by go_num, HN1.out, trivial⟩
            case measure => simp [intOf]; omega
      · obtain rfl : j = s.size := by omega
        have e1 := Lib.hid (FN.out fun k hk => if h : k < s.size then HNO.out k h hk else by have := hk.2.2.1; rw [NL.out] at this; omega)
        go_wp2
        go_ret3
        obtain ⟨q1, q2, q3⟩ := e1.out
        rw [q1, q2, q3]
        exact ⟨rfl, Below.refl _ _⟩
end Go.Proofs.YtokjmehecfjhmaaDoor.Pnm
