/-
  Layer 8: the program's Parent, Base, Split, Join, Compare.
-/
import Derived.Test.YtkanpikjfpljeaaPnmRefC
import Derived.Test.YtkanpikjfpljeaaShelf
namespace Go.Proofs.Ytkanpikjfpljeaa.Pnm
open Go.RowKit

set_option maxHeartbeats 1000000 in
theorem lastS_any (s : ByteArray) (w : World) (hs : s.size ≤ maxLen) : Calls Try.prog 42 #[.string s, .int .u8 47] w fun e w' => e = .returned (.int .i64 (lastZ (numsOf s))) ∧ w = w' := by
  unfold maxLen at hs
  obtain ⟨L, hL⟩ := named (lastZ (numsOf s))
  have HL : Hid (L = lastF (numsOf s) s.size) := by show _ = _; rw [hL.out]; unfold lastZ; rw [numsOf_length]
  have HA : Hid (∀ j (h : j < s.size), (numsOf s).getD j 0 = (s[j].toNat : Int)) := num_at s
  rw [← hL.out]
  clear hL
  go_enter Try.func42, Try.ntmps42
  go_wp2
  go_loop [5] (fun i => ∃ v : Int, i = .int .i64 v ∧ -1 ≤ v ∧ v < s.size ∧ lastF (numsOf s) (v + 1).toNat = L) (fun i => (intOf i + 1).toNat)
  case atStart => exact ⟨(s.size : Int) - 1, by go_num, by omega, by omega, by rw [HL.out]; congr 1; omega⟩
  case round =>
    obtain ⟨v, rfl, hv1, hv2, hv3⟩ := hrel
    by_cases h0 : 0 ≤ v
    · obtain ⟨k, rfl⟩ : ∃ k : Nat, v = k := ⟨v.toNat, by omega⟩
      have hk : k < s.size := by omega
      have e1 : ((k : Int) + 1).toNat = k + 1 := by omega
      rw [e1] at hv3
      have hx := HA.out k hk
      by_cases hb : (s[k].toNat : Int) = 47
      · have hb' : ((s[k].toNat : Int) == 47) = true := by rw [hb]; rfl
        have e2 : L = k := by rw [← hv3]; unfold lastF; rw [if_pos (by rw [hx]; exact hb)]
        clear hx
        go_wp2
        go_ret
        exact ⟨rfl, rfl⟩
      · have hb' : ((s[k].toNat : Int) == 47) = false := by simpa using hb
        have e2 : lastF (numsOf s) k = L := by rw [← hv3]; conv => rhs; unfold lastF; rw [if_neg (by rw [hx]; exact hb)]
        have E2 := Lib.hid e2
        clear hx hv3 e2
        go_wp2
        go_round
        case rel => exact ⟨(k : Int) - 1, by go_num, by omega, by omega, by rw [← E2.out]; congr 1; omega⟩
        case measure => simp [intOf]
    · obtain rfl : v = -1 := by omega
      have e2 : L = -1 := by rw [← hv3]; rfl
      clear hv3
      go_wp2
      go_ret
      exact ⟨rfl, rfl⟩

theorem plast (s : ByteArray) (w : World) (hs : s.size ≤ maxLen) : Calls Try.prog 30 #[.string s, .int .u8 47] w fun e w' => e = .returned (.int .i64 (lastZ (numsOf s))) ∧ w = w' := by
  go_enter Try.func30, Try.ntmps30
  go_wp2_with fail
  refine (lastS_any s w hs).mono ?_; rintro e w1 ⟨rfl, rfl⟩
  go_wp2_with fail
  go_ret
  exact ⟨rfl, rfl⟩
theorem cmp_lib : ∀ a b : List UInt8, Lib.compareBytes a b = cmpZ (a.map fun x => (x.toNat : Int)) (b.map fun x => (x.toNat : Int))
  | [], [] => rfl
  | [], _ :: _ => rfl
  | _ :: _, [] => rfl
  | a :: xs, b :: ys => by
    have e1 : (a < b) ↔ ((a.toNat : Int) < (b.toNat : Int)) := by rw [UInt8.lt_iff_toNat_lt]; omega
    have e2 : (b < a) ↔ ((b.toNat : Int) < (a.toNat : Int)) := by rw [UInt8.lt_iff_toNat_lt]; omega
    rw [List.map_cons, List.map_cons]
    unfold Lib.compareBytes cmpZ
    rw [cmp_lib xs ys]
    by_cases h1 : a < b
    · rw [if_pos h1, if_pos (e1.1 h1)]
    · rw [if_neg h1, if_neg (fun h => h1 (e1.2 h))]
      by_cases h2 : b < a
      · rw [if_pos h2, if_pos (e2.1 h2)]
      · rw [if_neg h2, if_neg (fun h => h2 (e2.2 h))]
theorem pcompare (s t : ByteArray) (w : World) (_ : s.size ≤ maxLen) (_ : t.size ≤ maxLen) : Calls Try.prog 20 #[.string s, .string t] w fun e w' => e = .returned (.int .i64 (cmpZ (numsOf s) (numsOf t))) ∧ Below w.heap.size w w' := by
  have e := Lib.hid (show Lib.compareBytes s.data.toList t.data.toList = cmpZ (numsOf s) (numsOf t) by rw [cmp_lib, numsOf_eq, numsOf_eq])
  rw [← e.out]
  go_enter Try.func20, Try.ntmps20
  go_wp2_with fail
  refine (Try.strings_Compare s t w).mono ?_; rintro e w1 ⟨rfl, rfl⟩
  go_wp2_with fail
  go_ret
  exact ⟨rfl, Below.refl _ _⟩

set_option maxHeartbeats 1000000 in
theorem pparent (s : ByteArray) (w : World) (hs : s.size ≤ maxLen) : Calls Try.prog 16 #[.string s] w fun e w' => e = .returned (.string (strOfNums (parZ (numsOf s)))) ∧ Below w.heap.size w w' := by
  have hb := lastF_bd (numsOf s) (numsOf s).length
  rw [numsOf_length] at hb
  obtain ⟨L, hL⟩ := named (lastZ (numsOf s))
  have hb' : -1 ≤ L ∧ L < s.size := by rw [hL.out]; unfold lastZ; rw [numsOf_length]; exact hb
  obtain ⟨b1, b2⟩ := hb'
  have HS := Lib.hid hs
  unfold maxLen at hs
  clear hb
  by_cases h0 : L < 0
  · have e : parZ (numsOf s) = [] := by unfold parZ; rw [← hL.out, if_pos h0]
    rw [e]
    go_enter Try.func16, Try.ntmps16
    go_wp2_with fail
    refine (plast s w HS.out).mono ?_; rintro e w1 ⟨rfl, rfl⟩
    rw [← hL.out]
    go_wp2_with fail
    go_ret
    exact ⟨rfl, Below.refl _ _⟩
  · obtain ⟨k, rfl⟩ : ∃ k : Nat, L = k := ⟨L.toNat, by omega⟩
    have e : parZ (numsOf s) = (numsOf s).take k := by unfold parZ; rw [← hL.out, if_neg h0]; rfl
    rw [e]
    go_enter Try.func16, Try.ntmps16
    go_wp2_with fail
    refine (plast s w HS.out).mono ?_; rintro e w1 ⟨rfl, rfl⟩
    rw [← hL.out]
    go_wp2_with fail
    go_ret
    exact ⟨by show Ending.returned (.string (s.extract 0 k)) = _; rw [ext_str]; rfl, Below.refl _ _⟩

set_option maxHeartbeats 1000000 in
theorem pbase (s : ByteArray) (w : World) (hs : s.size ≤ maxLen) : Calls Try.prog 18 #[.string s] w fun e w' => e = .returned (.string (strOfNums (basZ (numsOf s)))) ∧ Below w.heap.size w w' := by
  have hb := lastF_bd (numsOf s) (numsOf s).length
  rw [numsOf_length] at hb
  obtain ⟨L, hL⟩ := named (lastZ (numsOf s))
  obtain ⟨k, hk⟩ : ∃ k : Nat, L + 1 = k := ⟨(L + 1).toNat, by rw [hL.out]; unfold lastZ; rw [numsOf_length]; omega⟩
  have hks : k ≤ s.size := by have := hL.out; unfold lastZ at this; rw [numsOf_length] at this; omega
  have HS := Lib.hid hs
  unfold maxLen at hs
  have hki : (k : Int) ≤ s.size := by omega
  have hw : IntKind.i64.wrap (L + 1) = k := by rw [hk]; exact wrapP (by omega) (by omega)
  have e : basZ (numsOf s) = (numsOf s).drop k := by unfold basZ; rw [← hL.out, hk]; rfl
  rw [e]
  clear hb hk e
  go_enter Try.func18, Try.ntmps18
  go_wp2_with fail
  refine (plast s w HS.out).mono ?_; rintro e w1 ⟨rfl, rfl⟩
  rw [← hL.out]
  go_wp2_with fail
  go_ret
  exact ⟨by show Ending.returned (.string (s.extract k s.size)) = _; rw [ext_str, List.take_of_length_le (by rw [List.length_drop, numsOf_length]; exact Nat.le_refl _)], Below.refl _ _⟩

theorem pjoin (s t : ByteArray) (w : World) (hs : s.size ≤ 1000000) (ht : t.size ≤ 1000000) : Calls Try.prog 22 #[.string s, .string t] w fun e w' => e = .returned (.string (strOfNums (joinZ (numsOf s) (numsOf t)))) ∧ Below w.heap.size w w' := by
  have h1 : (s.size : Int) ≤ 1000000 := by omega
  have h2 : (t.size : Int) ≤ 1000000 := by omega
  by_cases he : s = { data := #[] }
  · subst he
    have e : joinZ (numsOf { data := #[] }) (numsOf t) = numsOf t := rfl
    rw [e, strOfNums_numsOf]
    go_enter Try.func22, Try.ntmps22
    go_wp2
    go_ret
    exact ⟨rfl, Below.refl _ _⟩
  · have hn : numsOf s ≠ [] := fun h => he (by have := congrArg strOfNums h; rw [strOfNums_numsOf] at this; rw [this]; rfl)
    have e : joinZ (numsOf s) (numsOf t) = numsOf (s ++ { data := #[47] } ++ t) := by
      unfold joinZ; rw [if_neg hn, nums_cat, nums_cat, List.append_assoc]; rfl
    rw [e, strOfNums_numsOf]
    have hne : s.toList.isEmpty = false := empty_no he
    clear hn e he hs ht
    go_enter Try.func22, Try.ntmps22
    go_wp2
    go_ret
    exact ⟨rfl, Below.refl _ _⟩

theorem psuit (i n : Int) (w : World) (hi0 : 0 ≤ i) (hin : i < n) (hn : n ≤ 9223372036854775807) (B : Bool) (hB : B = (decide (1 ≤ i) && decide (i ≤ 155) && decide (1 ≤ n - i - 1) && decide (n - i - 1 ≤ 100))) : Calls Try.prog 26 #[.int .i64 i, .int .i64 n] w fun e w' => e = .returned (.bool B) ∧ w = w' := by
  have w1 : IntKind.i64.wrap (n - i) = n - i := wrapP (by omega) (by omega)
  have w2 : IntKind.i64.wrap (n - i - 1) = n - i - 1 := wrapP (by omega) (by omega)
  by_cases c1 : 1 ≤ i
  · by_cases c2 : i ≤ 155
    · by_cases c3 : 1 ≤ n - i - 1
      · have e := Lib.hid (show B = decide (n - i - 1 ≤ 100) by rw [hB, decide_eq_true c1, decide_eq_true c2, decide_eq_true c3]; rfl)
        clear hB
        go_enter Try.func26, Try.ntmps26
        go_wp2
        go_ret
        exact ⟨by rw [e.out]; rfl, rfl⟩
      · have e := Lib.hid (show B = false by rw [hB, decide_eq_true c1, decide_eq_true c2, decide_eq_false c3]; rfl)
        clear hB
        go_enter Try.func26, Try.ntmps26
        go_wp2
        go_ret
        exact ⟨by rw [e.out]; rfl, rfl⟩
    · have e := Lib.hid (show B = false by rw [hB, decide_eq_true c1, decide_eq_false c2]; rfl)
      clear hB
      go_enter Try.func26, Try.ntmps26
      go_wp2
      go_ret
      exact ⟨by rw [e.out]; rfl, rfl⟩
  · have e := Lib.hid (show B = false by rw [hB, decide_eq_false c1]; rfl)
    clear hB
    go_enter Try.func26, Try.ntmps26
    go_wp2
    go_ret
    exact ⟨by rw [e.out]; rfl, rfl⟩

set_option maxRecDepth 100000 in
set_option maxHeartbeats 4000000 in
theorem psplit (s : ByteArray) (w : World) (hs : s.size ≤ maxLen) : Calls Try.prog 12 #[.string s] w fun e w' => e = .returned (.tuple #[.string (strOfNums (splP (numsOf s))), .string (strOfNums (splN (numsOf s))), .bool (splB (numsOf s))]) ∧ Below w.heap.size w w' := by
  unfold maxLen at hs
  obtain ⟨P, hP⟩ := named (strOfNums (splP (numsOf s)))
  obtain ⟨N, hN⟩ := named (strOfNums (splN (numsOf s)))
  obtain ⟨B, hB⟩ := named (splB (numsOf s))
  rw [← hP.out, ← hN.out, ← hB.out]
  have NL := Lib.hid (numsOf_length s)
  by_cases h1 : s.size ≤ 100
  · have h1' : (s.size : Int) ≤ 100 := by omega
    have e1 : Hid (P = { data := #[] } ∧ N = s ∧ B = true) := by
      show _ ∧ _ ∧ _
      have hl : (numsOf s).length ≤ 100 := by rw [NL.out]; exact h1
      refine ⟨?_, ?_, ?_⟩
      · rw [hP.out]; unfold splP; rw [if_pos hl]; rfl
      · rw [hN.out]; unfold splN; rw [if_pos hl, strOfNums_numsOf]
      · rw [hB.out]; unfold splB; rw [if_pos hl]
    clear h1
    go_enter Try.func12, Try.ntmps12
    go_wp2
    go_ret3
    obtain ⟨q1, q2, q3⟩ := e1.out
    rw [q1, q2, q3]
    exact ⟨rfl, Below.refl _ _⟩
  · have h1' : ¬ (s.size : Int) ≤ 100 := by omega
    have hl : ¬ (numsOf s).length ≤ 100 := by rw [NL.out]; exact h1
    have FN : Hid ((∀ k, ¬ sufS (numsOf s) k) → P = { data := #[] } ∧ N = { data := #[] } ∧ B = false) := fun h => by
      have e := splI_no h
      refine ⟨?_, ?_, ?_⟩
      · rw [hP.out]; unfold splP; rw [if_neg hl, e]; rfl
      · rw [hN.out]; unfold splN; rw [if_neg hl, e]; rfl
      · rw [hB.out]; unfold splB; rw [if_neg hl, e]; rfl
    have FS : Hid (∀ j, sufS (numsOf s) j → (∀ k, k < j → ¬ sufS (numsOf s) k) → P = s.extract 0 j ∧ N = s.extract (j + 1) s.size ∧ B = true) := fun j h h' => by
      have e := splI_first h h'
      refine ⟨?_, ?_, ?_⟩
      · rw [hP.out]; unfold splP; rw [if_neg hl, e, ext_str]; rfl
      · rw [hN.out]; unfold splN; rw [if_neg hl, e, ext_str, List.take_of_length_le (by rw [List.length_drop, NL.out]; exact Nat.le_refl _)]
      · rw [hB.out]; unfold splB; rw [if_neg hl, e]; rfl
    have HA : Hid (∀ j (h : j < s.size), (numsOf s).getD j 0 = (s[j].toNat : Int)) := num_at s
    clear hP hN hB hl
    go_enter Try.func12, Try.ntmps12
    go_wp2_with fail
    go_loopw [12] (fun i wr => ∃ j : Nat, j ≤ s.size ∧ i = .int .i64 j ∧ (∀ k, k < j → ¬ sufS (numsOf s) k) ∧ wr = w) (fun i _ => s.size + 1 - (intOf i).toNat)
    case atStart => exact ⟨0, Nat.zero_le _, rfl, fun k hk h => by omega, rfl⟩
    case round =>
      obtain ⟨j, hj3, rfl, hn, rfl⟩ := hrel
      have HNO := Lib.hid hn
      clear hn
      by_cases l1 : j < s.size
      · have m1 : (j : Int) < s.size := by omega
        have hx := HA.out j l1
        obtain ⟨x, hxe⟩ : ∃ x : Int, ((s[j].toNat : Nat) : Int) = x := ⟨_, rfl⟩
        rw [hxe] at hx
        by_cases hsf : sufS (numsOf s) j
        · obtain ⟨q1, q2, q3⟩ := FS.out j hsf HNO.out
          obtain ⟨a1, a2, a3, a4, a5⟩ := hsf
          rw [NL.out] at a3 a4
          have m3 : (x == 47) = true := by rw [← hx, a5]; rfl
          have m6 : (j : Int) + 1 ≤ s.size := by omega
          have Q := Lib.hid (And.intro q1 (And.intro q2 q3))
          have S := Lib.hid (psuit j s.size wr (by omega) m1 (by omega) true (by rw [decide_eq_true (show (1 : Int) ≤ j by omega), decide_eq_true (show (j : Int) ≤ 155 by omega), decide_eq_true (show (1 : Int) ≤ (s.size : Int) - j - 1 by omega), decide_eq_true (show (s.size : Int) - j - 1 ≤ 100 by omega)]; rfl))
          clear hx q1 q2 q3 a1 a2 a3 a4 a5
          go_wp2_with fail
          refine S.out.mono ?_; rintro e w1 ⟨rfl, rfl⟩
          go_wp2_with fail
          go_quiet (fail)
          go_wp2
          go_ret3
          obtain ⟨q1, q2, q3⟩ := Q.out
          rw [q1, q2, q3]
          exact ⟨rfl, drewN_below _ _ _⟩
        · have HN1 : Hid (∀ k, k < j + 1 → ¬ sufS (numsOf s) k) := fun k hk => by
            by_cases e : k = j
            · rw [e]; exact hsf
            · exact HNO.out k (by omega)
          by_cases c1 : x = 47
          · have m3 : (x == 47) = true := by rw [c1]; rfl
            have S := Lib.hid (psuit j s.size wr (by omega) m1 (by omega) false (by
              symm
              rcases Bool.eq_false_or_eq_true (decide ((1 : Int) ≤ j) && decide ((j : Int) ≤ 155) && decide ((1 : Int) ≤ (s.size : Int) - j - 1) && decide ((s.size : Int) - j - 1 ≤ 100)) with h | h
              · exfalso
                simp only [Bool.and_eq_true, decide_eq_true_eq] at h
                exact hsf ⟨by omega, by omega, by rw [NL.out]; omega, by rw [NL.out]; omega, by rw [hx]; exact c1⟩
              · exact h))
            clear hx hsf c1
            go_wp2_with fail
            refine S.out.mono ?_; rintro e w1 ⟨rfl, rfl⟩
            go_wp2_with fail
            go_roundw
            case rel => exact ⟨j + 1, by omega, by go_num, HN1.out, trivial⟩
            case measure => simp [intOf]; omega
          · have m3 : (x == 47) = false := by simpa using c1
            clear hx hsf c1
            go_wp2_with fail
            go_roundw
            case rel => exact ⟨j + 1, by omega, by go_num, HN1.out, trivial⟩
            case measure => simp [intOf]; omega
      · obtain rfl : j = s.size := by omega
        have e1 := Lib.hid (FN.out fun k hk => if h : k < s.size then HNO.out k h hk else by have := hk.2.2.1; rw [NL.out] at this; omega)
        go_wp2
        go_ret3
        obtain ⟨q1, q2, q3⟩ := e1.out
        rw [q1, q2, q3]
        exact ⟨rfl, Below.refl _ _⟩
end Go.Proofs.Ytkanpikjfpljeaa.Pnm
