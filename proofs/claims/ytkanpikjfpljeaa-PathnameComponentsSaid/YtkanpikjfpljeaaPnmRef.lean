/-
  Layer 8: the reference.
-/
import Derived.Test.YtkanpikjfpljeaaRows
import Derived.Test.YtkanpikjfpljeaaGenB
import Derived.Test.YtkanpikjfpljeaaPnmMath
import Derived.Deep.DeepMust
namespace Go.Proofs.Ytkanpikjfpljeaa.Pnm
open Go.RowKit

theorem wrapP {z : Int} (h1 : 0 ≤ z) (h2 : z ≤ 9223372036854775807) : IntKind.i64.wrap z = z := by
  have hb : IntKind.i64.bits = 64 := rfl
  have hs : IntKind.i64.signed = true := rfl
  unfold IntKind.wrap
  simp only [hb, hs, Bool.true_and]
  have e : (2 : Int) ^ 64 = 18446744073709551616 := by decide
  have e' : (2 : Int) ^ (64 - 1) = 9223372036854775808 := by decide
  rw [e, e', Int.emod_eq_of_lt h1 (by omega), if_neg (by simp; omega)]
theorem bytes_neq {s t : ByteArray} (h : ¬ s = t) : (s.toList == t.toList) = false := by
  rw [beq_eq_false_iff_ne]
  exact fun e => h (by
    apply ByteArray.ext
    apply Array.ext'
    rw [ByteArray.toList_eq, ByteArray.toList_eq] at e
    exact e)
theorem empty_no {s : ByteArray} (h : ¬ s = { data := #[] }) : s.toList.isEmpty = false := by
  have h1 := bytes_neq h
  have e : ({ data := #[] } : ByteArray).toList = [] := by rw [ByteArray.toList_eq]
  rw [e] at h1
  cases hl : s.toList with
  | nil => rw [hl] at h1; simp at h1
  | cons x xs => rfl
theorem nums_cat (s t : ByteArray) : numsOf (s ++ t) = numsOf s ++ numsOf t := by
  unfold numsOf
  rw [ByteArray.data_append, Array.toList_append, List.map_append]
theorem num_at (s : ByteArray) (j : Nat) (h : j < s.size) : (numsOf s).getD j 0 = (s[j].toNat : Int) := by
  have h1 : (numsOf s)[j]? = some (s[j].toNat : Int) := by
    unfold numsOf
    rw [List.getElem?_map, Array.getElem?_toList, Array.getElem?_eq_getElem (by exact h)]
    rfl
  rw [List.getD_eq_getElem?_getD, h1]; rfl

theorem nums_ext (s : ByteArray) (a b : Nat) : numsOf (s.extract a b) = ((numsOf s).drop a).take (b - a) := by
  unfold numsOf
  rw [ByteArray.data_extract, Array.toList_extract, List.extract_eq_take_drop, List.map_take, List.map_drop]
theorem ext_str (s : ByteArray) (a b : Nat) : s.extract a b = strOfNums (((numsOf s).drop a).take (b - a)) := by
  rw [← nums_ext, strOfNums_numsOf]

set_option maxHeartbeats 1000000 in
theorem rlast_any (s : ByteArray) (w : World) (hs : s.size ≤ maxLen) : Calls Try.prog 31 #[.string s] w fun e w' => e = .returned (.int .i64 (lastZ (numsOf s))) ∧ w = w' := by
  unfold maxLen at hs
  obtain ⟨L, hL⟩ := named (lastZ (numsOf s))
  have HL : Hid (L = lastF (numsOf s) s.size) := by show _ = _; rw [hL.out]; unfold lastZ; rw [numsOf_length]
  have HA : Hid (∀ j (h : j < s.size), (numsOf s).getD j 0 = (s[j].toNat : Int)) := num_at s
  rw [← hL.out]
  clear hL
  go_enter Try.func31, Try.ntmps31
  go_wp2
  go_loop [3] (fun i => ∃ v : Int, i = .int .i64 v ∧ -1 ≤ v ∧ v < s.size ∧ lastF (numsOf s) (v + 1).toNat = L) (fun i => (intOf i + 1).toNat)
  case atStart => exact ⟨(s.size : Int) - 1, by go_num, by omega, by omega, by rw [HL.out]; congr 1; omega⟩
  case round =>
    obtain ⟨v, rfl, hv1, hv2, hv3⟩ := hrel
    by_cases h0 : 0 ≤ v
    · obtain ⟨k, rfl⟩ : ∃ k : Nat, v = k := ⟨v.toNat, by omega⟩
      have hk : k < s.size := by omega
      have e1 : ((k : Int) + 1).toNat = k + 1 := by omega
      rw [e1] at hv3
      have hx := HA.out k hk
      by_cases hb : (s[k].toNat : Int) = 47
      · have hb' : ((s[k].toNat : Int) == 47) = true := by rw [hb]; rfl
        have e2 : L = k := by rw [← hv3]; unfold lastF; rw [if_pos (by rw [hx]; exact hb)]
        clear hx
        go_wp2
        go_ret
        exact ⟨rfl, rfl⟩
      · have hb' : ((s[k].toNat : Int) == 47) = false := by simpa using hb
        have e2 : lastF (numsOf s) k = L := by rw [← hv3]; conv => rhs; unfold lastF; rw [if_neg (by rw [hx]; exact hb)]
        have E2 := Lib.hid e2
        clear hx hv3 e2
        go_wp2
        go_round
        case rel => exact ⟨(k : Int) - 1, by go_num, by omega, by omega, by rw [← E2.out]; congr 1; omega⟩
        case measure => simp [intOf]
    · obtain rfl : v = -1 := by omega
      have e2 : L = -1 := by rw [← hv3]; rfl
      clear hv3
      go_wp2
      go_ret
      exact ⟨rfl, rfl⟩

set_option maxHeartbeats 1000000 in
theorem rparent_any (s : ByteArray) (w : World) (hs : s.size ≤ maxLen) : Calls Try.prog 17 #[.string s] w fun e w' => e = .returned (.string (strOfNums (parZ (numsOf s)))) ∧ w = w' := by
  have hb := lastF_bd (numsOf s) (numsOf s).length
  rw [numsOf_length] at hb
  obtain ⟨L, hL⟩ := named (lastZ (numsOf s))
  have hb' : -1 ≤ L ∧ L < s.size := by rw [hL.out]; unfold lastZ; rw [numsOf_length]; exact hb
  obtain ⟨b1, b2⟩ := hb'
  unfold maxLen at hs
  have HS := Lib.hid hs
  clear hb
  by_cases h0 : L < 0
  · have e : parZ (numsOf s) = [] := by unfold parZ; rw [← hL.out, if_pos h0]
    rw [e]
    go_enter Try.func17, Try.ntmps17
    go_wp2_with fail
    refine (rlast_any s w HS.out).mono ?_; rintro e w1 ⟨rfl, rfl⟩
    rw [← hL.out]
    go_wp2_with fail
    go_ret
    exact ⟨rfl, rfl⟩
  · obtain ⟨k, rfl⟩ : ∃ k : Nat, L = k := ⟨L.toNat, by omega⟩
    have e : parZ (numsOf s) = (numsOf s).take k := by unfold parZ; rw [← hL.out, if_neg h0]; rfl
    rw [e]
    go_enter Try.func17, Try.ntmps17
    go_wp2_with fail
    refine (rlast_any s w HS.out).mono ?_; rintro e w1 ⟨rfl, rfl⟩
    rw [← hL.out]
    go_wp2_with fail
    go_ret
    exact ⟨by show Ending.returned (.string (s.extract 0 k)) = _; rw [ext_str]; rfl, rfl⟩

set_option maxHeartbeats 1000000 in
theorem rbase_any (s : ByteArray) (w : World) (hs : s.size ≤ maxLen) : Calls Try.prog 19 #[.string s] w fun e w' => e = .returned (.string (strOfNums (basZ (numsOf s)))) ∧ w = w' := by
  have hb := lastF_bd (numsOf s) (numsOf s).length
  rw [numsOf_length] at hb
  obtain ⟨L, hL⟩ := named (lastZ (numsOf s))
  obtain ⟨k, hk⟩ : ∃ k : Nat, L + 1 = k := ⟨(L + 1).toNat, by rw [hL.out]; unfold lastZ; rw [numsOf_length]; omega⟩
  have hks : k ≤ s.size := by have := hL.out; unfold lastZ at this; rw [numsOf_length] at this; omega
  unfold maxLen at hs
  have hki : (k : Int) ≤ s.size := by omega
  have hw : IntKind.i64.wrap (L + 1) = k := by rw [hk]; exact wrapP (by omega) (by omega)
  have HS := Lib.hid hs
  have e : basZ (numsOf s) = (numsOf s).drop k := by unfold basZ; rw [← hL.out, hk]; rfl
  rw [e]
  clear hb hk e
  go_enter Try.func19, Try.ntmps19
  go_wp2_with fail
  refine (rlast_any s w HS.out).mono ?_; rintro e w1 ⟨rfl, rfl⟩
  rw [← hL.out]
  go_wp2_with fail
  go_ret
  exact ⟨by show Ending.returned (.string (s.extract k s.size)) = _; rw [ext_str, List.take_of_length_le (by rw [List.length_drop, numsOf_length]; exact Nat.le_refl _)], rfl⟩

theorem rjoin_any (s t : ByteArray) (w : World) (hs : s.size ≤ 1000000) (ht : t.size ≤ 1000000) : Calls Try.prog 23 #[.string s, .string t] w fun e w' => e = .returned (.string (strOfNums (joinZ (numsOf s) (numsOf t)))) ∧ w = w' := by
  have h1 : (s.size : Int) ≤ 1000000 := by omega
  have h2 : (t.size : Int) ≤ 1000000 := by omega
  by_cases he : s = { data := #[] }
  · subst he
    have e : joinZ (numsOf { data := #[] }) (numsOf t) = numsOf t := rfl
    rw [e, strOfNums_numsOf]
    go_enter Try.func23, Try.ntmps23
    go_wp2
    go_ret
    exact ⟨rfl, rfl⟩
  · have hn : numsOf s ≠ [] := fun h => he (by have := congrArg strOfNums h; rw [strOfNums_numsOf] at this; rw [this]; rfl)
    have e : joinZ (numsOf s) (numsOf t) = numsOf (s ++ { data := #[47] } ++ t) := by
      unfold joinZ; rw [if_neg hn, nums_cat, nums_cat, List.append_assoc]; rfl
    rw [e, strOfNums_numsOf]
    have hne : s.toList.isEmpty = false := empty_no he
    clear hn e he hs ht
    go_enter Try.func23, Try.ntmps23
    go_wp2
    go_ret
    exact ⟨rfl, rfl⟩
end Go.Proofs.Ytkanpikjfpljeaa.Pnm
