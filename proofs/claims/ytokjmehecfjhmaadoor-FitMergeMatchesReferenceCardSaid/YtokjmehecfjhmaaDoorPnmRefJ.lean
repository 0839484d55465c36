/-
  Layer 8: the reference's Join; strings as numbers.
-/
import Derived.Test.YtokjmehecfjhmaaDoorRows
import Derived.Test.YtokjmehecfjhmaaDoorGenB
import Derived.Test.YtokjmehecfjhmaaDoorPnmMath
import Derived.Deep.DeepMust
namespace Go.Proofs.YtokjmehecfjhmaaDoor.Pnm
open Go.RowKit

theorem wrapP {z : Int} (h1 : 0 ≤ z) (h2 : z ≤ 9223372036854775807) : IntKind.i64.wrap z = z := by
  have hb : IntKind.i64.bits = 64 := rfl
  have hs : IntKind.i64.signed = true := rfl
  unfold IntKind.wrap
  simp only [hb, hs, Bool.true_and]
  have e : (2 : Int) ^ 64 = 18446744073709551616 := by decide
  have e' : (2 : Int) ^ (64 - 1) = 9223372036854775808 := by decide
  rw [e, e', Int.emod_eq_of_lt h1 (by omega), if_neg (by simp; omega)]
theorem bytes_neq {s t : ByteArray} (h : ¬ s = t) : (s.toList == t.toList) = false := by
  rw [beq_eq_false_iff_ne]
  exact fun e => h (by
    apply ByteArray.ext
    apply Array.ext'
    rw [ByteArray.toList_eq, ByteArray.toList_eq] at e
    exact e)
theorem empty_no {s : ByteArray} (h : ¬ s = { data := #[] }) : s.toList.isEmpty = false := by
  have h1 := bytes_neq h
  have e : ({ data := #[] } : ByteArray).toList = [] := by rw [ByteArray.toList_eq]
  rw [e] at h1
  cases hl : s.toList with
  | nil => rw [hl] at h1; simp at h1
  | cons x xs => rfl
theorem nums_cat (s t : ByteArray) : numsOf (s ++ t) = numsOf s ++ numsOf t := by
  unfold numsOf
  rw [ByteArray.data_append, Array.toList_append, List.map_append]
theorem num_at (s : ByteArray) (j : Nat) (h : j < s.size) : (numsOf s).getD j 0 = (s[j].toNat : Int) := by
  have h1 : (numsOf s)[j]? = some (s[j].toNat : Int) := by
    unfold numsOf
    rw [List.getElem?_map, Array.getElem?_toList, Array.getElem?_eq_getElem (by exact h)]
    rfl
  rw [List.getD_eq_getElem?_getD, h1]; rfl

theorem nums_ext (s : ByteArray) (a b : Nat) : numsOf (s.extract a b) = ((numsOf s).drop a).take (b - a) := by
  unfold numsOf
  rw [ByteArray.data_extract, Array.toList_extract, List.extract_eq_take_drop, List.map_take, List.map_drop]
theorem ext_str (s : ByteArray) (a b : Nat) : s.extract a b = strOfNums (((numsOf s).drop a).take (b - a)) := by
  rw [← nums_ext, strOfNums_numsOf]

theorem rjoin_any (s t : ByteArray) (w : World) (hs : s.size ≤ 1000000) (ht : t.size ≤ 1000000) : Calls Tryd.prog 30 #[.string s, .string t] w fun e w' => e = .returned (.string (strOfNums (joinZ (numsOf s) (numsOf t)))) ∧ w = w' := by
  have h1 : (s.size : Int) ≤ 1000000 := by omega
  have h2 : (t.size : Int) ≤ 1000000 := by omega
  by_cases he : s = { data := #[] }
  · subst he
    have e : joinZ (numsOf { data := #[] }) (numsOf t) = numsOf t := rfl
    rw [e, strOfNums_numsOf]
    go_enter Tryd.func30, Tryd.ntmps30
    go_wp2
    go_ret
    exact ⟨rfl, rfl⟩
  · have hn : numsOf s ≠ [] := fun h => he (by have := congrArg strOfNums h; rw [strOfNums_numsOf] at this; rw [this]; rfl)
    have e : joinZ (numsOf s) (numsOf t) = numsOf (s ++ { data := #[47] } ++ t) := by
      unfold joinZ; rw [if_neg hn, nums_cat, nums_cat, List.append_assoc]; rfl
    rw [e, strOfNums_numsOf]
    have hne : s.toList.isEmpty = false := empty_no he
    clear hn e he hs ht
    go_enter Tryd.func30, Tryd.ntmps30
    go_wp2
    go_ret
    exact ⟨rfl, rfl⟩
end Go.Proofs.YtokjmehecfjhmaaDoor.Pnm
