/-
  Strings as numbers: small laws. Nothing of the program.
-/
import Derived.Test.YtokjmehecfjhmaaDoorGenB
namespace Go.Proofs.YtokjmehecfjhmaaDoor
open Go.RowKit

theorem wrapP {z : Int} (h1 : 0 ≤ z) (h2 : z ≤ 9223372036854775807) : IntKind.i64.wrap z = z := by
  have hb : IntKind.i64.bits = 64 := rfl
  have hs : IntKind.i64.signed = true := rfl
  unfold IntKind.wrap
  simp only [hb, hs, Bool.true_and]
  have e : (2 : Int) ^ 64 = 18446744073709551616 := by decide
  have e' : (2 : Int) ^ (64 - 1) = 9223372036854775808 := by decide
  rw [e, e', Int.emod_eq_of_lt h1 (by omega), if_neg (by simp; omega)]
theorem bytes_neq {s t : ByteArray} (h : ¬ s = t) : (s.toList == t.toList) = false := by
  rw [beq_eq_false_iff_ne]
  exact fun e => h (by
    apply ByteArray.ext
    apply Array.ext'
    rw [ByteArray.toList_eq, ByteArray.toList_eq] at e
    exact e)
theorem empty_no {s : ByteArray} (h : ¬ s = { data := #[] }) : s.toList.isEmpty = false := by
  have h1 := bytes_neq h
  have e : ({ data := #[] } : ByteArray).toList = [] := by rw [ByteArray.toList_eq]
  rw [e] at h1
  cases hl : s.toList with
  | nil => rw [hl] at h1; simp at h1
  | cons x xs => rfl
theorem nums_cat (s t : ByteArray) : numsOf (s ++ t) = numsOf s ++ numsOf t := by
  unfold numsOf
  rw [ByteArray.data_append, Array.toList_append, List.map_append]
theorem num_at (s : ByteArray) (j : Nat) (h : j < s.size) : (numsOf s).getD j 0 = (s[j].toNat : Int) := by
  have h1 : (numsOf s)[j]? = some (s[j].toNat : Int) := by
    unfold numsOf
    rw [List.getElem?_map, Array.getElem?_toList, Array.getElem?_eq_getElem (by exact h)]
    rfl
  rw [List.getD_eq_getElem?_getD, h1]; rfl

theorem nums_ext (s : ByteArray) (a b : Nat) : numsOf (s.extract a b) = ((numsOf s).drop a).take (b - a) := by
  unfold numsOf
  rw [ByteArray.data_extract, Array.toList_extract, List.extract_eq_take_drop, List.map_take, List.map_drop]
theorem ext_str (s : ByteArray) (a b : Nat) : s.extract a b = strOfNums (((numsOf s).drop a).take (b - a)) := by
  rw [← nums_ext, strOfNums_numsOf]

theorem nums_inj {s t : ByteArray} (h : numsOf s = numsOf t) : s = t := by rw [← strOfNums_numsOf s, ← strOfNums_numsOf t, h]
theorem idx_byte (s : ByteArray) (c : UInt8) : 0 ≤ Lib.indexByte s.data.toList c ↔ (c.toNat : Int) ∈ numsOf s := by
  constructor
  · intro h
    obtain ⟨o, ho⟩ : ∃ o : Nat, Lib.indexByte s.data.toList c = o := ⟨(Lib.indexByte s.data.toList c).toNat, by omega⟩
    have h1 := (Lib.indexByte_some ho).1
    rw [numsOf_eq, List.mem_map]
    exact ⟨c, List.mem_of_getElem? h1, rfl⟩
  · intro h
    rw [numsOf_eq, List.mem_map] at h
    obtain ⟨b, hb, h0⟩ := h
    obtain rfl : b = c := by
      apply UInt8.toNat_inj.1
      omega
    rcases Int.lt_or_le (Lib.indexByte s.data.toList b) 0 with h | h
    · exfalso
      have h1 := Lib.indexByte_ge s.data.toList b
      obtain ⟨k, hk⟩ := List.getElem?_of_mem hb
      exact Lib.indexByte_none (c := b) (by omega) k hk
    · exact h

/-- the first place of a byte, as the search answers -/
theorem idx_first (s : ByteArray) (c : UInt8) : (((c.toNat : Int) ∉ numsOf s) → Lib.indexByte s.data.toList c = -1) ∧
    ((c.toNat : Int) ∈ numsOf s → Lib.indexByte s.data.toList c = (((numsOf s).takeWhile (fun z => z != (c.toNat : Int))).length : Int)) := by
  rw [numsOf_eq]
  generalize s.data.toList = l
  induction l with
  | nil => exact ⟨fun _ => rfl, fun h => by simp at h⟩
  | cons b l ih =>
    by_cases hb : b = c
    · subst hb
      refine ⟨fun h => absurd (List.mem_cons_self ..) h, fun _ => ?_⟩
      simp [Lib.indexByte]
    · have hb' : ¬ ((b.toNat : Int) = (c.toNat : Int)) := fun e => hb (by apply UInt8.toNat_inj.1; omega)
      have hbb : (b == c) = false := by simpa using hb
      have hge := Lib.indexByte_ge l c
      constructor
      · intro h
        rw [List.map_cons, List.mem_cons, not_or] at h
        unfold Lib.indexByte
        rw [hbb, ih.1 h.2]; rfl
      · intro h
        rw [List.map_cons, List.mem_cons] at h
        have h2 := h.resolve_left (fun e => hb' e.symm)
        have e := ih.2 h2
        unfold Lib.indexByte
        rw [hbb, List.map_cons, List.takeWhile_cons]
        have e1 : ((b.toNat : Int) != (c.toNat : Int)) = true := by simpa using hb'
        rw [e1, e]
        have e2 : (((List.takeWhile (fun z => z != (c.toNat : Int)) (List.map (fun b : UInt8 => (b.toNat : Int)) l)).length : Int) == -1) = false := by
          rw [beq_eq_false_iff_ne]; omega
        rw [e2]
        simp
end Go.Proofs.YtokjmehecfjhmaaDoor
