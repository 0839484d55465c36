/-
  Layer 9: the library's functions in our words: Itoa, Cut, CutSuffix.
-/
import Derived.Test.YtjmnhnijmaceeaaDoorPxrVars
import Derived.Test.YtjmnhnijmaceeaaDoorPxrTk
import Derived.Test.YtjmnhnijmaceeaaDoorShelf
import Derived.Test.YtjmnhnijmaceeaaDoorObj
namespace Go.Proofs.YtjmnhnijmaceeaaDoor.Pxr
open Go.RowKit

theorem str_decD (n : Nat) : (⟨(Lib.decDigits n).toArray⟩ : ByteArray) = strOfNums (decD n) := by
  rw [← strOfNums_numsOf ⟨(Lib.decDigits n).toArray⟩]; rfl
theorem strD_size (n : Nat) : (strOfNums (decD n)).size = Lib.nDigits n := by
  rw [← str_decD, Lib.size_eq]; exact Lib.decDigits_length n

theorem grow_below {B : Nat} (w : World) (k : Nat) (os : Array Obj) (hB : B ≤ w.heap.size) : Below B w (Sort.grow (w.drewN k) os) :=
  ⟨rfl, rfl, rfl, by simp [Sort.grow], fun i hi => by
    show (w.heap ++ os)[i]? = w.heap[i]?
    exact Array.getElem?_append_left (by omega)⟩

theorem itoa_any (n : Nat) (hn : n ≤ 9223372036854775807) (w : World) (V : Vars w) : Calls Tryd.prog 24 #[.int .i64 (n : Int)] w fun e w' => e = .returned (.string (strOfNums (decD n))) ∧ Below w.heap.size w w' := by
  refine (Tryd.strconv_Itoa (n : Int) (by omega) (by omega) w V.tab).mono ?_
  rintro e w' ⟨rfl, k, os, rfl⟩
  refine ⟨?_, grow_below w k os (Nat.le_refl _)⟩
  unfold Lib.itoa
  rw [if_neg (by omega), Int.toNat_natCast, str_decD]

/-- what stands behind the first c (nothing, where there is none) -/
def aft (c : Int) (zs : List Int) : List Int := zs.drop ((bef c zs).length + 1)
theorem aft_none {c : Int} {zs : List Int} (h : c ∉ zs) : aft c zs = [] := by unfold aft; rw [bef_none h, List.drop_eq_nil_of_le (by omega)]

set_option maxHeartbeats 1000000 in
theorem scut_any (s : ByteArray) (c : UInt8) (w : World) (hs : s.size ≤ maxLen) : Calls Tryd.prog 53 #[.string s, .string ⟨#[c]⟩] w fun e w' =>
    e = .returned (.tuple #[.string (strOfNums (bef c.toNat (numsOf s))), .string (strOfNums (aft c.toNat (numsOf s))), .bool (decide ((c.toNat : Int) ∈ numsOf s))]) ∧ Below w.heap.size w w' := by
  unfold maxLen at hs
  obtain ⟨A, hA⟩ := named (strOfNums (bef c.toNat (numsOf s)))
  obtain ⟨D, hD⟩ := named (strOfNums (aft c.toNat (numsOf s)))
  rw [← hA.out, ← hD.out]
  obtain ⟨i1, i2⟩ := idx_first s c
  by_cases hm : (c.toNat : Int) ∈ numsOf s
  · rw [decide_eq_true hm]
    obtain ⟨k, hk⟩ := named (bef c.toNat (numsOf s)).length
    have hlt : k < s.size := by rw [hk.out, ← numsOf_length]; exact bef_len hm
    have hI := i2 hm
    change _ = (((bef c.toNat (numsOf s)).length : Nat) : Int) at hI
    rw [← hk.out] at hI
    have eA : Hid (A = s.extract 0 k) := by show _ = _; rw [hA.out, ext_str, bef_take, ← hk.out]; rfl
    have eD : Hid (D = s.extract (k + 1) s.size) := by
      show _ = _
      rw [hD.out, ext_str]; unfold aft
      rw [← hk.out, List.take_of_length_le (by rw [List.length_drop, numsOf_length]; exact Nat.le_refl _)]
    have HI := Lib.hid hI
    have m1 : (k : Int) < s.size := by omega
    have m0 : (k : Int) ≤ s.size := by omega
    have m2 : (k : Int) + 1 ≤ s.size := by omega
    have m3 : IntKind.i64.wrap ((k : Int) + 1) = (k : Int) + 1 := wrapP (by omega) (by omega)
    have m4 : ((k : Int) + 1).toNat = k + 1 := by omega
    have m5 : (0 : Int) ≤ (k : Int) + 1 := by omega
    clear i1 i2 hI hm hk
    go_enter Tryd.func53, Tryd.ntmps53
    go_wp2_with fail
    refine (Tryd.stringslite_Index_one s c w).mono ?_; rintro e w1 ⟨rfl, rfl⟩
    rw [HI.out]
    go_wp2_with fail
    go_quiet (fail)
    go_wp2
    go_ret3
    rw [eA.out, eD.out]
    exact ⟨rfl, drewN_below _ _ _⟩
  · rw [decide_eq_false hm]
    have hI := Lib.hid (i1 hm)
    have eA : Hid (A = s) := by show _ = _; rw [hA.out, bef_none hm, strOfNums_numsOf]
    have eD : Hid (D = { data := #[] }) := by show _ = _; rw [hD.out, aft_none hm]; rfl
    clear i1 i2 hm
    go_enter Tryd.func53, Tryd.ntmps53
    go_wp2_with fail
    refine (Tryd.stringslite_Index_one s c w).mono ?_; rintro e w1 ⟨rfl, rfl⟩
    rw [hI.out]
    go_wp2
    go_ret3
    rw [eA.out, eD.out]
    exact ⟨rfl, Below.refl _ _⟩
theorem cut_any (s : ByteArray) (c : UInt8) (w : World) (hs : s.size ≤ maxLen) : Calls Tryd.prog 43 #[.string s, .string ⟨#[c]⟩] w fun e w' =>
    e = .returned (.tuple #[.string (strOfNums (bef c.toNat (numsOf s))), .string (strOfNums (aft c.toNat (numsOf s))), .bool (decide ((c.toNat : Int) ∈ numsOf s))]) ∧ Below w.heap.size w w' := by
  obtain ⟨A, hA⟩ := named (strOfNums (bef c.toNat (numsOf s)))
  obtain ⟨D, hD⟩ := named (strOfNums (aft c.toNat (numsOf s)))
  obtain ⟨B, hB⟩ := named (decide ((c.toNat : Int) ∈ numsOf s))
  have C := scut_any s c w hs
  rw [← hA.out, ← hD.out, ← hB.out] at C ⊢
  have HC := Lib.hid C
  clear C
  go_enter Tryd.func43, Tryd.ntmps43
  go_wp2_with fail
  refine HC.out.mono ?_; rintro e w1 ⟨rfl, b1⟩
  go_wp2_with fail
  go_ret3
  exact ⟨rfl, b1⟩

/-- CutSuffix of a newline -/
theorem suf_yes (s : ByteArray) (w : World) (hs : s.size ≤ maxLen) (hp : 1 ≤ s.size) (h : (numsOf s).getD (s.size - 1) 0 = 10) : Calls Tryd.prog 44 #[.string s, .string { data := #[10] }] w fun e w' =>
    e = .returned (.tuple #[.string (s.extract 0 (s.size - 1)), .bool true]) ∧ w = w' := by
  refine (Tryd.strings_CutSuffix s { data := #[10] } w hs).mono ?_
  rintro e w' ⟨rfl, rfl⟩
  have hl : s.data.toList.length = s.size := (Lib.size_eq s).symm
  have hlast : s.data.toList[s.size - 1]? = some 10 := by
    rw [List.getElem?_eq_getElem (by omega)]
    rw [numsOf_eq, List.getD_eq_getElem?_getD, List.getElem?_map, List.getElem?_eq_getElem (by omega)] at h
    have h2 : ((s.data.toList[s.size - 1]'(by omega)).toNat : Int) = 10 := h
    congr 1
    apply UInt8.toNat_inj.1
    show _ = 10
    omega
  have hsuf : Lib.hasSuffix s.data.toList [10] = true := by
    unfold Lib.hasSuffix
    rw [List.isSuffixOf_iff_suffix]
    refine ⟨s.data.toList.take (s.size - 1), ?_⟩
    have := List.take_append_drop (s.size - 1) s.data.toList
    conv => rhs; rw [← this]
    congr 1
    rw [List.drop_eq_getElem_cons (by omega), List.drop_eq_nil_of_le (by omega)]
    rw [List.getElem?_eq_getElem (by omega)] at hlast
    rw [Option.some.inj hlast]
  refine ⟨?_, rfl⟩
  have e1 : (⟨(Lib.trimSuffix s.data.toList [10]).toArray⟩ : ByteArray) = s.extract 0 (s.size - 1) := by
    unfold Lib.trimSuffix
    rw [hsuf, if_pos rfl]
    apply ByteArray.ext
    rw [ByteArray.data_extract]
    apply Array.ext'
    rw [Array.toList_extract, List.extract_eq_take_drop]
    simp [hl]
  show Ending.returned (.tuple #[.string ⟨(Lib.trimSuffix s.data.toList [10]).toArray⟩, .bool (Lib.hasSuffix s.data.toList [10])]) = _
  rw [e1, hsuf]
theorem suf_no (s : ByteArray) (w : World) (hs : s.size ≤ maxLen) (h : s.size = 0 ∨ (numsOf s).getD (s.size - 1) 0 ≠ 10) : Calls Tryd.prog 44 #[.string s, .string { data := #[10] }] w fun e w' =>
    e = .returned (.tuple #[.string s, .bool false]) ∧ w = w' := by
  refine (Tryd.strings_CutSuffix s { data := #[10] } w hs).mono ?_
  rintro e w' ⟨rfl, rfl⟩
  have hl : s.data.toList.length = s.size := (Lib.size_eq s).symm
  have hsuf : Lib.hasSuffix s.data.toList [10] = false := by
    rw [Bool.eq_false_iff]
    intro h1
    unfold Lib.hasSuffix at h1
    rw [List.isSuffixOf_iff_suffix] at h1
    obtain ⟨t, ht⟩ := h1
    have hlt := congrArg List.length ht
    rw [List.length_append, List.length_singleton, hl] at hlt
    rcases h with h | h
    · omega
    · apply h
      rw [numsOf_eq, ← ht, List.getD_eq_getElem?_getD, List.getElem?_map, List.getElem?_append_right (by omega), show s.size - 1 - t.length = 0 by omega]
      rfl
  have e1 : (⟨(Lib.trimSuffix s.data.toList [10]).toArray⟩ : ByteArray) = s := by
    unfold Lib.trimSuffix
    rw [hsuf, if_neg (by decide)]
  refine ⟨?_, rfl⟩
  show Ending.returned (.tuple #[.string ⟨(Lib.trimSuffix s.data.toList [10]).toArray⟩, .bool (Lib.hasSuffix s.data.toList [10])]) = _
  rw [e1, hsuf]
end Go.Proofs.YtjmnhnijmaceeaaDoor.Pxr
