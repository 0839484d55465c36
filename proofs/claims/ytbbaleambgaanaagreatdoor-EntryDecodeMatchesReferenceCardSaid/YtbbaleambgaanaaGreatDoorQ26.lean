/- PxrSmall PxrFirst PxrFirst2 -/
import Derived.Test.YtbbaleambgaanaaGreatDoorQ6
import Derived.Test.YtbbaleambgaanaaGreatDoorQ4
import Derived.Test.YtbbaleambgaanaaGreatDoorQ8
import Derived.Test.YtbbaleambgaanaaGreatDoorQ5
namespace Go.Proofs.YtbbaleambgaanaaGreatDoor.Pxr
open Go.RowKit
def aft (c : Int) (zs : List Int) : List Int := zs.drop ((bef c zs).length + 1)
theorem aft_none {c : Int} {zs : List Int} (h : c ∉ zs) : aft c zs = [] := by unfold aft; rw [bef_none h, List.drop_eq_nil_of_le (by omega)]
set_option maxHeartbeats 1000000 in
theorem scut_any (s : ByteArray) (c : UInt8) (w : World) (hs : s.size ≤ maxLen) : Calls Tryz.prog 188 #[.string s, .string ⟨#[c]⟩] w fun e w' =>
    e = .returned (.tuple #[.string (strOfNums (bef c.toNat (numsOf s))), .string (strOfNums (aft c.toNat (numsOf s))), .bool (decide ((c.toNat : Int) ∈ numsOf s))]) ∧ Below w.heap.size w w' := by
  unfold maxLen at hs
  obtain ⟨A, hA⟩ := named (strOfNums (bef c.toNat (numsOf s)))
  obtain ⟨D, hD⟩ := named (strOfNums (aft c.toNat (numsOf s)))
  rw [← hA.out, ← hD.out]
  obtain ⟨i1, i2⟩ := idx_first s c
  by_cases hm : (c.toNat : Int) ∈ numsOf s
  · rw [decide_eq_true hm]
    obtain ⟨k, hk⟩ := named (bef c.toNat (numsOf s)).length
    have hlt : k < s.size := by rw [hk.out, ← numsOf_length]; exact bef_len hm
    have hI := i2 hm
    change _ = (((bef c.toNat (numsOf s)).length : Nat) : Int) at hI
    rw [← hk.out] at hI
    have eA : Hid (A = s.extract 0 k) := by show _ = _; rw [hA.out, ext_str, bef_take, ← hk.out]; rfl
    have eD : Hid (D = s.extract (k + 1) s.size) := by
      show _ = _
      rw [hD.out, ext_str]; unfold aft
      rw [← hk.out, List.take_of_length_le (by rw [List.length_drop, numsOf_length]; exact Nat.le_refl _)]
    have HI := Lib.hid hI
    have m1 : (k : Int) < s.size := by omega
    have m0 : (k : Int) ≤ s.size := by omega
    have m2 : (k : Int) + 1 ≤ s.size := by omega
    have m3 : IntKind.i64.wrap ((k : Int) + 1) = (k : Int) + 1 := wrapP (by omega) (by omega)
    have m4 : ((k : Int) + 1).toNat = k + 1 := by omega
    have m5 : (0 : Int) ≤ (k : Int) + 1 := by omega
    clear i1 i2 hI hm hk
    go_enter Tryz.func188, Tryz.ntmps188
    go_wp2_with fail
    refine (Tryz.stringslite_Index_one s c w).mono ?_; rintro e w1 ⟨rfl, rfl⟩
    rw [HI.out]
    go_wp2_with fail
    go_quiet (fail)
    go_wp2
    go_ret3
    rw [eA.out, eD.out]
    exact ⟨rfl, drewN_below _ _ _⟩
  · rw [decide_eq_false hm]
    have hI := Lib.hid (i1 hm)
    have eA : Hid (A = s) := by show _ = _; rw [hA.out, bef_none hm, strOfNums_numsOf]
    have eD : Hid (D = { data := #[] }) := by show _ = _; rw [hD.out, aft_none hm]; rfl
    clear i1 i2 hm
    go_enter Tryz.func188, Tryz.ntmps188
    go_wp2_with fail
    refine (Tryz.stringslite_Index_one s c w).mono ?_; rintro e w1 ⟨rfl, rfl⟩
    rw [hI.out]
    go_wp2
    go_ret3
    rw [eA.out, eD.out]
    exact ⟨rfl, Below.refl _ _⟩
theorem cut_any (s : ByteArray) (c : UInt8) (w : World) (hs : s.size ≤ maxLen) : Calls Tryz.prog 177 #[.string s, .string ⟨#[c]⟩] w fun e w' =>
    e = .returned (.tuple #[.string (strOfNums (bef c.toNat (numsOf s))), .string (strOfNums (aft c.toNat (numsOf s))), .bool (decide ((c.toNat : Int) ∈ numsOf s))]) ∧ Below w.heap.size w w' := by
  obtain ⟨A, hA⟩ := named (strOfNums (bef c.toNat (numsOf s)))
  obtain ⟨D, hD⟩ := named (strOfNums (aft c.toNat (numsOf s)))
  obtain ⟨B, hB⟩ := named (decide ((c.toNat : Int) ∈ numsOf s))
  have C := scut_any s c w hs
  rw [← hA.out, ← hD.out, ← hB.out] at C ⊢
  have HC := Lib.hid C
  clear C
  go_enter Tryz.func177, Tryz.ntmps177
  go_wp2_with fail
  refine HC.out.mono ?_; rintro e w1 ⟨rfl, b1⟩
  go_wp2_with fail
  go_ret3
  exact ⟨rfl, b1⟩
theorem suf_yes (s : ByteArray) (w : World) (hs : s.size ≤ maxLen) (hp : 1 ≤ s.size) (h : (numsOf s).getD (s.size - 1) 0 = 10) : Calls Tryz.prog 178 #[.string s, .string { data := #[10] }] w fun e w' =>
    e = .returned (.tuple #[.string (s.extract 0 (s.size - 1)), .bool true]) ∧ w = w' := by
  refine (Tryz.strings_CutSuffix s { data := #[10] } w hs).mono ?_
  rintro e w' ⟨rfl, rfl⟩
  have hl : s.data.toList.length = s.size := (Lib.size_eq s).symm
  have hlast : s.data.toList[s.size - 1]? = some 10 := by
    rw [List.getElem?_eq_getElem (by omega)]
    rw [numsOf_eq, List.getD_eq_getElem?_getD, List.getElem?_map, List.getElem?_eq_getElem (by omega)] at h
    have h2 : ((s.data.toList[s.size - 1]'(by omega)).toNat : Int) = 10 := h
    congr 1
    apply UInt8.toNat_inj.1
    show _ = 10
    omega
  have hsuf : Lib.hasSuffix s.data.toList [10] = true := by
    unfold Lib.hasSuffix
    rw [List.isSuffixOf_iff_suffix]
    refine ⟨s.data.toList.take (s.size - 1), ?_⟩
    have := List.take_append_drop (s.size - 1) s.data.toList
    conv => rhs; rw [← this]
    congr 1
    rw [List.drop_eq_getElem_cons (by omega), List.drop_eq_nil_of_le (by omega)]
    rw [List.getElem?_eq_getElem (by omega)] at hlast
    rw [Option.some.inj hlast]
  refine ⟨?_, rfl⟩
  have e1 : (⟨(Lib.trimSuffix s.data.toList [10]).toArray⟩ : ByteArray) = s.extract 0 (s.size - 1) := by
    unfold Lib.trimSuffix
    rw [hsuf, if_pos rfl]
    apply ByteArray.ext
    rw [ByteArray.data_extract]
    apply Array.ext'
    rw [Array.toList_extract, List.extract_eq_take_drop]
    simp [hl]
  show Ending.returned (.tuple #[.string ⟨(Lib.trimSuffix s.data.toList [10]).toArray⟩, .bool (Lib.hasSuffix s.data.toList [10])]) = _
  rw [e1, hsuf]
theorem suf_no (s : ByteArray) (w : World) (hs : s.size ≤ maxLen) (h : s.size = 0 ∨ (numsOf s).getD (s.size - 1) 0 ≠ 10) : Calls Tryz.prog 178 #[.string s, .string { data := #[10] }] w fun e w' =>
    e = .returned (.tuple #[.string s, .bool false]) ∧ w = w' := by
  refine (Tryz.strings_CutSuffix s { data := #[10] } w hs).mono ?_
  rintro e w' ⟨rfl, rfl⟩
  have hl : s.data.toList.length = s.size := (Lib.size_eq s).symm
  have hsuf : Lib.hasSuffix s.data.toList [10] = false := by
    rw [Bool.eq_false_iff]
    intro h1
    unfold Lib.hasSuffix at h1
    rw [List.isSuffixOf_iff_suffix] at h1
    obtain ⟨t, ht⟩ := h1
    have hlt := congrArg List.length ht
    rw [List.length_append, List.length_singleton, hl] at hlt
    rcases h with h | h
    · omega
    · apply h
      rw [numsOf_eq, ← ht, List.getD_eq_getElem?_getD, List.getElem?_map, List.getElem?_append_right (by omega), show s.size - 1 - t.length = 0 by omega]
      rfl
  have e1 : (⟨(Lib.trimSuffix s.data.toList [10]).toArray⟩ : ByteArray) = s := by
    unfold Lib.trimSuffix
    rw [hsuf, if_neg (by decide)]
  refine ⟨?_, rfl⟩
  show Ending.returned (.tuple #[.string ⟨(Lib.trimSuffix s.data.toList [10]).toArray⟩, .bool (Lib.hasSuffix s.data.toList [10])]) = _
  rw [e1, hsuf]
end Go.Proofs.YtbbaleambgaanaaGreatDoor.Pxr
namespace Go.Proofs.YtbbaleambgaanaaGreatDoor.Pxr
open Go.RowKit
set_option maxHeartbeats 2000000 in
set_option maxRecDepth 100000 in
theorem pf_early (s : ByteArray) (w : World) (A A2 : ByteArray) (SP OK : Bool) (N : Int)
    (C1 : Hid (∀ w', Calls Tryz.prog 177 #[.string s, .string { data := #[32] }] w' fun e w'' => e = .returned (.tuple #[.string A, .string A2, .bool SP]) ∧ Below w'.heap.size w' w''))
    (P1 : Hid (∀ w', Calls Tryz.prog 164 #[.string A] w' fun e w'' => e = .returned (.tuple #[.int .i64 N, .bool OK]) ∧ Below w'.heap.size w' w''))
    (h : SP = false ∨ (SP = true ∧ OK = false) ∨ (SP = true ∧ OK = true ∧ N < 1) ∨ (SP = true ∧ OK = true ∧ ¬ N < 1 ∧ 999999 < N)) : Calls Tryz.prog 160 #[.string s] w fun e w' => e = .returned (.tuple #[.agg (rz : List Value).toArray, .int .i64 6]) ∧ Below w.heap.size w w' := by
  have HZ := Lib.hid recZ; have HO := Lib.hid recO
  rcases h with rfl | ⟨rfl, rfl⟩ | ⟨rfl, rfl, h⟩ | ⟨rfl, rfl, h, h2⟩
  all_goals
    go_enter Tryz.func160, Tryz.ntmps160
    go_wp2_with (first | (refine wpList_alloc_obj rfl 107 rfl rz HZ.out ?_; intro w1 g1 b1; have H1 := Lib.hid g1; have B1 := Lib.hid b1; clear g1 b1))
    refine (C1.out _).mono ?_; rintro e w2 ⟨rfl, b2⟩
    have H2 := Lib.hid (H1.out.below b2 H1.out.lt)
    have B2 := Lib.hid (belT B1.out b2)
    clear b2
    go_wp2_with fail
    refine (P1.out _).mono ?_; rintro e w3 ⟨rfl, b3⟩
    have H3 := Lib.hid (H2.out.below b3 H2.out.lt)
    have B3 := Lib.hid (belT B2.out b3)
    clear b3
    go_wp2_with (first | (refine wpList_store_obj rfl 107 _ _ rfl w.heap.size rfl rz rz rfl 107 H3.out HO.out.2 rfl (rz_one) ?_; intro w4 g4 t4; have H4 := Lib.hid g4; have T4 := Lib.hid t4; clear g4 t4))
    exact bodyPost_ret (results_obj_tmp Tryz.results160 HO.out _ w.heap.size rfl _ rz H4.out rfl) rfl ⟨rfl, B3.out.trans (T4.out.below (Nat.le_refl _))⟩
set_option maxHeartbeats 2000000 in
set_option maxRecDepth 100000 in
theorem pf_trunc (s : ByteArray) (w : World) (A A2 : ByteArray) (N : Int)
    (C1 : Hid (∀ w', Calls Tryz.prog 177 #[.string s, .string { data := #[32] }] w' fun e w'' => e = .returned (.tuple #[.string A, .string A2, .bool true]) ∧ Below w'.heap.size w' w''))
    (P1 : Hid (∀ w', Calls Tryz.prog 164 #[.string A] w' fun e w'' => e = .returned (.tuple #[.int .i64 N, .bool true]) ∧ Below w'.heap.size w' w''))
    (h1 : ¬ N < 1) (h2 : ¬ 999999 < N) (h3 : (s.size : Int) < N) : Calls Tryz.prog 160 #[.string s] w fun e w' => e = .returned (.tuple #[.agg (rz : List Value).toArray, .int .i64 5]) ∧ Below w.heap.size w w' := by
  have HZ := Lib.hid recZ; have HO := Lib.hid recO
  go_enter Tryz.func160, Tryz.ntmps160
  go_wp2_with (first | (refine wpList_alloc_obj rfl 107 rfl rz HZ.out ?_; intro w1 g1 b1; have H1 := Lib.hid g1; have B1 := Lib.hid b1; clear g1 b1))
  refine (C1.out _).mono ?_; rintro e w2 ⟨rfl, b2⟩
  have H2 := Lib.hid (H1.out.below b2 H1.out.lt)
  have B2 := Lib.hid (belT B1.out b2)
  clear b2
  go_wp2_with fail
  refine (P1.out _).mono ?_; rintro e w3 ⟨rfl, b3⟩
  have H3 := Lib.hid (H2.out.below b3 H2.out.lt)
  have B3 := Lib.hid (belT B2.out b3)
  clear b3
  go_wp2_with (first | (refine wpList_store_obj rfl 107 _ _ rfl w.heap.size rfl rz rz rfl 107 H3.out HO.out.2 rfl (rz_one) ?_; intro w4 g4 t4; have H4 := Lib.hid g4; have T4 := Lib.hid t4; clear g4 t4))
  exact bodyPost_ret (results_obj_tmp Tryz.results160 HO.out _ w.heap.size rfl _ rz H4.out rfl) rfl ⟨rfl, B3.out.trans (T4.out.below (Nat.le_refl _))⟩
set_option maxHeartbeats 4000000 in
set_option maxRecDepth 100000 in
theorem pf_noline (s : ByteArray) (w : World) (A A2 : ByteArray) (n : Nat)
    (C1 : Hid (∀ w', Calls Tryz.prog 177 #[.string s, .string { data := #[32] }] w' fun e w'' => e = .returned (.tuple #[.string A, .string A2, .bool true]) ∧ Below w'.heap.size w' w''))
    (P1 : Hid (∀ w', Calls Tryz.prog 164 #[.string A] w' fun e w'' => e = .returned (.tuple #[.int .i64 (n : Int), .bool true]) ∧ Below w'.heap.size w' w''))
    (h1 : ¬ (n : Int) < 1) (h2 : ¬ (999999 : Int) < n) (h3 : (n : Int) ≤ s.size) (L X1 T K D : ByteArray) (NL X2 EQ : Bool)
    (C2 : Hid (∀ w', Calls Tryz.prog 178 #[.string (s.extract 0 n), .string { data := #[10] }] w' fun e w'' => e = .returned (.tuple #[.string L, .bool NL]) ∧ w' = w''))
    (C3 : Hid (∀ w', Calls Tryz.prog 177 #[.string L, .string { data := #[32] }] w' fun e w'' => e = .returned (.tuple #[.string X1, .string T, .bool X2]) ∧ Below w'.heap.size w' w''))
    (C4 : Hid (∀ w', Calls Tryz.prog 177 #[.string T, .string { data := #[61] }] w' fun e w'' => e = .returned (.tuple #[.string K, .string D, .bool EQ]) ∧ Below w'.heap.size w' w''))
    (h : NL = false ∨ (NL = true ∧ EQ = false)) : Calls Tryz.prog 160 #[.string s] w fun e w' => e = .returned (.tuple #[.agg (rz : List Value).toArray, .int .i64 6]) ∧ Below w.heap.size w w' := by
  have HZ := Lib.hid recZ; have HO := Lib.hid recO
  rcases h with rfl | ⟨rfl, rfl⟩
  all_goals
    go_enter Tryz.func160, Tryz.ntmps160
    go_wp2_with (first | (refine wpList_alloc_obj rfl 107 rfl rz HZ.out ?_; intro w1 g1 b1; have H1 := Lib.hid g1; have B1 := Lib.hid b1; clear g1 b1))
    refine (C1.out _).mono ?_; rintro e w2 ⟨rfl, b2⟩
    have H2 := Lib.hid (H1.out.below b2 H1.out.lt)
    have B2 := Lib.hid (belT B1.out b2)
    clear b2
    go_wp2_with fail
    refine (P1.out _).mono ?_; rintro e w3 ⟨rfl, b3⟩
    have H3 := Lib.hid (H2.out.below b3 H2.out.lt)
    have B3 := Lib.hid (belT B2.out b3)
    clear b3
    go_wp2_with fail
    refine (C2.out _).mono ?_; rintro e w4 ⟨rfl, rfl⟩
    go_wp2_with fail
    refine (C3.out _).mono ?_; rintro e w5 ⟨rfl, b5⟩
    have H5 := Lib.hid (H3.out.below b5 H3.out.lt)
    have B5 := Lib.hid (belT B3.out b5)
    clear b5
    go_wp2_with fail
    refine (C4.out _).mono ?_; rintro e w6 ⟨rfl, b6⟩
    have H6 := Lib.hid (H5.out.below b6 H5.out.lt)
    have B6 := Lib.hid (belT B5.out b6)
    clear b6
    go_wp2_with (first | (refine wpList_alloc_obj rfl 107 rfl rz HZ.out ?_; intro w7 g7 b7; have R7 := Lib.hid g7; have H7 := Lib.hid (H6.out.below b7 H6.out.lt); have B7 := Lib.hid (belT B6.out b7); clear g7 b7) | (refine wpList_store_obj rfl 107 _ _ rfl w6.heap.size rfl [.string K, .string D] rz rfl 107 R7.out HO.out.2 rfl (rec_one _ _) ?_; intro w8 g8 t8; have R8 := Lib.hid g8; have H8 := Lib.hid (H7.out.turned t8 (Nat.ne_of_lt H6.out.lt)); have B8 := Lib.hid (B7.out.trans (t8.below B6.out.size)); clear g8 t8) | (refine wpList_store_obj rfl 107 _ _ rfl w.heap.size rfl rz rz rfl 107 H8.out HO.out.2 rfl rz_one ?_; intro w9 g9 t9; have H9 := Lib.hid g9; have T9 := Lib.hid t9; clear g9 t9))
    exact bodyPost_ret (results_obj_tmp Tryz.results160 HO.out _ w.heap.size rfl _ rz H9.out rfl) rfl ⟨rfl, B8.out.trans (T9.out.below (Nat.le_refl _))⟩
set_option maxHeartbeats 4000000 in
set_option maxRecDepth 100000 in
theorem pf_size (s : ByteArray) (w : World) (A A2 : ByteArray) (n : Nat)
    (C1 : Hid (∀ w', Calls Tryz.prog 177 #[.string s, .string { data := #[32] }] w' fun e w'' => e = .returned (.tuple #[.string A, .string A2, .bool true]) ∧ Below w'.heap.size w' w''))
    (P1 : Hid (∀ w', Calls Tryz.prog 164 #[.string A] w' fun e w'' => e = .returned (.tuple #[.int .i64 (n : Int), .bool true]) ∧ Below w'.heap.size w' w''))
    (h1 : ¬ (n : Int) < 1) (h2 : ¬ (999999 : Int) < n) (h3 : (n : Int) ≤ s.size) (L X1 T K D : ByteArray) (X2 : Bool)
    (C2 : Hid (∀ w', Calls Tryz.prog 178 #[.string (s.extract 0 n), .string { data := #[10] }] w' fun e w'' => e = .returned (.tuple #[.string L, .bool true]) ∧ w' = w''))
    (C3 : Hid (∀ w', Calls Tryz.prog 177 #[.string L, .string { data := #[32] }] w' fun e w'' => e = .returned (.tuple #[.string X1, .string T, .bool X2]) ∧ Below w'.heap.size w' w''))
    (C4 : Hid (∀ w', Calls Tryz.prog 177 #[.string T, .string { data := #[61] }] w' fun e w'' => e = .returned (.tuple #[.string K, .string D, .bool true]) ∧ Below w'.heap.size w' w''))
    (Z : Int) (C5 : Hid (∀ w', Below w.heap.size w w' → Calls Tryz.prog 120 #[.agg #[.string K, .string D]] w' fun e w'' => e = .returned (.int .i64 Z) ∧ Below w'.heap.size w' w''))
    (h : ((n : Int) != Z) = true) : Calls Tryz.prog 160 #[.string s] w fun e w' => e = .returned (.tuple #[.agg (rz : List Value).toArray, .int .i64 6]) ∧ Below w.heap.size w w' := by
  have HZ := Lib.hid recZ; have HO := Lib.hid recO
  go_enter Tryz.func160, Tryz.ntmps160
  go_wp2_with (first | (refine wpList_alloc_obj rfl 107 rfl rz HZ.out ?_; intro w1 g1 b1; have H1 := Lib.hid g1; have B1 := Lib.hid b1; clear g1 b1))
  refine (C1.out _).mono ?_; rintro e w2 ⟨rfl, b2⟩
  have H2 := Lib.hid (H1.out.below b2 H1.out.lt)
  have B2 := Lib.hid (belT B1.out b2)
  clear b2
  go_wp2_with fail
  refine (P1.out _).mono ?_; rintro e w3 ⟨rfl, b3⟩
  have H3 := Lib.hid (H2.out.below b3 H2.out.lt)
  have B3 := Lib.hid (belT B2.out b3)
  clear b3
  go_wp2_with fail
  refine (C2.out _).mono ?_; rintro e w4 ⟨rfl, rfl⟩
  go_wp2_with fail
  refine (C3.out _).mono ?_; rintro e w5 ⟨rfl, b5⟩
  have H5 := Lib.hid (H3.out.below b5 H3.out.lt)
  have B5 := Lib.hid (belT B3.out b5)
  clear b5
  go_wp2_with fail
  refine (C4.out _).mono ?_; rintro e w6 ⟨rfl, b6⟩
  have H6 := Lib.hid (H5.out.below b6 H5.out.lt)
  have B6 := Lib.hid (belT B5.out b6)
  clear b6
  go_wp2_with (first | (refine wpList_alloc_obj rfl 107 rfl rz HZ.out ?_; intro w7 g7 b7; have R7 := Lib.hid g7; have H7 := Lib.hid (H6.out.below b7 H6.out.lt); have B7 := Lib.hid (belT B6.out b7); clear g7 b7) | (refine wpList_store_obj rfl 107 _ _ rfl w6.heap.size rfl [.string K, .string D] rz rfl 107 R7.out HO.out.2 rfl (rec_one _ _) ?_; intro w8 g8 t8; have R8 := Lib.hid g8; have H8 := Lib.hid (H7.out.turned t8 (Nat.ne_of_lt H6.out.lt)); have B8 := Lib.hid (B7.out.trans (t8.below B6.out.size)); have c0 := g8.get 0 rfl; have c1 := g8.get 1 rfl; clear g8 t8))
  refine (C5.out _ B8.out).mono ?_; rintro e w9 ⟨rfl, b9⟩
  have H9 := Lib.hid (H8.out.below b9 H8.out.lt)
  have R9 := Lib.hid (R8.out.below b9 R8.out.lt)
  have B9 := Lib.hid (belT B8.out b9)
  clear b9 c0 c1
  go_wp2_with (first | (refine wpList_store_obj rfl 107 _ _ rfl w.heap.size rfl rz rz rfl 107 H9.out HO.out.2 rfl rz_one ?_; intro w10 g10 t10; have H10 := Lib.hid g10; have T10 := Lib.hid t10; clear g10 t10))
  exact bodyPost_ret (results_obj_tmp Tryz.results160 HO.out _ w.heap.size rfl _ rz H10.out rfl) rfl ⟨rfl, B9.out.trans (T10.out.below (Nat.le_refl _))⟩
set_option maxHeartbeats 4000000 in
set_option maxRecDepth 100000 in
theorem pf_good (s : ByteArray) (w : World) (A A2 : ByteArray) (n : Nat)
    (C1 : Hid (∀ w', Calls Tryz.prog 177 #[.string s, .string { data := #[32] }] w' fun e w'' => e = .returned (.tuple #[.string A, .string A2, .bool true]) ∧ Below w'.heap.size w' w''))
    (P1 : Hid (∀ w', Calls Tryz.prog 164 #[.string A] w' fun e w'' => e = .returned (.tuple #[.int .i64 (n : Int), .bool true]) ∧ Below w'.heap.size w' w''))
    (h1 : ¬ (n : Int) < 1) (h2 : ¬ (999999 : Int) < n) (h3 : (n : Int) ≤ s.size) (L X1 T K D : ByteArray) (X2 : Bool)
    (C2 : Hid (∀ w', Calls Tryz.prog 178 #[.string (s.extract 0 n), .string { data := #[10] }] w' fun e w'' => e = .returned (.tuple #[.string L, .bool true]) ∧ w' = w''))
    (C3 : Hid (∀ w', Calls Tryz.prog 177 #[.string L, .string { data := #[32] }] w' fun e w'' => e = .returned (.tuple #[.string X1, .string T, .bool X2]) ∧ Below w'.heap.size w' w''))
    (C4 : Hid (∀ w', Calls Tryz.prog 177 #[.string T, .string { data := #[61] }] w' fun e w'' => e = .returned (.tuple #[.string K, .string D, .bool true]) ∧ Below w'.heap.size w' w''))
    (Z : Int) (C5 : Hid (∀ w', Below w.heap.size w w' → Calls Tryz.prog 120 #[.agg #[.string K, .string D]] w' fun e w'' => e = .returned (.int .i64 Z) ∧ Below w'.heap.size w' w''))
    (h : ((n : Int) != Z) = false) : Calls Tryz.prog 160 #[.string s] w fun e w' => e = .returned (.tuple #[.agg ([.string K, .string D] : List Value).toArray, .int .i64 0]) ∧ Below w.heap.size w w' := by
  have HZ := Lib.hid recZ; have HO := Lib.hid recO
  go_enter Tryz.func160, Tryz.ntmps160
  go_wp2_with (first | (refine wpList_alloc_obj rfl 107 rfl rz HZ.out ?_; intro w1 g1 b1; have H1 := Lib.hid g1; have B1 := Lib.hid b1; clear g1 b1))
  refine (C1.out _).mono ?_; rintro e w2 ⟨rfl, b2⟩
  have H2 := Lib.hid (H1.out.below b2 H1.out.lt)
  have B2 := Lib.hid (belT B1.out b2)
  clear b2
  go_wp2_with fail
  refine (P1.out _).mono ?_; rintro e w3 ⟨rfl, b3⟩
  have H3 := Lib.hid (H2.out.below b3 H2.out.lt)
  have B3 := Lib.hid (belT B2.out b3)
  clear b3
  go_wp2_with fail
  refine (C2.out _).mono ?_; rintro e w4 ⟨rfl, rfl⟩
  go_wp2_with fail
  refine (C3.out _).mono ?_; rintro e w5 ⟨rfl, b5⟩
  have H5 := Lib.hid (H3.out.below b5 H3.out.lt)
  have B5 := Lib.hid (belT B3.out b5)
  clear b5
  go_wp2_with fail
  refine (C4.out _).mono ?_; rintro e w6 ⟨rfl, b6⟩
  have H6 := Lib.hid (H5.out.below b6 H5.out.lt)
  have B6 := Lib.hid (belT B5.out b6)
  clear b6
  go_wp2_with (first | (refine wpList_alloc_obj rfl 107 rfl rz HZ.out ?_; intro w7 g7 b7; have R7 := Lib.hid g7; have H7 := Lib.hid (H6.out.below b7 H6.out.lt); have B7 := Lib.hid (belT B6.out b7); clear g7 b7) | (refine wpList_store_obj rfl 107 _ _ rfl w6.heap.size rfl [.string K, .string D] rz rfl 107 R7.out HO.out.2 rfl (rec_one _ _) ?_; intro w8 g8 t8; have R8 := Lib.hid g8; have H8 := Lib.hid (H7.out.turned t8 (Nat.ne_of_lt H6.out.lt)); have B8 := Lib.hid (B7.out.trans (t8.below B6.out.size)); have c0 := g8.get 0 rfl; have c1 := g8.get 1 rfl; clear g8 t8))
  refine (C5.out _ B8.out).mono ?_; rintro e w9 ⟨rfl, b9⟩
  have H9 := Lib.hid (H8.out.below b9 H8.out.lt)
  have R9 := Lib.hid (R8.out.below b9 R8.out.lt)
  have B9 := Lib.hid (belT B8.out b9)
  clear b9 c0 c1
  have c0 := R9.out.get 0 rfl
  have c1 := R9.out.get 1 rfl
  go_wp2_with (first | (refine wpList_store_obj rfl 107 _ _ rfl w.heap.size rfl [.string K, .string D] rz rfl 107 H9.out HO.out.2 rfl (rec_one _ _) ?_; intro w10 g10 t10; have H10 := Lib.hid g10; have T10 := Lib.hid t10; clear g10 t10))
  exact bodyPost_ret (results_obj_tmp Tryz.results160 HO.out _ w.heap.size rfl _ [.string K, .string D] H10.out rfl) rfl ⟨rfl, B9.out.trans (T10.out.below (Nat.le_refl _))⟩
end Go.Proofs.YtbbaleambgaanaaGreatDoor.Pxr
namespace Go.Proofs.YtbbaleambgaanaaGreatDoor.Pxr
open Go.RowKit
def tkX (zs : List Int) : Rec := if tkE zs = 0 then tkR zs else ({ data := #[] }, { data := #[] })
theorem bef_bd {c : Int} {zs : List Int} (h : ∀ z ∈ zs, 0 ≤ z ∧ z ≤ 255) : ∀ z ∈ bef c zs, 0 ≤ z ∧ z ≤ 255 := fun z hz => h z ((List.takeWhile_prefix _).subset hz)
theorem aft_bd {c : Int} {zs : List Int} (h : ∀ z ∈ zs, 0 ≤ z ∧ z ≤ 255) : ∀ z ∈ aft c zs, 0 ≤ z ∧ z ≤ 255 := fun z hz => h z (List.mem_of_mem_drop hz)
theorem take_bd {zs : List Int} (n : Nat) (h : ∀ z ∈ zs, 0 ≤ z ∧ z ≤ 255) : ∀ z ∈ zs.take n, 0 ≤ z ∧ z ≤ 255 := fun z hz => h z (List.mem_of_mem_take hz)
theorem bef_of_take {c : Int} {zs : List Int} {m : Nat} (h : c ∈ zs) (hm : (bef c zs).length < m) : bef c (zs.take m) = bef c zs ∧ c ∈ zs.take m := by
  obtain ⟨k, hk⟩ : ∃ k, m = (bef c zs).length + (k + 1) := ⟨m - (bef c zs).length - 1, by omega⟩
  have e : zs.take m = bef c zs ++ c :: (zs.drop ((bef c zs).length + 1)).take k := by
    conv => lhs; rw [bef_split h]
    rw [hk, List.take_length_add_append, List.take_succ_cons]
  constructor
  · rw [e, bef_app (bef_no c zs)]
  · rw [e]; simp
theorem no_of_take {c : Int} {zs : List Int} {m : Nat} (hm : m ≤ (bef c zs).length) : c ∉ zs.take m := fun h => by
  have e : zs.take m = (bef c zs).take m := by
    conv => rhs; rw [bef_take, List.take_take, Nat.min_eq_left hm]
  rw [e] at h
  exact bef_no c zs (List.mem_of_mem_take h)
theorem str_bd {zs : List Int} {m : Nat} (h : zs.length ≤ m) (hb : ∀ z ∈ zs, 0 ≤ z ∧ z ≤ 255) : (strOfNums zs).size ≤ m := by
  rw [← numsOf_length, numsOf_strOfNums hb]; exact h
set_option maxHeartbeats 1000000 in
theorem pfirst_any (s : ByteArray) (w : World) (V : Vars w) (hs : s.size ≤ 300000) : Calls Tryz.prog 160 #[.string s] w fun e w' =>
    e = .returned (.tuple #[.agg #[.string (tkX (numsOf s)).1, .string (tkX (numsOf s)).2], .int .i64 (tkE (numsOf s))]) ∧ Below w.heap.size w w' := by
  obtain ⟨zs, hzs⟩ : ∃ zs, zs = numsOf s := ⟨_, rfl⟩
  have hb : ∀ z ∈ zs, 0 ≤ z ∧ z ≤ 255 := by rw [hzs]; exact numsOf_bd s
  have hlen : zs.length = s.size := by rw [hzs, numsOf_length]
  have mx : ∀ k : Nat, k ≤ 300000 → k ≤ maxLen := fun k hk => by unfold maxLen; omega
  rw [← hzs]
  have C1 : Hid (∀ w', Calls Tryz.prog 177 #[.string s, .string { data := #[32] }] w' fun e w'' => e = .returned (.tuple #[.string (strOfNums (tkD zs)), .string (strOfNums (aft 32 zs)), .bool (decide ((32 : Int) ∈ zs))]) ∧ Below w'.heap.size w' w'') := fun w' => by
    rw [hzs]; exact cut_any s 32 w' (mx _ hs)
  have hA : numsOf (strOfNums (tkD zs)) = tkD zs := numsOf_strOfNums (bef_bd hb)
  have hAs : (strOfNums (tkD zs)).size ≤ maxLen := mx _ (str_bd (by have := bef_le 32 zs; unfold tkD; omega) (bef_bd hb))
  have P1 : Hid (∀ w', Calls Tryz.prog 164 #[.string (strOfNums (tkD zs))] w' fun e w'' => e = .returned (.tuple #[.int .i64 (pnV (tkD zs)), .bool (decOk (tkD zs))]) ∧ Below w'.heap.size w' w'') := fun w' => by
    have := pnum_any (strOfNums (tkD zs)) w' hAs
    rwa [hA] at this
  by_cases h1 : (32 : Int) ∉ zs ∨ decOk (tkD zs) = false ∨ tkN zs = 0 ∨ 999999 < tkN zs
  · have eE : tkE zs = 6 := by unfold tkE; rw [if_pos h1]
    have eX : tkX zs = ({ data := #[] }, { data := #[] }) := by unfold tkX; rw [eE]; rfl
    rw [eX, eE]
    refine pf_early s w _ _ _ _ _ C1 P1 ?_
    by_cases a1 : (32 : Int) ∈ zs
    · rw [decide_eq_true a1]
      by_cases a2 : decOk (tkD zs) = false
      · exact .inr (.inl ⟨rfl, a2⟩)
      · have a2' : decOk (tkD zs) = true := by simpa using a2
        have a3 := (h1.resolve_left (fun h => h a1)).resolve_left a2
        have ep : pnV (tkD zs) = min (tkN zs : Int) 1099511627777 := by unfold pnV; rw [if_pos a2']; rfl
        rw [ep]
        rcases a3 with a3 | a3
        · exact .inr (.inr (.inl ⟨rfl, a2', by omega⟩))
        · exact .inr (.inr (.inr ⟨rfl, a2', by omega, by omega⟩))
    · rw [decide_eq_false a1]; exact .inl rfl
  · have h1' := h1
    simp only [not_or, Decidable.not_not, Bool.not_eq_false, Nat.not_lt] at h1
    obtain ⟨a1, a2, a3, a4⟩ := h1
    rw [decide_eq_true a1] at C1
    have ep : pnV (tkD zs) = (tkN zs : Int) := by unfold pnV; rw [if_pos a2]; show min (tkN zs : Int) _ = _; omega
    rw [ep, a2] at P1
    by_cases h2 : zs.length < tkN zs
    · have eE : tkE zs = 5 := by unfold tkE; rw [if_neg h1', if_pos h2]
      have eX : tkX zs = ({ data := #[] }, { data := #[] }) := by unfold tkX; rw [eE]; rfl
      rw [eX, eE]
      exact pf_trunc s w _ _ _ C1 P1 (by omega) (by omega) (by omega)
    · obtain ⟨n, hn⟩ : ∃ n, n = tkN zs := ⟨_, rfl⟩
      rw [← hn] at P1 a3 a4 h2
      have hex : numsOf (s.extract 0 n) = zs.take n := by rw [nums_ext, ← hzs]; rfl
      have hexs : (s.extract 0 n).size = n := by rw [← numsOf_length, hex, List.length_take]; omega
      have cutA : ∀ (t : ByteArray) (c : UInt8), t.size ≤ 300000 → Hid (∀ w', Calls Tryz.prog 177 #[.string t, .string ⟨#[c]⟩] w' fun e w'' =>
          e = .returned (.tuple #[.string (strOfNums (bef c.toNat (numsOf t))), .string (strOfNums (aft c.toNat (numsOf t))), .bool (decide ((c.toNat : Int) ∈ numsOf t))]) ∧ Below w'.heap.size w' w'') := fun t c ht w' => cut_any t c w' (mx _ ht)
      have asz : ∀ (c : Int) (t : ByteArray), t.size ≤ 300000 → (strOfNums (aft c (numsOf t))).size ≤ 300000 := fun c t ht => str_bd (by unfold aft; rw [List.length_drop, numsOf_length]; omega) (aft_bd (numsOf_bd t))
      by_cases h3 : zs.getD (n - 1) 0 = 10
      · have C2 : Hid (∀ w', Calls Tryz.prog 178 #[.string (s.extract 0 n), .string { data := #[10] }] w' fun e w'' => e = .returned (.tuple #[.string ((s.extract 0 n).extract 0 (n - 1)), .bool true]) ∧ w' = w'') := fun w' => by
          have := suf_yes (s.extract 0 n) w' (mx _ (by omega)) (by omega) (by rw [hex, hexs, List.getD_eq_getElem?_getD, List.getElem?_take, if_pos (by omega), ← List.getD_eq_getElem?_getD]; exact h3)
          rwa [hexs] at this
        obtain ⟨L, hL⟩ : ∃ L, L = (s.extract 0 n).extract 0 (n - 1) := ⟨_, rfl⟩
        rw [← hL] at C2
        have hLn : numsOf L = zs.take (n - 1) := by rw [hL, nums_ext, hex, List.drop_zero, Nat.sub_zero, List.take_take, Nat.min_eq_left (by omega)]
        have hLs : L.size ≤ 300000 := by rw [← numsOf_length, hLn, List.length_take]; omega
        have C3 := cutA L 32 hLs
        obtain ⟨T, hT⟩ : ∃ T, T = strOfNums (aft ((32 : UInt8).toNat : Int) (numsOf L)) := ⟨_, rfl⟩
        have hTn : numsOf T = aft 32 (zs.take (n - 1)) := by rw [hT, hLn]; exact numsOf_strOfNums (aft_bd (take_bd _ hb))
        have hTs : T.size ≤ 300000 := by rw [hT]; exact asz _ L hLs
        rw [← hT] at C3
        have C4 := cutA T 61 hTs
        by_cases h4 : n < (tkD zs).length + 2
        · have hT0 : numsOf T = [] := by rw [hTn]; exact aft_none (no_of_take (by unfold tkD at h4; omega))
          have hEQ : decide (((61 : UInt8).toNat : Int) ∈ numsOf T) = false := by rw [hT0]; rfl
          rw [hEQ] at C4
          have eE : tkE zs = 6 := by unfold tkE; rw [if_neg h1', if_neg (by rw [← hn]; exact h2), if_pos (.inl (by rw [← hn]; exact h4))]
          have eX : tkX zs = ({ data := #[] }, { data := #[] }) := by unfold tkX; rw [eE]; rfl
          rw [eX, eE]
          exact pf_noline s w _ _ n C1 P1 (by omega) (by omega) (by omega) L _ T _ _ true _ false C2 C3 C4 (.inr ⟨rfl, rfl⟩)
        · have hTB : numsOf T = tkB zs := by
            rw [hTn]; unfold aft
            rw [(bef_of_take a1 (show (bef 32 zs).length < n - 1 by unfold tkD at h4; omega)).1]
            unfold tkB; rw [← hn]; rfl
          rw [hTB] at C4
          by_cases h5 : (61 : Int) ∈ tkB zs
          · have hEQ : decide (((61 : UInt8).toNat : Int) ∈ tkB zs) = true := decide_eq_true h5
            rw [hEQ] at C4
            have hKD : strOfNums (bef ((61 : UInt8).toNat : Int) (tkB zs)) = (tkR zs).1 ∧ strOfNums (aft ((61 : UInt8).toNat : Int) (tkB zs)) = (tkR zs).2 := ⟨rfl, rfl⟩
            rw [hKD.1, hKD.2] at C4
            have C3' : Hid (∀ w', Calls Tryz.prog 177 #[.string L, .string { data := #[32] }] w' fun e w'' => e = .returned (.tuple #[.string (strOfNums (bef ((32 : UInt8).toNat : Int) (numsOf L))), .string T, .bool (decide (((32 : UInt8).toNat : Int) ∈ numsOf L))]) ∧ Below w'.heap.size w' w'') := C3
            have ho := oth_tk hb
            have ho6 : oth ((tkR zs).1, (tkR zs).2) ≤ 1000000 := by
              show oth (tkR zs) ≤ _
              rw [ho]; have := kv_len zs; omega
            have C5 : Hid (∀ w', Below w.heap.size w w' → Calls Tryz.prog 120 #[.agg #[.string (tkR zs).1, .string (tkR zs).2]] w' fun e w'' => e = .returned (.int .i64 ((szR (tkR zs) : Nat) : Int)) ∧ Below w'.heap.size w' w'') := fun w' hbw =>
              size_any (tkR zs).1 (tkR zs).2 w' (V.go hbw) ho6
            have hsz : szR (tkR zs) = szN ((tkK zs).length + (tkV zs).length + 3) := by unfold szR; rw [ho]
            by_cases h6 : szN ((tkK zs).length + (tkV zs).length + 3) = tkN zs
            · have T0 : TkOk zs := ⟨a1, a2, by omega, by omega, by omega, by omega, by rw [← hn]; exact h3, h5, h6⟩
              have eE : tkE zs = 0 := (tkE_ok zs).2 T0
              have eX : tkX zs = tkR zs := by unfold tkX; rw [if_pos eE]
              rw [eX, eE]
              exact pf_good s w _ _ n C1 P1 (by omega) (by omega) (by omega) L _ T _ _ _ C2 C3' C4 _ C5 (by rw [hsz, h6, hn]; simp)
            · have eE : tkE zs = 6 := by unfold tkE; rw [if_neg h1', if_neg (by rw [← hn]; exact h2), if_pos (.inr (.inr (.inr h6)))]
              have eX : tkX zs = ({ data := #[] }, { data := #[] }) := by unfold tkX; rw [eE]; rfl
              rw [eX, eE]
              exact pf_size s w _ _ n C1 P1 (by omega) (by omega) (by omega) L _ T _ _ _ C2 C3' C4 _ C5 (by rw [hsz, hn]; simp; omega)
          · have hEQ : decide (((61 : UInt8).toNat : Int) ∈ tkB zs) = false := decide_eq_false h5
            rw [hEQ] at C4
            have eE : tkE zs = 6 := by unfold tkE; rw [if_neg h1', if_neg (by rw [← hn]; exact h2), if_pos (.inr (.inr (.inl h5)))]
            have eX : tkX zs = ({ data := #[] }, { data := #[] }) := by unfold tkX; rw [eE]; rfl
            rw [eX, eE]
            exact pf_noline s w _ _ n C1 P1 (by omega) (by omega) (by omega) L _ T _ _ true _ false C2 C3 C4 (.inr ⟨rfl, rfl⟩)
      · have C2 : Hid (∀ w', Calls Tryz.prog 178 #[.string (s.extract 0 n), .string { data := #[10] }] w' fun e w'' => e = .returned (.tuple #[.string (s.extract 0 n), .bool false]) ∧ w' = w'') := fun w' =>
          suf_no (s.extract 0 n) w' (mx _ (by omega)) (.inr (by rw [hex, hexs, List.getD_eq_getElem?_getD, List.getElem?_take, if_pos (by omega), ← List.getD_eq_getElem?_getD]; exact h3))
        have C3 := cutA (s.extract 0 n) 32 (by omega)
        have C4 := cutA (strOfNums (aft ((32 : UInt8).toNat : Int) (numsOf (s.extract 0 n)))) 61 (asz _ _ (by omega))
        have eE : tkE zs = 6 := by unfold tkE; rw [if_neg h1', if_neg (by rw [← hn]; exact h2), if_pos (.inr (.inl (by rw [← hn]; exact h3)))]
        have eX : tkX zs = ({ data := #[] }, { data := #[] }) := by unfold tkX; rw [eE]; rfl
        rw [eX, eE]
        exact pf_noline s w _ _ n C1 P1 (by omega) (by omega) (by omega) _ _ _ _ _ false _ _ C2 C3 C4 (.inl rfl)
end Go.Proofs.YtbbaleambgaanaaGreatDoor.Pxr
