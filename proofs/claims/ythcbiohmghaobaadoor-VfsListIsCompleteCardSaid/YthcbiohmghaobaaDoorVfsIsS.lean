/-
  Layer 19: slices.IsSorted at strings; sorted names.
-/
import Derived.Test.YthcbiohmghaobaaDoorVfsTrn
import Derived.BigQuiet
import Derived.Deep.QuietTactic
import Derived.Sort.Walk0
namespace Go.Proofs.YthcbiohmghaobaaDoor.Vfs
open Go.RowKit Go.Shelf Go.Proofs.YthcbiohmghaobaaDoor.Pnm Flt Hep Go.Sort

theorem unB_list (s : ByteArray) : s.toList = s.data.toList := ByteArray.toList_eq s
theorem srt_pair (zs : List ByteArray) : (srtB zs).Pairwise Le := by
  have h : ((unB zs).mergeSort fun x y => decide (x ≤ y)).Pairwise fun x y => decide (x ≤ y) = true := List.pairwise_mergeSort (fun a b c h1 h2 => by
    simp only [decide_eq_true_eq] at *
    exact List.le_trans h1 h2) (fun a b => by
    simp only [Bool.or_eq_true, decide_eq_true_eq]
    exact List.le_total a b) _
  unfold srtB toB
  refine List.Pairwise.map _ (fun x y hxy => ?_) h
  unfold Le
  rw [unB_list, unB_list, bytesLess_eq]
  have hxy := of_decide_eq_true hxy
  show decide (y < x) = false
  exact decide_eq_false (List.not_lt.2 hxy)
/-- two rows of the same names, both sorted, are one -/
theorem srt_uniq {xs ys : List ByteArray} (h : xs.Perm ys) : srtB xs = srtB ys :=
  ((srtB_perm xs).trans (h.trans (srtB_perm ys).symm)).eq_of_pairwise (fun a b _ _ h1 h2 => le_an a b h1 h2) (srt_pair xs) (srt_pair ys)
theorem srt_srt (zs : List ByteArray) : srtB (srtB zs) = srtB zs := srt_uniq (srtB_perm zs)
theorem srt_step {zs : List ByteArray} {i : Nat} {x y : ByteArray} (hx : (srtB zs)[i]? = some x) (hy : (srtB zs)[i + 1]? = some y) : Op.bytesLess y.toList x.toList = false := by
  obtain ⟨h1, rfl⟩ := List.getElem?_eq_some_iff.1 hx
  obtain ⟨h2, rfl⟩ := List.getElem?_eq_some_iff.1 hy
  exact List.pairwise_iff_getElem.1 (srt_pair zs) i (i + 1) h1 h2 (by omega)
theorem srt_ne {zs : List ByteArray} (hn : zs.Nodup) {i : Nat} {x y : ByteArray} (hx : (srtB zs)[i]? = some x) (hy : (srtB zs)[i + 1]? = some y) : x ≠ y := by
  obtain ⟨h1, rfl⟩ := List.getElem?_eq_some_iff.1 hx
  obtain ⟨h2, rfl⟩ := List.getElem?_eq_some_iff.1 hy
  exact List.pairwise_iff_getElem.1 ((srtB_perm zs).nodup_iff.2 hn) i (i + 1) h1 h2 (by omega)
set_option maxRecDepth 100000 in
theorem nan_no (x : ByteArray) (w : World) : Calls Tryd.prog 86 #[.string x] w fun e w' => e = .returned (.bool false) ∧ w = w' := by
  go_enter Tryd.func86, Tryd.ntmps86
  go_wp2_with fail
  go_ret
  exact ⟨by simp, rfl⟩
set_option maxRecDepth 100000 in
theorem cless_any (x y : ByteArray) (w : World) : Calls Tryd.prog 58 #[.string x, .string y] w fun e w' => e = .returned (.bool (Op.bytesLess x.toList y.toList)) ∧ w' = w := by
  go_enter Tryd.func58, Tryd.ntmps58
  go_wp2_with fail
  refine (nan_no x w).mono ?_; rintro e w1 ⟨rfl, rfl⟩
  go_wp2_with fail
  go_ret
  exact ⟨rfl, rfl⟩
set_option maxRecDepth 100000 in
set_option maxHeartbeats 4000000 in
theorem issorted_any {w : World} {n c : Nat} {a : Option Addr} {zs : List ByteArray} (h : SsIn w a zs) (hl : zs.length = n) (hnc : n ≤ c) (hn : n ≤ 8796093022208) (hs : ∀ (i : Nat) x y, zs[i]? = some x → zs[i + 1]? = some y → Op.bytesLess y.toList x.toList = false) :
    Calls Tryd.prog 30 #[.slice a n c] w fun e w' => e = .returned (.bool true) ∧ Below w.heap.size w w' := by
  have HS := Lib.hid hs; have HH := Lib.hid h; have HL := Lib.hid hl; have HN := Lib.hid hn; have HC := Lib.hid hnc
  have w1 : IntKind.i64.wrap ((n : Int) - 1) = (n : Int) - 1 := by rw [IntWalk.i64_left]; unfold wrap64; omega
  clear hs h hl hnc
  go_enter Tryd.func30, Tryd.ntmps30
  go_wp2_with fail
  clear w1
  go_loopw [3] (fun i wr => ∃ z : Int, i = .int .i64 z ∧ -1 ≤ z ∧ z < n ∧ Hid (Below w.heap.size w wr)) (fun i _ => (intOf i).toNat)
  case atStart => exact ⟨(n : Int) - 1, rfl, by omega, by omega, Below.refl _ _⟩
  case round =>
    obtain ⟨z, rfl, hz0, hzn, HB⟩ := hrel
    by_cases hz : 0 < z
    · obtain ⟨j, rfl⟩ : ∃ j : Nat, z = (j : Int) + 1 := ⟨(z - 1).toNat, by omega⟩
      have hj : j + 1 < zs.length := by rw [HL.out]; omega
      obtain ⟨b, off, rfl, hb, hat⟩ := HH.out.resolve_left (by rintro rfl; simp at hj)
      obtain ⟨x, hx⟩ : ∃ x, zs[j]? = some x := ⟨_, List.getElem?_eq_getElem (by omega)⟩
      obtain ⟨y, hy⟩ : ∃ y, zs[j + 1]? = some y := ⟨_, List.getElem?_eq_getElem hj⟩
      have c0 := hat.below HB.out hb j x hx
      have c1 := hat.below HB.out hb (j + 1) y hy
      have LT : Hid (∀ W, Calls Tryd.prog 58 #[.string y, .string x] W fun e w' => e = .returned (.bool false) ∧ w' = W) := fun W => by have := cless_any y x W; rw [HS.out j x y hx hy] at this; exact this
      have wj : IntKind.i64.wrap ((j : Int) + 1 - 1) = (j : Int) := by rw [Int.add_sub_cancel]; exact wrapP (by omega) (by have := HN.out; omega)
      have j1 : (j : Int) + 1 < n := hzn
      have j2 : (j : Int) < n := by omega
      have j3 : (j : Int) + 1 < c := by have := HC.out; omega
      have j4 : (j : Int) < c := by omega
      have tn : ((j : Int) + 1).toNat = j + 1 := by omega
      clear hat hx hy hj
      go_wp2_with fail
      go_quiet (first | (go_at_call 58; refine Calls.quiet_of_same (LT.out _)))
      go_wp2
      go_roundw
      case rel => exact ⟨(j : Int), by first | rfl | go_num, by omega, by omega, HB.out.trans (drewN_below _ _ _)⟩
      case measure => simp [intOf]
    · clear hzn hz0
      go_wp2_with fail
      go_ret
      exact ⟨rfl, HB.out⟩
end Go.Proofs.YthcbiohmghaobaaDoor.Vfs
