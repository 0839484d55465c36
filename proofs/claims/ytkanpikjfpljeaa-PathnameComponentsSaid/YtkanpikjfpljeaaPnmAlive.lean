/-
  Layer 8: the walk of the statements' own 'alive'.
-/
import Derived.Test.YtkanpikjfpljeaaPnmIface
import Derived.Test.YtkanpikjfpljeaaStrRep
import Derived.Test.YtkanpikjfpljeaaShelf
namespace Go.Proofs.Ytkanpikjfpljeaa.Pnm
open Go.RowKit

def exP : List Int := List.replicate 99 100 ++ 47 :: List.replicate 60 110
theorem ex_len : exP.length = 160 := by unfold exP; simp
theorem ex_split : splP exP = List.replicate 99 100 ∧ splN exP = List.replicate 60 110 ∧ splB exP = true := by decide +kernel
theorem ex_par : parZ (numsOf { data := #[97, 47, 98, 47, 99] }) = [97, 47, 98] := by decide
theorem ex_str : strOfNums [97, 47, 98] = { data := #[97, 47, 98] } := by decide
theorem size_str {l : List Int} (h : ∀ z ∈ l, 0 ≤ z ∧ z ≤ 255) : (strOfNums l).size = l.length := by rw [← numsOf_length, numsOf_strOfNums h]
theorem rep_bd {n : Nat} {c : Int} (h : 0 ≤ c ∧ c ≤ 255) : ∀ z ∈ List.replicate n c, 0 ≤ z ∧ z ≤ 255 := fun z hz => by rw [(List.mem_replicate.1 hz).2]; exact h

set_option maxHeartbeats 2000000 in
theorem alive_any (w : World) : Calls Try.prog 11 #[] w fun e w' => e = .returned (.bool true) ∧ Below w.heap.size w w' := by
  obtain ⟨S1, h1⟩ := named (⟨(Lib.repeatL [100] 99).toArray⟩ : ByteArray)
  obtain ⟨S2, h2⟩ := named (⟨(Lib.repeatL [110] 60).toArray⟩ : ByteArray)
  have N1 : Hid (numsOf S1 = List.replicate 99 100) := by show _ = _; rw [h1.out]; exact nums_rep 100 99
  have N2 : Hid (numsOf S2 = List.replicate 60 110) := by show _ = _; rw [h2.out]; exact nums_rep 110 60
  have z1 : S1.size = 99 := by rw [← numsOf_length, N1.out, List.length_replicate]
  have z2 : S2.size = 60 := by rw [← numsOf_length, N2.out, List.length_replicate]
  obtain ⟨A, hA⟩ := named (strOfNums (List.replicate 99 100))
  obtain ⟨B, hB⟩ := named (strOfNums (List.replicate 60 110))
  have y1 : A.size = 99 := by rw [hA.out, size_str (rep_bd (by decide)), List.length_replicate]
  have y2 : B.size = 60 := by rw [hB.out, size_str (rep_bd (by decide)), List.length_replicate]
  go_enter Try.func11, Try.ntmps11
  go_wp2_with fail
  refine (Try.strings_Repeat ⟨#[100]⟩ 99 w (by decide) (by decide)).mono ?_; rintro e w1 ⟨rfl, b1⟩
  have B1 := Lib.hid b1; clear b1
  rw [show (⟨#[100]⟩ : ByteArray).data.toList = [100] from rfl, ← h1.out]
  go_wp2_with fail
  refine (Try.strings_Repeat ⟨#[110]⟩ 60 w1 (by decide) (by decide)).mono ?_; rintro e w2 ⟨rfl, b2⟩
  have B2 := Lib.hid (B1.out.trans (b2.mono B1.out.size)); clear b2
  rw [show (⟨#[110]⟩ : ByteArray).data.toList = [110] from rfl, ← h2.out]
  go_wp2_with fail
  have ez : numsOf (S1 ++ { data := #[47] } ++ S2) = exP := by rw [nums_cat, nums_cat, N1.out, N2.out, List.append_assoc]; rfl
  refine (psplit _ w2 (by rw [← numsOf_length, ez, ex_len]; unfold maxLen; omega)).mono ?_; rintro e w3 ⟨rfl, b3⟩
  rw [ez, ex_split.1, ex_split.2.1, ex_split.2.2, ← hA.out, ← hB.out]
  have B3 := Lib.hid (B2.out.trans (b3.mono B2.out.size)); clear b3
  go_wp2_with fail
  refine (pparent _ w3 (by decide)).mono ?_; rintro e w4 ⟨rfl, b4⟩
  rw [ex_par, ex_str]
  have B4 := Lib.hid (B3.out.trans (b4.mono B3.out.size)); clear b4
  go_wp2_with fail
  go_ret
  exact ⟨rfl, B4.out⟩
end Go.Proofs.Ytkanpikjfpljeaa.Pnm
