/-
  Layer 6: what Next delivers. No memory.
-/
import Derived.Test.YtnnengigahakaaaElem
namespace Go.Proofs.Ytnnengigahakaaa

/-- the bytes of a block read at o, its error, the offset behind it; Z: what the source delivers, E: its error then; err: the reader's error -/
def nxB (Z : List Int) (o : Nat) (err : Int) : List Int := if err = 0 ∧ o + 512 ≤ Z.length then (Z.drop o).take 512 else []
def nxE (Z : List Int) (E : Int) (o : Nat) (err : Int) : Int := if err ≠ 0 then err else if o + 512 ≤ Z.length then 0 else if E = 4 ∧ o < Z.length then 5 else E
def nxO (Z : List Int) (o : Nat) (err : Int) : Nat := if err ≠ 0 then o else if o + 512 ≤ Z.length then o + 512 else Z.length

theorem nxO_le {Z : List Int} {o : Nat} {err : Int} (h : o ≤ Z.length) : nxO Z o err ≤ Z.length := by unfold nxO; split; exact h; split <;> omega
theorem nxB_len (Z : List Int) (o : Nat) (err : Int) : (nxB Z o err).length ≤ 512 := by
  unfold nxB; split
  · rw [List.length_take]; omega
  · exact Nat.zero_le _
theorem nxB_bytes {Z : List Int} (h : Bytes Z) (o : Nat) (err : Int) : Bytes (nxB Z o err) := by
  unfold nxB; split
  · exact (h.drop o).take _
  · exact fun z hz => by simp at hz
theorem nx_err {Z : List Int} {E : Int} {o : Nat} {err : Int} (h : err ≠ 0) : nxB Z o err = [] ∧ nxE Z E o err = err ∧ nxO Z o err = o := by
  unfold nxB nxE nxO
  rw [if_neg (fun h' => h h'.1), if_pos h, if_pos h]
  exact ⟨rfl, rfl, rfl⟩
theorem nx_go {Z : List Int} {E : Int} {o : Nat} (h : o + 512 ≤ Z.length) : nxB Z o 0 = (Z.drop o).take 512 ∧ nxE Z E o 0 = 0 ∧ nxO Z o 0 = o + 512 := by
  unfold nxB nxE nxO
  rw [if_pos ⟨rfl, h⟩, if_neg (c := (0 : Int) ≠ 0) (fun h => h rfl), if_pos h, if_neg (c := (0 : Int) ≠ 0) (fun h => h rfl), if_pos h]
  exact ⟨rfl, rfl, rfl⟩
theorem nx_stop {Z : List Int} {E : Int} {o : Nat} (h : ¬ o + 512 ≤ Z.length) : nxB Z o 0 = [] ∧ nxE Z E o 0 = (if E = 4 ∧ o < Z.length then 5 else E) ∧ nxO Z o 0 = Z.length := by
  unfold nxB nxE nxO
  rw [if_neg (fun h' => h h'.2), if_neg (c := (0 : Int) ≠ 0) (fun h => h rfl), if_neg h, if_neg (c := (0 : Int) ≠ 0) (fun h => h rfl), if_neg h]
  exact ⟨rfl, rfl, rfl⟩
end Go.Proofs.Ytnnengigahakaaa
