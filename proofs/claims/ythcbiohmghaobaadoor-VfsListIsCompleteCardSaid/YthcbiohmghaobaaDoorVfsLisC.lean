/-
  Layer 19: slices.Contains, slices.Equal at rows of strings.
-/
import Derived.Test.YthcbiohmghaobaaDoorVfsSort
namespace Go.Proofs.YthcbiohmghaobaaDoor.Vfs
open Go.RowKit Go.Proofs.YthcbiohmghaobaaDoor.Pnm

theorem at_cells {w : World} {b off : Nat} {zs : List ByteArray} (h : SsAt w b off zs) : ∀ j, j < zs.length → w.cell? ⟨b, off + j, none⟩ = some (.string (zs.getD j ByteArray.empty)) := fun j hj => h j _ (by
  rw [List.getD_eq_getElem?_getD, List.getElem?_eq_getElem hj]; rfl)
theorem con_any {w : World} {n c : Nat} {a : Option Addr} {zs : List ByteArray} (h : SsIn w a zs) (hl : zs.length = n) (hn : n ≤ 8796093022208) (x : ByteArray) :
    Calls Tryd.prog 28 #[.slice a n c, .string x] w fun e w' => e = .returned (.bool (Lib.containsS zs x)) ∧ w' = w := by
  rcases h with rfl | ⟨b, off, rfl, _, hat⟩
  · obtain rfl : n = 0 := hl.symm
    exact Tryd.slices_Contains_string_empty a c x w
  · have := Tryd.slices_Contains_string b off n c zs x w (by omega) (by omega) (at_cells hat)
    rwa [List.take_of_length_le (by omega)] at this
theorem eq_same {w : World} {n c1 c2 : Nat} {a1 a2 : Option Addr} {zs : List ByteArray} (h1 : SsIn w a1 zs) (h2 : SsIn w a2 zs) (hl : zs.length = n) (hn : n ≤ 8796093022208) :
    Calls Tryd.prog 19 #[.slice a1 n c1, .slice a2 n c2] w fun e w' => e = .returned (.bool true) ∧ Below w.heap.size w w' := by
  rcases h1 with rfl | ⟨b1, o1, rfl, _, hat1⟩
  · obtain rfl : n = 0 := hl.symm
    exact (Tryd.slices_Equal_string_empty a1 a2 c1 0 c2 w (by omega)).mono fun e w' ⟨q1, q2⟩ => ⟨q1, by rw [q2]; exact Below.refl _ _⟩
  · rcases h2 with rfl | ⟨b2, o2, rfl, _, hat2⟩
    · obtain rfl : n = 0 := hl.symm
      exact (Tryd.slices_Equal_string_empty _ a2 c1 0 c2 w (by omega)).mono fun e w' ⟨q1, q2⟩ => ⟨q1, by rw [q2]; exact Below.refl _ _⟩
    · have := Tryd.slices_Equal_string b1 o1 n c1 b2 o2 n c2 zs zs w (by omega) (by omega) (by omega) (by omega) (at_cells hat1) (at_cells hat2)
      refine this.mono fun e w' ⟨q1, q, q2⟩ => ⟨by rw [q1]; simp, by rw [q2]; exact drewN_below _ _ _⟩
end Go.Proofs.YthcbiohmghaobaaDoor.Vfs
