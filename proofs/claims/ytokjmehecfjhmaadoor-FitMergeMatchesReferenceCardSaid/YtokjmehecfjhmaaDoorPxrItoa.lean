/-
  Layer 9: strconv.Itoa.
-/
import Derived.Test.YtokjmehecfjhmaaDoorPxrVars
import Derived.Test.YtokjmehecfjhmaaDoorShelf
import Derived.Test.YtokjmehecfjhmaaDoorObj
namespace Go.Proofs.YtokjmehecfjhmaaDoor.Pxr
open Go.RowKit

theorem str_decD (n : Nat) : (⟨(Lib.decDigits n).toArray⟩ : ByteArray) = strOfNums (decD n) := by
  rw [← strOfNums_numsOf ⟨(Lib.decDigits n).toArray⟩]; rfl
theorem strD_size (n : Nat) : (strOfNums (decD n)).size = Lib.nDigits n := by
  rw [← str_decD, Lib.size_eq]; exact Lib.decDigits_length n

theorem grow_below {B : Nat} (w : World) (k : Nat) (os : Array Obj) (hB : B ≤ w.heap.size) : Below B w (Sort.grow (w.drewN k) os) :=
  ⟨rfl, rfl, rfl, by simp [Sort.grow], fun i hi => by
    show (w.heap ++ os)[i]? = w.heap[i]?
    exact Array.getElem?_append_left (by omega)⟩

theorem itoa_any (n : Nat) (hn : n ≤ 9223372036854775807) (w : World) (V : Vars w) : Calls Tryd.prog 34 #[.int .i64 (n : Int)] w fun e w' => e = .returned (.string (strOfNums (decD n))) ∧ Below w.heap.size w w' := by
  refine (Tryd.strconv_Itoa (n : Int) (by omega) (by omega) w V.tab).mono ?_
  rintro e w' ⟨rfl, k, os, rfl⟩
  refine ⟨?_, grow_below w k os (Nat.le_refl _)⟩
  unfold Lib.itoa
  rw [if_neg (by omega), Int.toNat_natCast, str_decD]
end Go.Proofs.YtokjmehecfjhmaaDoor.Pxr
