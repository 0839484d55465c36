/-
  Layer 15: the program's New.
-/
import Derived.Test.YtinmkgpmoclcoaaDoorRebBd
namespace Go.Proofs.YtinmkgpmoclcoaaDoor.Reb
open Go.RowKit Go.MapKept Go.Proofs.YtinmkgpmoclcoaaDoor.Fit Pnm Tre Flt

set_option maxHeartbeats 1000000 in
theorem new_any (w : World) : Calls Tryd.prog 14 #[] w fun e w' => ∃ S g, e = .returned (.pointer (some ⟨g, 0, none⟩)) ∧ PBd w' S g [] ∧ (∀ k, S k → w.heap.size ≤ k) ∧ Below w.heap.size w w' := by
  go_enter Tryd.func14, Tryd.ntmps14
  go_wp2_with (first | (have q1 := M1.out; clear q1; refine wpList_make_mapF rfl _ rfl .string ?_; intro w2 m2 b2; have M2 := Lib.hid m2; have M3 := Lib.hid (M1.out.below b2 M1.out.lt); have B2 := Lib.hid (belT B1.out b2); have L2 := Lib.hid M1.out.lt; clear m2 b2 M1) | (refine wpList_make_mapF rfl _ rfl .string ?_; intro w1 m1 b1; have M1 := Lib.hid m1; have B1 := Lib.hid b1; clear m1 b1) | (refine wpList_box_obj rfl 60 _ rfl [.slice none 0 0, .map (some w.heap.size), .map (some w1.heap.size)] rfl ?_; intro w4 g4 b4; have G4 := Lib.hid g4; have M4 := Lib.hid (M2.out.below b4 M2.out.lt); have M5 := Lib.hid (M3.out.below b4 M3.out.lt); have B4 := Lib.hid (belT B2.out b4); clear g4 b4))
  go_ret
  refine ⟨fun k => w.heap.size ≤ k ∧ k < w4.heap.size, _, rfl, PBd.nil G4.out M5.out M4.out (Nat.ne_of_lt L2.out) ⟨B2.out.size, G4.out.lt⟩ ⟨Nat.le_refl _, M5.out.lt⟩ ⟨B1.out.size, M4.out.lt⟩ fun k h => h.2, fun k h => h.1, B4.out⟩
end Go.Proofs.YtinmkgpmoclcoaaDoor.Reb
