/-
  Layer 14: the program's nodeMember and linkMember.
-/
import Derived.Test.YtmbimnnacjbdfaaDoorMbsRow
import Derived.Test.YtmbimnnacjbdfaaDoorPk06
namespace Go.Proofs.YtmbimnnacjbdfaaDoor.Flt
open Go.RowKit Go.Proofs.YtmbimnnacjbdfaaDoor.Fit Tre

theorem mbT : ObjT Tryd.prog 46 6 := ⟨⟨_, Tryd.underlying46⟩, by kernel_rfl⟩
theorem zMb : (Tryd.prog.info? 46).map (·.zero) = some (some (.agg (mbC 0 emp 0 emp 0 none 0 0).toArray)) := by kernel_rfl
theorem mb_one (k : Int) (p : ByteArray) (m : Int) (t : ByteArray) (s : Int) (a : Option Addr) (n cap : Nat) : ∀ v ∈ mbC k p m t s a n cap, v.oneCell' = true := by simp [Value.oneCell']

set_option maxHeartbeats 2000000 in
theorem linkM_any (k : Int) (p : ByteArray) (m : Int) (t : ByteArray) (a : Option Addr) (n cap : Nat) (c : Int) (q : ByteArray) (w : World) :
    Calls Tryd.prog 33 #[.agg (ndL k p m t a n cap c).toArray, .string q] w fun e w' => e = .returned (.agg (mbC 3 p m q 0 none 0 0).toArray) ∧ Below w.heap.size w w' := by
  have MZ := Lib.hid zMb
  have MO := Lib.hid mbT
  go_enter Tryd.func33, Tryd.ntmps33
  go_wp2_with (first | (refine wpList_box_obj rfl 32 _ rfl (ndL k p m t a n cap c) rfl ?_; intro w1 g1 b1; have G1 := Lib.hid g1; have B1 := Lib.hid b1; clear g1 b1) | (refine wpList_alloc_obj rfl 46 rfl (mbC 0 emp 0 emp 0 none 0 0) MZ.out ?_; intro w2 g2 b2; have G2 := Lib.hid g2; have K1 := Lib.hid (G1.out.below b2 G1.out.lt); have B2 := Lib.hid (belT B1.out b2); have c1 := K1.out.get 1 rfl; have c2 := K1.out.get 2 rfl; clear g2 b2) | (refine wpList_store_obj rfl 46 _ _ rfl w1.heap.size rfl (mbC 3 p m q 0 none 0 0) (mbC 0 emp 0 emp 0 none 0 0) rfl 46 G2.out MO.out.2 rfl (mb_one _ _ _ _ _ _ _ _) ?_; intro w3 g3 t3; have G3 := Lib.hid g3; have B3 := Lib.hid (B2.out.trans (t3.below B1.out.size)); clear g3 t3))
  exact bodyPost_ret (results_obj Tryd.results33 MO.out _ w1.heap.size rfl _ _ G3.out rfl) rfl ⟨rfl, B3.out⟩

set_option maxHeartbeats 2000000 in
theorem nodeM_any (k : Int) (p : ByteArray) (m : Int) (t : ByteArray) (a : Option Addr) (n cap : Nat) (c : Int) (w : World) :
    Calls Tryd.prog 34 #[.agg (ndL k p m t a n cap c).toArray] w fun e w' => e = .returned (.agg (mbC k p m t n a n cap).toArray) ∧ Below w.heap.size w w' := by
  have MZ := Lib.hid zMb
  have MO := Lib.hid mbT
  have EZ := Lib.hid zEn
  have EO := Lib.hid enT
  go_enter Tryd.func34, Tryd.ntmps34
  go_wp2_with (first | (refine wpList_box_obj rfl 32 _ rfl (ndL k p m t a n cap c) rfl ?_; intro w1 g1 b1; have G1 := Lib.hid g1; have B1 := Lib.hid b1; clear g1 b1) | (refine wpList_alloc_obj rfl 46 rfl (mbC 0 emp 0 emp 0 none 0 0) MZ.out ?_; intro w2 g2 b2; have G2 := Lib.hid g2; have N1 := Lib.hid G1.out.lt; have K1 := Lib.hid (G1.out.below b2 G1.out.lt); have B2 := Lib.hid (belT B1.out b2); have c0 := K1.out.get 0 rfl; have c1 := K1.out.get 1 rfl; have c2 := K1.out.get 2 rfl; have c3 := K1.out.get 3 rfl; have c4 := K1.out.get 4 rfl; clear g2 b2) | (refine wpList_alloc_obj rfl 44 rfl (enV 0 emp 0 emp 0) EZ.out ?_; intro w3 g3 b3; have G3 := Lib.hid g3; have N2 := Lib.hid G2.out.lt; have K2 := Lib.hid (K1.out.below b3 K1.out.lt); have G23 := Lib.hid (G2.out.below b3 G2.out.lt); have B3 := Lib.hid (belT B2.out b3); clear g3 b3 c0 c1 c2 c3 c4) | (refine wpList_store_obj rfl 44 _ _ rfl w2.heap.size rfl (enV k p m t n) (enV 0 emp 0 emp 0) rfl 44 G3.out EO.out.2 rfl (en_one _ _ _ _ _) ?_; intro w4 g4 t4; have G4 := Lib.hid g4; have G24 := Lib.hid (G23.out.turned t4 (Nat.ne_of_lt N2.out)); have K4 := Lib.hid (K2.out.turned t4 (Nat.ne_of_lt (Nat.lt_trans N1.out N2.out))); have B4 := Lib.hid (B3.out.trans (t4.below B2.out.size)); have c4 := K4.out.get 4 rfl; have d0 := G4.out.get 0 rfl; have d1 := G4.out.get 1 rfl; have d2 := G4.out.get 2 rfl; have d3 := G4.out.get 3 rfl; have d4 := G4.out.get 4 rfl; clear g4 t4) | (refine wpList_store_obj rfl 46 _ _ rfl w1.heap.size rfl (mbC k p m t n a n cap) (mbC 0 emp 0 emp 0 none 0 0) rfl 46 G24.out MO.out.2 rfl (mb_one _ _ _ _ _ _ _ _) ?_; intro w5 g5 t5; have G5 := Lib.hid g5; have B5 := Lib.hid (B4.out.trans (t5.below B1.out.size)); clear g5 t5))
  exact bodyPost_ret (results_obj Tryd.results34 MO.out _ w1.heap.size rfl _ _ G5.out rfl) rfl ⟨rfl, B5.out⟩
end Go.Proofs.YtmbimnnacjbdfaaDoor.Flt
