/-
  Layer 7: the statements' own Of.
-/
import Derived.Test.YtokjmehecfjhmaaDoorHdEq
import Derived.Test.YtokjmehecfjhmaaDoorUstHd0
namespace Go.Proofs.YtokjmehecfjhmaaDoor.Ust
open Go.RowKit
open Oct Cst Chk

theorem ofT : ObjT Tryd.prog 32 6 := ⟨⟨_, Tryd.underlying32⟩, by kernel_rfl⟩
set_option maxHeartbeats 1000000 in
theorem of_any (T : Int) (nm pf lk : ByteArray) (md sz : Int) (w : World) :
    Calls Tryd.prog 14 #[.agg (hdV T nm pf lk md sz).toArray] w fun e w' => e = .returned (.agg (hdV T nm pf lk md sz).toArray) ∧ Below w.heap.size w w' := by
  have HT := Lib.hid ofT
  have hz0 : (Tryd.prog.info? 32).map (·.zero) = some (some (.agg hd0.toArray)) := by kernel_rfl
  have hs0 : (Tryd.prog.info? 32).map (·.size) = some 6 := by kernel_rfl
  have HZ0 := Lib.hid hz0; have HS0 := Lib.hid hs0
  clear hz0 hs0
  go_enter Tryd.func14, Tryd.ntmps14
  go_wp2_with (first | (refine wpList_box_obj rfl 27 _ rfl (hdV T nm pf lk md sz) rfl ?_; intro w1 h1 b1; have H1 := Lib.hid h1; have B1 := Lib.hid b1; clear h1 b1) | (refine wpList_alloc_obj rfl 32 rfl hd0 HZ0.out ?_; intro w2 h2 b2; have H2 := Lib.hid h2; have B2 := Lib.hid b2; have G1 := Lib.hid (H1.out.below b2 H1.out.lt); have c0 := G1.out.get 0 rfl; have c1 := G1.out.get 1 rfl; have c2 := G1.out.get 2 rfl; have c3 := G1.out.get 3 rfl; have c4 := G1.out.get 4 rfl; have c5 := G1.out.get 5 rfl; clear h2 b2) | (refine wpList_store_obj rfl 32 _ _ rfl w1.heap.size rfl (hdV T nm pf lk md sz) hd0 rfl 32 H2.out HS0.out rfl (by intro v hv; simp at hv; rcases hv with rfl | rfl | rfl | rfl | rfl | rfl <;> rfl) ?_; intro w4 h4 t4; have H4 := Lib.hid h4; have T4 := Lib.hid t4; clear h4 t4))
  have z1 := B1.out.size
  exact bodyPost_ret (results_obj Tryd.results14 HT.out _ w1.heap.size rfl _ (hdV T nm pf lk md sz) H4.out rfl) rfl ⟨rfl, B1.out.trans ((B2.out.mono z1).trans (T4.out.below z1))⟩
end Go.Proofs.YtokjmehecfjhmaaDoor.Ust
