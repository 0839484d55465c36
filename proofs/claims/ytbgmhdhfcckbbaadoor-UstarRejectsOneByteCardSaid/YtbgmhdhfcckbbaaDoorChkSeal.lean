/-
  Walks of layer 3: Seal.
-/
import Derived.Test.YtbgmhdhfcckbbaaDoorChkProg
import Derived.Test.YtbgmhdhfcckbbaaDoorRegion
namespace Go.Proofs.YtbgmhdhfcckbbaaDoor.Chk
open Go.RowKit
open Oct

set_option maxHeartbeats 1000000 in
theorem seal_ok (a : Option Addr) (cap : Nat) (zs : List Int) (w : World) (hl : zs.length = 512) (hb : BytesIn w a zs) (hz : Bytes zs) :
    Calls Tryd.prog 21 #[.slice a 512 cap] w (fun e w' => ∃ b : Nat, e = .returned (.tuple #[.slice (some ⟨b, 0, none⟩) 512 512, .int .i64 0]) ∧ ArrAt w' b 66 (sealZ zs) ∧ w.heap.size ≤ b ∧ Below w.heap.size w w') := by
  have HL := Lib.hid hl; clear hl
  have HB := Lib.hid hb; clear hb
  have HZ := Lib.hid hz; clear hz
  have HT := Lib.hid hdrT
  go_enter Tryd.func21, Tryd.ntmps21
  go_wp2_with fail
  refine (conv_ok a cap zs _ HL.out HB.out).mono ?_; rintro e w1 ⟨rfl, b1⟩
  have B1 := Lib.hid b1; clear b1
  go_wp2_with (first | (refine wpList_alloc_arr rfl 66 5 512 HT.out rfl ?_; intro w2 h2 b2; have H2 := Lib.hid h2; have B2 := Lib.hid b2; clear h2 b2) | (refine wpList_load_arr rfl 66 5 512 HT.out _ rfl w1.heap.size 0 rfl zs H3.out.row HL.out ?_) | (refine wpList_store_arr rfl 66 5 512 HT.out _ _ rfl w1.heap.size rfl zs rfl HZ.out HL.out 66 (zeros 512) H2.out (zeros_length _) ?_; intro w3 h3 t3; have H3 := Lib.hid h3; have T3 := Lib.hid t3; clear h3 t3))
  refine (hseal_any zs _ HL.out HZ.out).mono ?_; rintro e w4 ⟨rfl, b4⟩
  have B4 := Lib.hid b4; clear b4
  have B : Hid (Below w.heap.size w w4) := by
    have B14 : Below w1.heap.size w1 w3 := B2.out.trans (T3.out.below (Nat.le_refl _))
    exact B1.out.trans ((B14.mono B1.out.size).trans (B4.out.mono (Nat.le_trans B1.out.size B14.size)))
  have H4 : Hid (ArrAt w4 w1.heap.size 66 zs) := H3.out.below B4.out H3.out.lt
  go_wp2_with (refine wpList_store_arr rfl 66 5 512 HT.out _ _ rfl w1.heap.size rfl (sealZ zs) rfl (seal_bytes HZ.out) (seal_length HL.out) 66 zs H4.out HL.out ?_; intro w5 h5 t5; have H5 := Lib.hid h5; have T5 := Lib.hid t5; clear h5 t5)
  go_ret2
  exact ⟨_, rfl, H5.out, B1.out.size, B.out.trans (T5.out.below B1.out.size)⟩

set_option maxHeartbeats 1000000 in
theorem seal_bad (a : Option Addr) (len cap : Nat) (w : World) (hl : ¬ len = 512) :
    Calls Tryd.prog 21 #[.slice a len cap] w fun e w' => e = .returned (.tuple #[.slice none 0 0, .int .i64 2]) ∧ Below w.heap.size w w' := by
  have HL := Lib.hid hl; clear hl
  have HT := Lib.hid hdrT
  go_enter Tryd.func21, Tryd.ntmps21
  go_wp2_with fail
  refine (conv_bad a len cap _ HL.out).mono ?_; rintro e w1 ⟨rfl, b1⟩
  have B1 := Lib.hid b1; clear b1
  go_wp2_with (first | (refine wpList_alloc_arr rfl 66 5 512 HT.out rfl ?_; intro w2 h2 b2; have H2 := Lib.hid h2; have B2 := Lib.hid b2; clear h2 b2) | (refine wpList_store_arr rfl 66 5 512 HT.out _ _ rfl w1.heap.size rfl (zeros 512) rfl (zeros_bytes _) (zeros_length _) 66 (zeros 512) H2.out (zeros_length _) ?_; intro w3 h3 t3; have H3 := Lib.hid h3; have T3 := Lib.hid t3; clear h3 t3))
  go_ret2
  exact ⟨rfl, B1.out.trans ((B2.out.trans (T3.out.below (Nat.le_refl _))).mono B1.out.size)⟩
end Go.Proofs.YtbgmhdhfcckbbaaDoor.Chk
