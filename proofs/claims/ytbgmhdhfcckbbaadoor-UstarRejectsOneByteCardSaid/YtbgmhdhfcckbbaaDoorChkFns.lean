/-
  Walks of layer 3: Verify; Seal by ChkSeal.
-/
import Derived.Test.YtbgmhdhfcckbbaaDoorChkProg
import Derived.Test.YtbgmhdhfcckbbaaDoorChkSeal
import Derived.Test.YtbgmhdhfcckbbaaDoorRegion
namespace Go.Proofs.YtbgmhdhfcckbbaaDoor.Chk
open Go.RowKit
open Oct

set_option maxHeartbeats 1000000 in
theorem ver_bad (a : Option Addr) (len cap : Nat) (w : World) (hl : ¬ len = 512) :
    Calls Tryd.prog 17 #[.slice a len cap] w fun e w' => e = .returned (.int .i64 2) ∧ Below w.heap.size w w' := by
  have HL := Lib.hid hl; clear hl
  have HT := Lib.hid hdrT
  go_enter Tryd.func17, Tryd.ntmps17
  go_wp2_with fail
  refine (conv_bad a len cap _ HL.out).mono ?_; rintro e w1 ⟨rfl, b1⟩
  have B1 := Lib.hid b1; clear b1
  go_wp2_with (first | (refine wpList_alloc_arr rfl 66 5 512 HT.out rfl ?_; intro w2 h2 b2; have H2 := Lib.hid h2; have B2 := Lib.hid b2; clear h2 b2) | (refine wpList_store_arr rfl 66 5 512 HT.out _ _ rfl w1.heap.size rfl (zeros 512) rfl (zeros_bytes _) (zeros_length _) 66 (zeros 512) H2.out (zeros_length _) ?_; intro w3 h3 t3; have H3 := Lib.hid h3; have T3 := Lib.hid t3; clear h3 t3))
  go_ret
  exact ⟨rfl, B1.out.trans ((B2.out.trans (T3.out.below (Nat.le_refl _))).mono B1.out.size)⟩

set_option maxHeartbeats 1000000 in
theorem ver_ok (a : Option Addr) (cap : Nat) (zs : List Int) (w : World) (v : Int) (hl : zs.length = 512) (hb : BytesIn w a zs) (hz : Bytes zs) (hv : (zs = sealZ zs ∧ v = 0) ∨ (¬ zs = sealZ zs ∧ v = 9)) :
    Calls Tryd.prog 17 #[.slice a 512 cap] w fun e w' => e = .returned (.int .i64 v) ∧ Below w.heap.size w w' := by
  have HL := Lib.hid hl; clear hl
  have HB := Lib.hid hb; clear hb
  have HZ := Lib.hid hz; clear hz
  have HT := Lib.hid hdrT
  go_enter Tryd.func17, Tryd.ntmps17
  go_wp2_with fail
  refine (conv_ok a cap zs _ HL.out HB.out).mono ?_; rintro e w1 ⟨rfl, b1⟩
  have B1 := Lib.hid b1; clear b1
  go_wp2_with (first | (refine wpList_alloc_arr rfl 66 5 512 HT.out rfl ?_; intro w2 h2 b2; have H2 := Lib.hid h2; have B2 := Lib.hid b2; clear h2 b2) | (refine wpList_store_arr rfl 66 5 512 HT.out _ _ rfl w1.heap.size rfl zs rfl HZ.out HL.out 66 (zeros 512) H2.out (zeros_length _) ?_; intro w3 h3 t3; have H3 := Lib.hid h3; have T3 := Lib.hid t3; clear h3 t3))
  have B13 : Hid (Below w.heap.size w w3) := B1.out.trans ((B2.out.trans (T3.out.below (Nat.le_refl _))).mono B1.out.size)
  have HQ : Hid (∀ w, (∃ q : Of (fun w' => Below w3.heap.size w3 w'), w = q.w) → RowAt w w1.heap.size 0 zs) := by
    rintro w ⟨q, rfl⟩
    exact (H3.out.below q.h H3.out.lt).row
  have hq : Tryd.prog.eqGuardType Tryd.prog.depth 66 = false := by kernel_rfl
  rcases hv with ⟨hv, rfl⟩ | ⟨hv, rfl⟩
  · have hne : ∀ w, (binOp .neq 66 (.agg (arr zs)) (.agg (arr (sealZ zs)))).run Tryd.prog w = .ok (.bool false) w := fun w => by
      rw [run_neq_arr (P := Tryd.prog) (w := w) HT.out zs (sealZ zs) HL.out (seal_length HL.out), decide_eq_true hv]; rfl
    clear hv
    refine wp_region_class (S := fun w' => Below w3.heap.size w3 w') (by kernel_rfl) (by kernel_rfl) (Below.refl _ _).drew ?_
    intro hn0
    repeat (first | (go_big_quiet_want; (with_reducible refine quiet_load_arr 66 5 512 HT.out _ rfl w1.heap.size 0 rfl zs HQ.out HL.out ?_); go_big_quiet_on; go_frame) | go_big_quiet_step ((go_at_call 33; exact Calls.in_class (hseal_any zs _ HL.out HZ.out) fun w' hb q => q.trans (hb.mono q.size))))
    refine wpQuiet_nil ?_
    rintro wq ⟨q, rfl⟩
    go_wp2
    go_ret
    exact ⟨rfl, B13.out.trans (q.h.mono B13.out.size)⟩
  · have hne : ∀ w, (binOp .neq 66 (.agg (arr zs)) (.agg (arr (sealZ zs)))).run Tryd.prog w = .ok (.bool true) w := fun w => by
      rw [run_neq_arr (P := Tryd.prog) (w := w) HT.out zs (sealZ zs) HL.out (seal_length HL.out), decide_eq_false hv]; rfl
    clear hv
    refine wp_region_class (S := fun w' => Below w3.heap.size w3 w') (by kernel_rfl) (by kernel_rfl) (Below.refl _ _).drew ?_
    intro hn0
    repeat (first | (go_big_quiet_want; (with_reducible refine quiet_load_arr 66 5 512 HT.out _ rfl w1.heap.size 0 rfl zs HQ.out HL.out ?_); go_big_quiet_on; go_frame) | go_big_quiet_step ((go_at_call 33; exact Calls.in_class (hseal_any zs _ HL.out HZ.out) fun w' hb q => q.trans (hb.mono q.size))))
    refine wpQuiet_nil ?_
    rintro wq ⟨q, rfl⟩
    go_wp2
    go_ret
    exact ⟨rfl, B13.out.trans (q.h.mono B13.out.size)⟩

end Go.Proofs.YtbgmhdhfcckbbaaDoor.Chk
