/-
  Layer 9: the reference's one.
-/
import Derived.Test.YtjmnhnijmaceeaaDoorPxrRefC
import Derived.Test.YtjmnhnijmaceeaaDoorPxrFmt
import Derived.Test.YtjmnhnijmaceeaaDoorRegion
namespace Go.Proofs.YtjmnhnijmaceeaaDoor.Pxr
open Go.RowKit

set_option maxHeartbeats 4000000 in
set_option maxRecDepth 100000 in
theorem rone_any (k v : ByteArray) (w : World) (h : oth (k, v) ≤ 100000) : Calls Tryd.prog 26 #[.agg #[.string k, .string v]] w fun e w' => e = .returned (.string (strOfNums (enR (k, v)))) ∧ Below w.heap.size w w' := by
  obtain ⟨T, hT⟩ := named (strOfNums (decD (szR (k, v))))
  have ES : Hid (T ++ { data := #[32] } ++ k ++ { data := #[61] } ++ v ++ { data := #[10] } = strOfNums (enR (k, v))) := by show _ = _; rw [hT.out]; exact enS_str (k, v)
  rw [← ES.out]
  have go : oth (k, v) ≤ 1000000 := by omega
  have hb := szN_bd go
  have hz : szR (k, v) ≤ 100008 := by unfold szR; omega
  have hts : T.size ≤ 100 := by
    rw [hT.out, strD_size]
    have := nDigits_le 6 (szR (k, v)) (by have : (10 : Nat) ^ (6 + 1) = 10000000 := by decide
                                          omega)
    omega
  have hk : k.size ≤ 100000 := by unfold oth at h; dsimp only at h; omega
  have hv : v.size ≤ 100000 := by unfold oth at h; dsimp only at h; omega
  have s1 : ¬ 9223372036854775807 < T.size + 1 := by omega
  have s2 : ¬ 9223372036854775807 < T.size + 1 + k.size := by omega
  have s3 : ¬ 9223372036854775807 < T.size + 1 + k.size + 1 := by omega
  have s4 : ¬ 9223372036854775807 < T.size + 1 + k.size + 1 + v.size := by omega
  have s5 : ¬ 9223372036854775807 < T.size + 1 + k.size + 1 + v.size + 1 := by omega
  have SA := Lib.hid fun w' => rsize_any k v w' go
  have DA := Lib.hid fun w' => rdec_any (szR (k, v)) (by omega) w'
  rw [← hT.out] at DA
  clear h go hb hz hts hk hv
  go_enter Tryd.func26, Tryd.ntmps26
  go_wp2_with (first | (refine wpList_box_obj rfl 32 _ rfl [.string k, .string v] rfl ?_; intro w1 g1 b1; have G1 := Lib.hid g1; have B1 := Lib.hid b1; clear g1 b1))
  have d0 : ∀ q : Of (fun w' => Below w1.heap.size w1 w'), q.w.cell? ⟨w.heap.size, 0, none⟩ = some (.string k) := fun q => (G1.out.below q.h G1.out.lt).get 0 rfl
  have d1 : ∀ q : Of (fun w' => Below w1.heap.size w1 w'), q.w.cell? ⟨w.heap.size, 1, none⟩ = some (.string v) := fun q => (G1.out.below q.h G1.out.lt).get 1 rfl
  refine wp_region_class (S := fun w' => Below w1.heap.size w1 w') (by kernel_rfl) (by kernel_rfl) (Below.refl _ _).drew ?_
  intro hne
  repeat (go_big_quiet_step (first | (go_at_call 16; exact Calls.in_class (SA.out _) fun w' hb q => q.trans (hb.mono q.size)) | (go_at_call 31; exact Calls.in_class (DA.out _) fun w' hb q => q.trans (hb.mono q.size))))
  refine wpQuiet_nil ?_
  rintro wq ⟨q, rfl⟩
  go_wp2
  go_ret
  exact ⟨rfl, B1.out.trans (Below.mono q.h B1.out.size)⟩
end Go.Proofs.YtjmnhnijmaceeaaDoor.Pxr
