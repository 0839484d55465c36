/-
  The example that each statement of the layer holds.
-/
import Derived.Test.YtjokgiheabmolaaHepMrg
import Derived.Test.YtjokgiheabmolaaHepEq
import Derived.Test.YtjokgiheabmolaaHepLit
namespace Go.Proofs.Ytjokgiheabmolaa.Hep
open Go.RowKit

abbrev sA : ByteArray := ⟨#[97]⟩
abbrev sB : ByteArray := ⟨#[98]⟩
abbrev sC : ByteArray := ⟨#[99]⟩
theorem abc_sorted : List.Pairwise Le [sA, sB, sC] := by
  have h : ∀ x y : UInt8, Op.bytesLess [y] [x] = false → Le ⟨#[x]⟩ ⟨#[y]⟩ := fun x y h => by
    unfold Le
    rw [ByteArray.toList_eq, ByteArray.toList_eq]
    exact h
  refine List.pairwise_cons.mpr ⟨fun z hz => ?_, List.pairwise_cons.mpr ⟨fun z hz => ?_, List.pairwise_singleton _ _⟩⟩
  · rcases List.mem_cons.mp hz with rfl | hz
    · exact h 97 98 rfl
    · obtain rfl := List.mem_singleton.mp hz
      exact h 97 99 rfl
  · obtain rfl := List.mem_singleton.mp hz
    exact h 98 99 rfl
theorem mrg_cab : mrg [[sC, sA, sB]] = [sA, sB, sC] :=
  (sorted_mrg abc_sorted (by
    show [sA, sB, sC].Perm [sC, sA, sB]
    exact ((List.Perm.swap sB sC []).cons sA |>.symm.trans (List.Perm.swap sC sA [sB])))).symm
theorem mrg_acb : mrg [[sA, sC], [sB]] = [sA, sB, sC] :=
  (sorted_mrg abc_sorted (by
    show [sA, sB, sC].Perm [sA, sC, sB]
    exact (List.Perm.swap sC sB []).cons sA)).symm
theorem alloc_size (w : World) (o : Obj) : (w.alloc o).heap.size = w.heap.size + 1 := by unfold World.alloc; exact Array.size_push ..
theorem small_s (x : UInt8) : (⟨#[x]⟩ : ByteArray).size ≤ 140737488355328 := by
  show 1 ≤ 140737488355328
  omega
set_option maxRecDepth 100000 in
set_option maxHeartbeats 8000000 in
theorem alive_any (w : World) : Calls Try.prog 14 #[] w fun e w' => e = .returned (.bool true) ∧ Below w.heap.size w w' := by
  have ES : Hid (ElemV Try.prog 9) := elemV_s (by kernel_rfl)
  have EL : Hid (ElemV Try.prog 22) := elemV_l (by kernel_rfl)
  go_enter Try.func14, Try.ntmps14
  go_wp2_with (refine wpList_lit3 rfl 22 9 _ _ _ rfl Try.underlying22 ES.out _ _ _ rfl rfl rfl rfl rfl rfl ?_; intro w1 h1 b1; have H1 := Lib.hid h1; have B1 := Lib.hid b1; clear h1 b1)
  have A1 : ArgSs w1 (some ⟨w.heap.size, 0, none⟩) 3 3 [sC, sA, sB] := ArgSs.of_obj (e := 9) H1.out rfl (by omega) fun y hy => by
    rcases List.mem_cons.mp hy with rfl | hy
    · exact small_s _
    · rcases List.mem_cons.mp hy with rfl | hy
      · exact small_s _
      · obtain rfl := List.mem_singleton.mp hy; exact small_s _
  refine (gnew A1 (by omega)).mono ?_; rintro e w2 ⟨S, gg, rfl, q2, s2, b2⟩
  rw [mrg_cab] at q2
  have P2 := Lib.hid (gpop q2 (by show 2 < _; omega))
  have S2 := Lib.hid s2
  have B2 : Hid (Below w.heap.size w w2) := B1.out.trans (b2.mono B1.out.size)
  have S2' : Hid (∀ k, S k → w.heap.size ≤ k) := fun k hk => Nat.le_trans B1.out.size (S2.out k hk)
  clear A1 q2 s2 b2 S2
  go_wp2_with fail
  refine P2.out.mono ?_; rintro e w3 ⟨rfl, o3, q3⟩
  have GL := Lib.hid (glen q3.1)
  have B3 : Hid (Below w.heap.size w w3) := B2.out.trans (o3.below S2'.out B2.out.size)
  clear o3 q3 P2
  go_wp2_with fail
  refine GL.out.mono ?_; rintro e w4 ⟨rfl, rfl⟩
  go_wp2_with fail
  obtain ⟨wA, hA⟩ := named (w3.alloc (.cells #[.string sA, .string sC] 9))
  have zA : w3.heap.size + 1 = wA.heap.size := by rw [hA.out, alloc_size]
  have oA : ObjAt wA w3.heap.size 9 (ssC [sA, sC]) := by rw [hA.out]; exact heap_alloc_new w3 _
  have bA : Below w3.heap.size w3 wA := by rw [hA.out]; exact (Below.refl _ _).alloc (Nat.le_refl _) _
  rw [← hA.out, zA]
  obtain ⟨wB, hB⟩ := named (wA.alloc (.cells #[.string sB] 9))
  have zB : wA.heap.size + 1 = wB.heap.size := by rw [hB.out, alloc_size]
  have oB : ObjAt wB wA.heap.size 9 (ssC [sB]) := by rw [hB.out]; exact heap_alloc_new wA _
  have bB : Below wA.heap.size wA wB := by rw [hB.out]; exact (Below.refl _ _).alloc (Nat.le_refl _) _
  rw [← hB.out, zB]
  obtain ⟨wC, hC⟩ := named (wB.alloc (.cells #[.slice (some ⟨w3.heap.size, 0, none⟩) 2 2, .slice (some ⟨wA.heap.size, 0, none⟩) 1 1] 22))
  have oC : ObjAt wC wB.heap.size 22 [.slice (some ⟨w3.heap.size, 0, none⟩) 2 2, .slice (some ⟨wA.heap.size, 0, none⟩) 1 1] := by rw [hC.out]; exact heap_alloc_new wB _
  have bC : Below wB.heap.size wB wC := by rw [hC.out]; exact (Below.refl _ _).alloc (Nat.le_refl _) _
  rw [← hC.out]
  have oA' : ObjAt wC w3.heap.size 9 (ssC [sA, sC]) := ((oA.below bB oA.lt).below bC (oA.below bB oA.lt).lt)
  have oB' : ObjAt wC wA.heap.size 9 (ssC [sB]) := oB.below bC oB.lt
  have LS := ls_two oC (ArgSs.of_obj oA' (n := 2) rfl (by omega) fun y hy => by
    rcases List.mem_cons.mp hy with rfl | hy
    · exact small_s _
    · obtain rfl := List.mem_singleton.mp hy; exact small_s _) (ArgSs.of_obj oB' (n := 1) rfl (by omega) fun y hy => by
      obtain rfl := List.mem_singleton.mp hy; exact small_s _)
  have B5 : Hid (Below w.heap.size w wC) := belT (belT (belT B3.out bA) bB) bC
  refine (gmrg _ 2 2 _ wC LS (by omega) (by show 3 ≤ _; omega)).mono ?_; rintro e w6 ⟨v, rfl, o6, b6⟩
  rw [mrg_acb] at o6
  obtain ⟨va, vc, rfl, a6⟩ := ArgSs.of_own o6 fun y hy => by
    rcases List.mem_cons.mp hy with rfl | hy
    · exact small_s _
    · rcases List.mem_cons.mp hy with rfl | hy
      · exact small_s _
      · obtain rfl := List.mem_singleton.mp hy; exact small_s _
  have A6 : Hid (ArgSs w6 va 3 vc [sA, sB, sC]) := a6
  have B6 := Lib.hid (belT B5.out b6)
  have e3 : (List.flatten [[sA, sC], [sB]]).length = 3 := rfl
  rw [e3]
  clear o6 b6 LS oA' oB' oC bC oB bB oA bA zA zB hA hB hC GL a6 e3
  go_wp2_with fail
  obtain ⟨w7, hw⟩ := named (w6.alloc (.cells #[.string sA, .string sB, .string sC] 9))
  have o7 : ObjAt w7 w6.heap.size 9 (ssC [sA, sB, sC]) := by rw [hw.out]; exact heap_alloc_new w6 _
  have b7 : Below w6.heap.size w6 w7 := by rw [hw.out]; exact (Below.refl _ _).alloc (Nat.le_refl _) _
  rw [← hw.out]
  have A7 : ArgSs w7 (some ⟨w6.heap.size, 0, none⟩) 3 3 [sA, sB, sC] := ArgSs.of_obj o7 rfl (by omega) A6.out.s
  have B7 := Lib.hid (belT B6.out b7)
  refine (seq_any va _ 3 vc 3 3 _ _ w7 (A6.out.below b7) A7 (by omega) (by omega)).mono ?_; rintro e w8 ⟨rfl, b8⟩
  have B8 := Lib.hid (belT B7.out b8)
  rw [decide_eq_true (rfl : [sA, sB, sC] = [sA, sB, sC])]
  clear A7 o7 b7 b8 hw
  go_wp2_with fail
  go_ret
  exact ⟨rfl, B8.out⟩
end Go.Proofs.Ytjokgiheabmolaa.Hep
