/-
  Layer 19: the methods of a nil file system. (Written by a script.)
-/
import Derived.Test.YthcbiohmghaobaaDoorPz08
namespace Go.Proofs.YthcbiohmghaobaaDoor.Vfs
open Go.RowKit Go.MapKept Go.Proofs.YthcbiohmghaobaaDoor.Pnm Flt

set_option maxRecDepth 100000 in
theorem lstat_nil (p : ByteArray) (w : World) : Calls Tryd.prog 20 #[.pointer none, .string p] w fun e w' => e = .returned (.tuple #[.agg (infL 0 0 0 0 0 ⟨#[]⟩ 0 0).toArray, .int .i64 1]) ∧ Below w.heap.size w w' := by
  have OIT : Hid (ObjT Tryd.prog 52 8) := ⟨⟨_, Tryd.underlying52⟩, by kernel_rfl⟩
  have ZI : Hid ((Tryd.prog.info? 52).map (·.zero) = some (some (.agg (infL 0 0 0 0 0 ⟨#[]⟩ 0 0).toArray))) := by show _ = _; kernel_rfl
  go_enter Tryd.func20, Tryd.ntmps20
  go_wp2_with (first | (refine wpList_alloc_obj rfl 52 rfl _ ZI.out ?_; intro w1 h1 b1; have I1 := Lib.hid h1; have B1 := Lib.hid b1; clear h1 b1))
  refine (find_nil p w1).mono ?_; rintro e w2 ⟨rfl, rfl⟩
  go_wp2_with (first | (refine wpList_store_obj rfl 52 _ _ rfl w.heap.size rfl (infL 0 0 0 0 0 ⟨#[]⟩ 0 0) (infL 0 0 0 0 0 ⟨#[]⟩ 0 0) rfl 52 I1.out OIT.out.2 rfl (by simp [Value.oneCell']) ?_; intro w3 g3 t3; have I3 := Lib.hid g3; have B3 := Lib.hid (B1.out.trans (t3.below (Nat.le_refl _))); clear g3 t3))
  refine bodyPost_ret (results_obj_tmp Tryd.results20 OIT.out _ w.heap.size rfl _ (infL 0 0 0 0 0 ⟨#[]⟩ 0 0) I3.out rfl) rfl ?_
  exact ⟨rfl, B3.out⟩
set_option maxRecDepth 100000 in
theorem read_nil (p : ByteArray) (w : World) : Calls Tryd.prog 21 #[.pointer none, .string p] w fun e w' => e = .returned (.tuple #[.slice none 0 0, .int .i64 1]) ∧ w = w' := by
  go_enter Tryd.func21, Tryd.ntmps21
  go_wp2_with fail
  refine (kind_nil p 1 w).mono ?_; rintro e w2 ⟨rfl, rfl⟩
  go_wp2_with fail
  go_ret2
  exact ⟨rfl, rfl⟩
set_option maxRecDepth 100000 in
theorem list_nil (p : ByteArray) (w : World) : Calls Tryd.prog 17 #[.pointer none, .string p] w fun e w' => e = .returned (.tuple #[.slice none 0 0, .int .i64 1]) ∧ w = w' := by
  go_enter Tryd.func17, Tryd.ntmps17
  go_wp2_with fail
  refine (kind_nil p 0 w).mono ?_; rintro e w2 ⟨rfl, rfl⟩
  go_wp2_with fail
  go_ret2
  exact ⟨rfl, rfl⟩
set_option maxRecDepth 100000 in
theorem chown_nil (p : ByteArray) (u mt : Int) (w : World) : Calls Tryd.prog 27 #[.pointer none, .string p, .int .i64 u, .int .i64 mt] w fun e w' => e = .returned (.int .i64 1) ∧ w = w' := by
  go_enter Tryd.func27, Tryd.ntmps27
  go_wp2_with fail
  refine (find_nil p w).mono ?_; rintro e w2 ⟨rfl, rfl⟩
  go_wp2_with fail
  go_ret
  exact ⟨rfl, rfl⟩
set_option maxRecDepth 100000 in
theorem link_nil (p t : ByteArray) (w : World) : Calls Tryd.prog 26 #[.pointer none, .string p, .string t] w fun e w' => e = .returned (.int .i64 1) ∧ w = w' := by
  go_enter Tryd.func26, Tryd.ntmps26
  go_wp2_with fail
  go_ret
  exact ⟨rfl, rfl⟩
set_option maxRecDepth 100000 in
theorem create_nil (p : ByteArray) (k m num l sz : Int) (t : ByteArray) (u mt : Int) (v : Value) (w : World) : Calls Tryd.prog 52 #[.pointer none, .string p, .agg (infL k m num l sz t u mt).toArray, v] w fun e w' => e = .returned (.int .i64 1) ∧ Below w.heap.size w w' := by
  go_enter Tryd.func52, Tryd.ntmps52
  go_wp2_with (first | (refine wpList_box_obj rfl 52 _ rfl (infL k m num l sz t u mt) rfl ?_; intro w1 h1 b1; have B1 := Lib.hid b1; clear h1 b1))
  go_ret
  exact ⟨rfl, B1.out⟩
set_option maxRecDepth 100000 in
theorem mkdir_nil (p : ByteArray) (m : Int) (w : World) : Calls Tryd.prog 22 #[.pointer none, .string p, .int .i64 m] w fun e w' => e = .returned (.int .i64 1) ∧ Below w.heap.size w w' := by
  have CR := Lib.hid (create_nil p 0 m 0 0 0 ⟨#[]⟩ 0 0 (.slice none 0 0) w)
  go_enter Tryd.func22, Tryd.ntmps22
  go_wp2_with fail
  refine CR.out.mono ?_; rintro e w1 ⟨rfl, b1⟩
  have B1 := Lib.hid b1
  clear b1
  go_wp2_with fail
  go_ret
  exact ⟨rfl, B1.out⟩
set_option maxRecDepth 100000 in
theorem mknod_nil (p : ByteArray) (m : Int) (w : World) : Calls Tryd.prog 25 #[.pointer none, .string p, .int .i64 m] w fun e w' => e = .returned (.int .i64 1) ∧ Below w.heap.size w w' := by
  have CR := Lib.hid (create_nil p 4 m 0 0 0 ⟨#[]⟩ 0 0 (.slice none 0 0) w)
  go_enter Tryd.func25, Tryd.ntmps25
  go_wp2_with fail
  refine CR.out.mono ?_; rintro e w1 ⟨rfl, b1⟩
  have B1 := Lib.hid b1
  clear b1
  go_wp2_with fail
  go_ret
  exact ⟨rfl, B1.out⟩
set_option maxRecDepth 100000 in
theorem symlink_nil (p : ByteArray) (t : ByteArray) (w : World) : Calls Tryd.prog 24 #[.pointer none, .string p, .string t] w fun e w' => e = .returned (.int .i64 1) ∧ Below w.heap.size w w' := by
  have CR := Lib.hid (create_nil p 2 511 0 0 0 t 0 0 (.slice none 0 0) w)
  go_enter Tryd.func24, Tryd.ntmps24
  go_wp2_with fail
  refine CR.out.mono ?_; rintro e w1 ⟨rfl, b1⟩
  have B1 := Lib.hid b1
  clear b1
  go_wp2_with fail
  go_ret
  exact ⟨rfl, B1.out⟩
set_option maxRecDepth 100000 in
theorem fcreate_nil (p : ByteArray) (m : Int) (w : World) : Calls Tryd.prog 23 #[.pointer none, .string p, .int .i64 m, .slice none 0 0] w fun e w' => e = .returned (.int .i64 1) ∧ Below w.heap.size w w' := by
  have CR := Lib.hid (create_nil p 1 m 0 0 0 ⟨#[]⟩ 0 0 (.slice none 0 0) w)
  go_enter Tryd.func23, Tryd.ntmps23
  go_wp2_with fail
  refine CR.out.mono ?_; rintro e w1 ⟨rfl, b1⟩
  have B1 := Lib.hid b1
  clear b1
  go_wp2_with fail
  go_ret
  exact ⟨rfl, B1.out⟩
end Go.Proofs.YthcbiohmghaobaaDoor.Vfs
