/-
  Walks of cstring.Format.
-/
import Derived.Test.YtokjmehecfjhmaaDoorCstSmall
namespace Go.Proofs.YtokjmehecfjhmaaDoor.Cst
open Go.RowKit

theorem made_u8 (m : Nat) : (madeCells (Value.int .u8 0).cells (m * 1)).toList = (List.replicate m (0 : Int)).map (.int .u8) := by
  apply List.ext_getElem?
  intro i
  by_cases h : i < m <;> simp [madeCells, Value.cells, h, Nat.mod_one]

theorem Tryd.info5 : (Tryd.prog.info? 5).map (fun i => (i.zero, i.size, i.bytes)) = some (some (.int .u8 0), 1, 1) := by kernel_rfl

set_option maxHeartbeats 400000 in
theorem fmt_bad (s : ByteArray) (wd : Int) (w : World) (h : (ceF (numsOf s) wd != 0) = true) :
    Calls Tryd.prog 51 #[.string s, .int .i64 wd] w fun e w' => e = .returned (.tuple #[.slice none 0 0, .int .i64 (ceF (numsOf s) wd)]) ∧ w = w' := by
  obtain ⟨E, HE⟩ := named (ceF (numsOf s) wd)
  rw [← HE.out] at h ⊢
  go_enter Tryd.func51, Tryd.ntmps51
  go_wp2_with (go_at_call 63; refine (check_any _ _ _).mono ?_; rintro e w' ⟨rfl, rfl⟩; rw [← HE.out])
  go_ret2
  exact ⟨rfl, rfl⟩

set_option maxHeartbeats 400000 in
theorem fmt_cap (s : ByteArray) (k : Nat) (w : World) (h : ceF (numsOf s) k = 0) :
    Calls Tryd.prog 51 #[.string s, .int .i64 k] w (RetB (fldS (numsOf s) k) k 0 w) := by
  obtain ⟨h1, h2, _, h4⟩ := ceF_zero.1 h
  rw [numsOf_length] at h4
  have HN := Lib.hid h; clear h
  obtain ⟨i0, HI⟩ := info_u8 Tryd.info5
  go_enter Tryd.func51, Tryd.ntmps51
  go_wp2_with (first | (go_at_call 63; refine (check_any _ _ _).mono ?_; rintro e w' ⟨rfl, rfl⟩; rw [HN.out]) | (at_make; refine wpList_make_full _ rfl _ _ 46 rfl w.heap.size 5 i0 (.int .u8 0) 1 Tryd.underlying46 HI.out.1 HI.out.2.1 HI.out.2.2.1 .i64 .i64 _ _ k rfl rfl rfl rfl (by rw [HI.out.2.2.2]; omega) (by unfold maxLen; omega) (Nat.le_refl _) ?_; intro w1 hown1 hgrow1; rw [made_u8] at hown1) | (refine wpList_copy_string rfl _ _ 46 9 rfl w.heap.size 5 i0 Tryd.underlying46 HI w.heap.size k k (List.replicate k 0) rfl hown1 s rfl (by omega) ?_; intro w2 hown2 hb2))
  go_ret2
  have hb1 : Below w.heap.size w w1 := (Below.refl _ _).grown hgrow1 (Nat.le_refl _) (fun _ h => by cases h)
  have e : numsOf s ++ List.drop s.size (List.replicate k 0) = fldS (numsOf s) k := by unfold fldS; rw [List.drop_replicate, numsOf_length]
  rw [e] at hown2
  exact ⟨_, _, rfl, .of_own hown2 (fldS_bd _ _ (numsOf_bd s)), (own_lt hown2).2, hb1.trans hb2, Nat.le_refl _, by unfold maxLen; omega⟩

theorem fmt_ok (s : ByteArray) (k : Nat) (w : World) (h : ceF (numsOf s) k = 0) :
    Calls Tryd.prog 51 #[.string s, .int .i64 k] w (RetBytes (fldS (numsOf s) k) k 0 w) :=
  (fmt_cap s k w h).mono fun _ _ h => h.ret

end Go.Proofs.YtokjmehecfjhmaaDoor.Cst
