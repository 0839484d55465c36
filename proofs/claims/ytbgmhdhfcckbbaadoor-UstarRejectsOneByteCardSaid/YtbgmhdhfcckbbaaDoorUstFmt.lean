/-
  Layer 7: the program's methods that write the fields of a header.
-/
import Derived.Test.YtbgmhdhfcckbbaaDoorUstSmall
namespace Go.Proofs.YtbgmhdhfcckbbaaDoor.Ust
open Go.RowKit
open Oct Cst Chk

theorem OneB.pre {zs : List Int} {n : Nat} {w w1 w' : World} {e : Ending} (h : OneB zs n w1 e w') (hb : Below w.heap.size w w1) : OneB zs n w e w' := by
  obtain ⟨b, c, h1, h2, h3, h4, h5, h6⟩ := h
  exact ⟨b, c, h1, h2, h3, h4, h5, belT hb h6⟩

section
variable (T : Int) (nm pf lk : ByteArray) (md sz : Int) (w : World)

set_option maxHeartbeats 1000000 in
theorem fm_name (wd : Int) (k : Nat) (hk : wd = (k : Int)) (h : ceF (numsOf nm) k = 0) :
    Calls Tryd.prog 42 #[.agg (hdV T nm pf lk md sz).toArray, .int .i64 wd] w (OneB (fldS (numsOf nm) k) k w) := by
  have HF : Hid (∀ w, Calls Tryd.prog 68 #[.string nm, .int .i64 wd] w (OneB (fldS (numsOf nm) k) k w)) := fun w => ftext_ok nm wd k w hk h
  obtain ⟨zs, HZ⟩ := named (fldS (numsOf nm) k)
  rw [← HZ.out] at HF ⊢
  clear hk h
  go_enter Tryd.func42, Tryd.ntmps42
  go_wp2_with (first | (refine wpList_box_obj rfl 23 _ rfl (hdV T nm pf lk md sz) rfl ?_; intro w1 h1 b1; have H1 := Lib.hid h1; have B1 := Lib.hid b1; have c0 := h1.get 1 rfl; clear h1 b1))
  refine (HF.out _).mono ?_; rintro e w2 ⟨b, c, rfl, h1, h2, h3, h4, h5⟩
  have F := Lib.hid (And.intro h1 (And.intro h2 (And.intro h3 (And.intro h4 (belT B1.out h5))))); clear h1 h2 h3 h4 h5
  go_wp2
  go_ret
  exact ⟨b, c, rfl, F.out⟩

set_option maxHeartbeats 1000000 in
theorem fm_link (wd : Int) (k : Nat) (hk : wd = (k : Int)) (h : ceF (numsOf lk) k = 0) :
    Calls Tryd.prog 52 #[.agg (hdV T nm pf lk md sz).toArray, .int .i64 wd] w (OneB (fldS (numsOf lk) k) k w) := by
  have HF : Hid (∀ w, Calls Tryd.prog 68 #[.string lk, .int .i64 wd] w (OneB (fldS (numsOf lk) k) k w)) := fun w => ftext_ok lk wd k w hk h
  obtain ⟨zs, HZ⟩ := named (fldS (numsOf lk) k)
  rw [← HZ.out] at HF ⊢
  clear hk h
  go_enter Tryd.func52, Tryd.ntmps52
  go_wp2_with (first | (refine wpList_box_obj rfl 23 _ rfl (hdV T nm pf lk md sz) rfl ?_; intro w1 h1 b1; have H1 := Lib.hid h1; have B1 := Lib.hid b1; have c0 := h1.get 3 rfl; clear h1 b1))
  refine (HF.out _).mono ?_; rintro e w2 ⟨b, c, rfl, h1, h2, h3, h4, h5⟩
  have F := Lib.hid (And.intro h1 (And.intro h2 (And.intro h3 (And.intro h4 (belT B1.out h5))))); clear h1 h2 h3 h4 h5
  go_wp2
  go_ret
  exact ⟨b, c, rfl, F.out⟩

set_option maxHeartbeats 1000000 in
theorem fm_prefix (wd : Int) (k : Nat) (hk : wd = (k : Int)) (h : ceF (numsOf pf) k = 0) :
    Calls Tryd.prog 56 #[.agg (hdV T nm pf lk md sz).toArray, .int .i64 wd] w (OneB (fldS (numsOf pf) k) k w) := by
  have HF : Hid (∀ w, Calls Tryd.prog 68 #[.string pf, .int .i64 wd] w (OneB (fldS (numsOf pf) k) k w)) := fun w => ftext_ok pf wd k w hk h
  obtain ⟨zs, HZ⟩ := named (fldS (numsOf pf) k)
  rw [← HZ.out] at HF ⊢
  clear hk h
  go_enter Tryd.func56, Tryd.ntmps56
  go_wp2_with (first | (refine wpList_box_obj rfl 23 _ rfl (hdV T nm pf lk md sz) rfl ?_; intro w1 h1 b1; have H1 := Lib.hid h1; have B1 := Lib.hid b1; have c0 := h1.get 2 rfl; clear h1 b1))
  refine (HF.out _).mono ?_; rintro e w2 ⟨b, c, rfl, h1, h2, h3, h4, h5⟩
  have F := Lib.hid (And.intro h1 (And.intro h2 (And.intro h3 (And.intro h4 (belT B1.out h5))))); clear h1 h2 h3 h4 h5
  go_wp2
  go_ret
  exact ⟨b, c, rfl, F.out⟩

set_option maxHeartbeats 1000000 in
theorem fm_magic :
    Calls Tryd.prog 54 #[.agg (hdV T nm pf lk md sz).toArray, .int .i64 6] w (OneB [117, 115, 116, 97, 114, 0] 6 w) := by
  have HF : Hid (∀ w, Calls Tryd.prog 68 #[.string { data := #[117, 115, 116, 97, 114] }, .int .i64 6] w (OneB [117, 115, 116, 97, 114, 0] 6 w)) := fun w => ftext_ok { data := #[117, 115, 116, 97, 114] } 6 6 w rfl (by decide)
  obtain ⟨zs, HZ⟩ := named ([117, 115, 116, 97, 114, 0] : List Int)
  rw [← HZ.out] at HF ⊢
  go_enter Tryd.func54, Tryd.ntmps54
  go_wp2_with (first | (refine wpList_box_obj rfl 23 _ rfl (hdV T nm pf lk md sz) rfl ?_; intro w1 h1 b1; have B1 := Lib.hid b1; clear h1 b1))
  refine (HF.out _).mono ?_; rintro e w2 ⟨b, c, rfl, h1, h2, h3, h4, h5⟩
  have F := Lib.hid (And.intro h1 (And.intro h2 (And.intro h3 (And.intro h4 (belT B1.out h5))))); clear h1 h2 h3 h4 h5
  go_wp2
  go_ret
  exact ⟨b, c, rfl, F.out⟩

set_option maxHeartbeats 1000000 in
theorem fm_version :
    Calls Tryd.prog 55 #[.agg (hdV T nm pf lk md sz).toArray, .int .i64 2] w (OneB [48, 48] 2 w) := by
  have HF : Hid (∀ w, Calls Tryd.prog 68 #[.string { data := #[48, 48] }, .int .i64 2] w (OneB [48, 48] 2 w)) := fun w => ftext_ok { data := #[48, 48] } 2 2 w rfl (by decide)
  obtain ⟨zs, HZ⟩ := named ([48, 48] : List Int)
  rw [← HZ.out] at HF ⊢
  go_enter Tryd.func55, Tryd.ntmps55
  go_wp2_with (first | (refine wpList_box_obj rfl 23 _ rfl (hdV T nm pf lk md sz) rfl ?_; intro w1 h1 b1; have B1 := Lib.hid b1; clear h1 b1))
  refine (HF.out _).mono ?_; rintro e w2 ⟨b, c, rfl, h1, h2, h3, h4, h5⟩
  have F := Lib.hid (And.intro h1 (And.intro h2 (And.intro h3 (And.intro h4 (belT B1.out h5))))); clear h1 h2 h3 h4 h5
  go_wp2
  go_ret
  exact ⟨b, c, rfl, F.out⟩

set_option maxHeartbeats 1000000 in
theorem fm_mode (h0 : 0 ≤ md) (hm : md ≤ 4095) :
    Calls Tryd.prog 44 #[.agg (hdV T nm pf lk md sz).toArray, .int .i64 8] w (OneB (fld 7 md) 8 w) := by
  have HF : Hid (∀ w, Calls Tryd.prog 70 #[.int .i64 md, .int .i64 8] w (OneB (fld 7 md) 8 w)) := fun w => fnum_ok md 8 7 w (by decide) (by decide) rfl h0 (by rw [mx_7]; omega)
  obtain ⟨zs, HZ⟩ := named (fld 7 md)
  rw [← HZ.out] at HF ⊢
  clear h0 hm
  go_enter Tryd.func44, Tryd.ntmps44
  go_wp2_with (first | (refine wpList_box_obj rfl 23 _ rfl (hdV T nm pf lk md sz) rfl ?_; intro w1 h1 b1; have H1 := Lib.hid h1; have B1 := Lib.hid b1; have c0 := h1.get 4 rfl; clear h1 b1))
  refine (HF.out _).mono ?_; rintro e w2 ⟨b, c, rfl, h1, h2, h3, h4, h5⟩
  have F := Lib.hid (And.intro h1 (And.intro h2 (And.intro h3 (And.intro h4 (belT B1.out h5))))); clear h1 h2 h3 h4 h5
  go_wp2
  go_ret
  exact ⟨b, c, rfl, F.out⟩

set_option maxHeartbeats 1000000 in
theorem fm_size (h0 : 0 ≤ sz) (hm : sz ≤ 8589934591) :
    Calls Tryd.prog 48 #[.agg (hdV T nm pf lk md sz).toArray, .int .i64 12] w (OneB (fld 11 sz) 12 w) := by
  have HF : Hid (∀ w, Calls Tryd.prog 70 #[.int .i64 sz, .int .i64 12] w (OneB (fld 11 sz) 12 w)) := fun w => fnum_ok sz 12 11 w (by decide) (by decide) rfl h0 (by rw [mx_11']; omega)
  obtain ⟨zs, HZ⟩ := named (fld 11 sz)
  rw [← HZ.out] at HF ⊢
  clear h0 hm
  go_enter Tryd.func48, Tryd.ntmps48
  go_wp2_with (first | (refine wpList_box_obj rfl 23 _ rfl (hdV T nm pf lk md sz) rfl ?_; intro w1 h1 b1; have H1 := Lib.hid h1; have B1 := Lib.hid b1; have c0 := h1.get 5 rfl; clear h1 b1))
  refine (HF.out _).mono ?_; rintro e w2 ⟨b, c, rfl, h1, h2, h3, h4, h5⟩
  have F := Lib.hid (And.intro h1 (And.intro h2 (And.intro h3 (And.intro h4 (belT B1.out h5))))); clear h1 h2 h3 h4 h5
  go_wp2
  go_ret
  exact ⟨b, c, rfl, F.out⟩

set_option maxHeartbeats 1000000 in
theorem fm_zero (wd : Int) (k : Nat) (h1 : 1 ≤ k) (h2 : k ≤ 21) (hn : wd = (k : Int) + 1) :
    Calls Tryd.prog 46 #[.agg (hdV T nm pf lk md sz).toArray, .int .i64 wd] w (OneB (fld k 0) (k + 1) w) := by
  have HF : Hid (∀ w, Calls Tryd.prog 70 #[.int .i64 0, .int .i64 wd] w (OneB (fld k 0) (k + 1) w)) := fun w => fnum_ok 0 wd k w h1 h2 hn (by decide) (mx_nonneg k)
  obtain ⟨zs, HZ⟩ := named (fld k 0)
  obtain ⟨m, HM⟩ := named (k + 1)
  rw [← HZ.out, ← HM.out] at HF ⊢
  clear h1 h2 hn HM
  go_enter Tryd.func46, Tryd.ntmps46
  go_wp2_with (first | (refine wpList_box_obj rfl 23 _ rfl (hdV T nm pf lk md sz) rfl ?_; intro w1 h1 b1; have B1 := Lib.hid b1; clear h1 b1))
  refine (HF.out _).mono ?_; rintro e w2 ⟨b, c, rfl, h1, h2, h3, h4, h5⟩
  have F := Lib.hid (And.intro h1 (And.intro h2 (And.intro h3 (And.intro h4 (belT B1.out h5))))); clear h1 h2 h3 h4 h5
  go_wp2
  go_ret
  exact ⟨b, c, rfl, F.out⟩

set_option maxHeartbeats 1000000 in
theorem fm_type (hT : 0 ≤ T ∧ T ≤ 255) (wd : Int) :
    Calls Tryd.prog 50 #[.agg (hdV T nm pf lk md sz).toArray, .int .i64 wd] w (OneB [T] 1 w) := by
  have HT := Lib.hid hT
  have HI := Lib.hid Cst.Tryd.info5
  go_enter Tryd.func50, Tryd.ntmps50
  go_wp2_with (first | (refine wpList_box_obj rfl 23 _ rfl (hdV T nm pf lk md sz) rfl ?_; intro w1 h1 b1; have H1 := Lib.hid h1; have B1 := Lib.hid b1; have c0 := h1.get 0 rfl; clear h1 b1) | (refine wpList_lit_one rfl 26 5 _ rfl Tryd.underlying26 HI.out T rfl HT.out ?_; intro w2 h2 b2; have H2 := Lib.hid h2; have B2 := Lib.hid b2; clear h2 b2))
  go_ret
  exact ⟨_, _, rfl, H2.out.row, H2.out.lt, Nat.le_refl _, by unfold maxLen; omega, belT B1.out B2.out⟩
end
end Go.Proofs.YtbgmhdhfcckbbaaDoor.Ust
