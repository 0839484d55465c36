/-
  The statement FitSizeLimits: a walk.
-/
import Derived.Test.YtokjmehecfjhmaaDoorFitB
import Derived.Test.YtokjmehecfjhmaaDoorRegion
namespace Go.Proofs.YtokjmehecfjhmaaDoor.Fit
open Go.RowKit Pxr Pnm

abbrev sF : ByteArray := { data := #[102] }
theorem f_spl : splP (numsOf sF) = [] ∧ splN (numsOf sF) = [102] ∧ splB (numsOf sF) = true := spl_short (by decide)
theorem f_ck (z : Int) : ckE ⟨1, sF, 0, emp, z⟩ = szE 1 z := by
  unfold ckE
  dsimp only
  rw [if_neg (by decide), if_neg (by decide), if_neg (by decide), if_neg (by decide)]
theorem f_bad {z : Int} (h : z < 0 ∨ 1099511627776 < z) : ckE ⟨1, sF, 0, emp, z⟩ = 3 ∧ plHz ⟨1, sF, 0, emp, z⟩ = ⟨0, emp, emp, emp, 0, 0⟩ ∧ plLz ⟨1, sF, 0, emp, z⟩ = [] := by
  have e : ckE ⟨1, sF, 0, emp, z⟩ = 3 := by rw [f_ck]; unfold szE; rw [if_pos rfl, if_pos h]
  exact ⟨e, pl_bad_eq (by rw [e]; decide)⟩
theorem f_ok {z : Int} (h : ¬ (z < 0 ∨ 1099511627776 < z)) : ckE ⟨1, sF, 0, emp, z⟩ = 0 := by rw [f_ck]; unfold szE; rw [if_pos rfl, if_neg h]
theorem f_small {z : Int} (h : ¬ (z < 0 ∨ 1099511627776 < z)) (h2 : z ≤ 8589934591) : plHz ⟨1, sF, 0, emp, z⟩ = ⟨48, sF, emp, emp, 0, z⟩ ∧ plLz ⟨1, sF, 0, emp, z⟩ = [] := by
  obtain ⟨e1, e2⟩ := pl_good_eq (f_ok h)
  obtain ⟨a, b, c⟩ := f_spl
  rw [e1, e2]
  constructor
  · unfold plH
    dsimp only
    rw [a, b, if_pos h2]
    rfl
  · unfold plL plT plP plS
    dsimp only
    rw [c, if_pos (by decide), if_pos rfl, if_pos h2]
    rfl
theorem f_big {z : Int} (h : ¬ (z < 0 ∨ 1099511627776 < z)) (h2 : ¬ z ≤ 8589934591) : plHz ⟨1, sF, 0, emp, z⟩ = ⟨48, sF, emp, emp, 0, 0⟩ ∧ plLz ⟨1, sF, 0, emp, z⟩ = [(kSize, strOfNums (decD z.toNat))] := by
  obtain ⟨e1, e2⟩ := pl_good_eq (f_ok h)
  obtain ⟨a, b, c⟩ := f_spl
  rw [e1, e2]
  constructor
  · unfold plH
    dsimp only
    rw [a, b, if_neg h2]
    rfl
  · unfold plL plT plP plS
    dsimp only
    rw [c, if_pos (by decide), if_pos rfl, if_neg h2]
    rfl

end Go.Proofs.YtokjmehecfjhmaaDoor.Fit
namespace Go.Proofs.YtokjmehecfjhmaaDoor
open Go.RowKit Go.Proofs.YtokjmehecfjhmaaDoor.Fit Pxr Pnm

set_option maxHeartbeats 8000000 in
set_option maxRecDepth 100000 in
theorem walk_FitSizeLimits (z : Int) (w : World) (V : FVars w) (_hz : (Lit.int .i64 z).wf = true) : Calls Tryd.prog 9 #[.int .i64 z] w fun e w' => e = .returned (.bool true) ∧ Below w.heap.size w w' := by
  have P := pplan_any ⟨1, sF, 0, emp, z⟩ w V (by show sF.size ≤ _; decide) (by show emp.size ≤ _; decide)
  unfold RetP at P
  have HP := Lib.hid P
  have HO := Lib.hid hdTp
  have HZ := Lib.hid zHp
  have AL := Lib.hid fun w' (hb : Below w.heap.size w w') => alive_any w' (V.go hb)
  clear P
  by_cases hbad : z < 0 ∨ 1099511627776 < z
  · obtain ⟨e1, e2, e3⟩ := f_bad hbad
    rw [e1, e2, e3] at HP
    clear e1 e2 e3 V _hz
    rcases hbad with h | h
    all_goals
      go_enter Tryd.func9, Tryd.ntmps9
      go_wp2_with fail
      refine HP.out.mono ?_; rintro e w1 ⟨b, n, c, rfl, hn, _, _, _, hb⟩
      have B1 := Lib.hid hb
      clear hb hn
      go_wp2_with (first | (refine wpList_alloc_obj rfl 27 rfl Ust.hd0 HZ.out ?_; intro w2 g2 b2; have R2 := Lib.hid g2; have A2 := Lib.hid b2; clear g2 b2) | (refine wpList_store_obj rfl 27 _ _ rfl w1.heap.size rfl Ust.hd0 Ust.hd0 rfl 27 R2.out HO.out.2 rfl (hd_one _ _ _ _ _ _) ?_; intro w3 g3 t3; have A3 := Lib.hid (A2.out.trans (t3.below (Nat.le_refl _))); have B3 := Lib.hid (belT B1.out A3.out); clear g3 t3))
      refine (AL.out w3 B3.out).mono ?_; rintro e w4 ⟨rfl, b4⟩
      have B4 := Lib.hid (belT B3.out b4)
      clear b4
      go_wp2
      go_ret
      exact ⟨rfl, B4.out⟩
  · have z0 : ¬ z < 0 := by omega
    have z1 : ¬ (1099511627776 : Int) < z := by omega
    rw [f_ok hbad] at HP
    by_cases h2 : z ≤ 8589934591
    · obtain ⟨e2, e3⟩ := f_small hbad h2
      rw [e2, e3] at HP
      clear e2 e3 V _hz hbad
      go_enter Tryd.func9, Tryd.ntmps9
      go_wp2_with fail
      refine HP.out.mono ?_; rintro e w1 ⟨b, n, c, rfl, hn, _, _, _, hb⟩
      obtain rfl : n = 0 := hn.symm
      have B1 := Lib.hid hb
      clear hb hn
      go_wp2_with (first | (refine wpList_alloc_obj rfl 27 rfl Ust.hd0 HZ.out ?_; intro w2 g2 b2; have R2 := Lib.hid g2; have A2 := Lib.hid b2; clear g2 b2) | (refine wpList_store_obj rfl 27 _ _ rfl w1.heap.size rfl (Ust.hdV 48 sF emp emp 0 z) Ust.hd0 rfl 27 R2.out HO.out.2 rfl (hd_one _ _ _ _ _ _) ?_; intro w3 g3 t3; have X3 := Lib.hid g3; have A3 := Lib.hid (A2.out.trans (t3.below (Nat.le_refl _))); have B3 := Lib.hid (belT B1.out A3.out); clear g3 t3))
      refine (AL.out w3 B3.out).mono ?_; rintro e w4 ⟨rfl, b4⟩
      have B4 := Lib.hid (belT B3.out b4)
      have c5 := (X3.out.below b4 X3.out.lt).get 5 rfl
      clear b4
      go_wp2
      go_ret
      exact ⟨rfl, B4.out⟩
    · obtain ⟨e2, e3⟩ := f_big hbad h2
      rw [e2, e3] at HP
      obtain ⟨SZ, hSZ⟩ := named (strOfNums (decD z.toNat))
      rw [← hSZ.out] at HP
      have FI := Lib.hid fun w' (hb : Below w.heap.size w w') => (show Calls Tryd.prog 23 #[.int .i64 z, .int .i64 10] w' fun e w'' => e = .returned (.string SZ) ∧ Below w'.heap.size w' w'' by
        have := fmtI_any z.toNat (by omega) w' (V.go hb).v
        rw [show ((z.toNat : Nat) : Int) = z by omega, ← hSZ.out] at this
        exact this)
      clear e2 e3 V _hz hbad hSZ
      go_enter Tryd.func9, Tryd.ntmps9
      go_wp2_with fail
      refine HP.out.mono ?_; rintro e w1 ⟨b, n, c, rfl, hn, _, _, hR, hb⟩
      obtain rfl : n = 1 := hn.symm
      obtain ⟨B, o, rfl, _, _, _⟩ := hR.get 0 _ rfl
      have I1 := Lib.hid hR; have B1 := Lib.hid hb
      clear hR hb hn
      go_wp2_with (first | (refine wpList_alloc_obj rfl 27 rfl Ust.hd0 HZ.out ?_; intro w2 g2 b2; have R2 := Lib.hid g2; have A2 := Lib.hid b2; clear g2 b2) | (refine wpList_store_obj rfl 27 _ _ rfl w1.heap.size rfl (Ust.hdV 48 sF emp emp 0 0) Ust.hd0 rfl 27 R2.out HO.out.2 rfl (hd_one _ _ _ _ _ _) ?_; intro w3 g3 t3; have X3 := Lib.hid g3; have A3 := Lib.hid (A2.out.trans (t3.below (Nat.le_refl _))); have B3 := Lib.hid (belT B1.out A3.out); have I3 := Lib.hid (I1.out.below A3.out); clear g3 t3))
      have KC : Hid (∀ w', Below w3.heap.size w3 w' → w'.cell? ⟨w1.heap.size, 5, none⟩ = some (.int .i64 0) ∧ w'.cell? ⟨B, o, none⟩ = some (.string kSize) ∧ w'.cell? ⟨B, o + 1, none⟩ = some (.string SZ)) := fun w' hw => by
        obtain ⟨_, _, e0, _, x0, x1⟩ := (I3.out.below hw).get 0 _ rfl
        cases e0
        rw [Nat.zero_mul, Nat.add_zero] at x0 x1
        exact ⟨(X3.out.below hw X3.out.lt).get 5 rfl, x0, x1⟩
      have d0 : ∀ q : Of (fun w' => Below w3.heap.size w3 w'), q.w.cell? ⟨w1.heap.size, 5, none⟩ = some (.int .i64 0) := fun q => (KC.out _ q.h).1
      have d1 : ∀ q : Of (fun w' => Below w3.heap.size w3 w'), q.w.cell? ⟨B, o, none⟩ = some (.string kSize) := fun q => (KC.out _ q.h).2.1
      have d2 : ∀ q : Of (fun w' => Below w3.heap.size w3 w'), q.w.cell? ⟨B, o + 1, none⟩ = some (.string SZ) := fun q => (KC.out _ q.h).2.2
      refine wp_region_class (S := fun w' => Below w3.heap.size w3 w') (by kernel_rfl) (by kernel_rfl) (Below.refl _ _).drew ?_
      intro hne
      repeat (go_big_quiet_step (first | (go_at_call 11; exact Calls.in_class (AL.out _ (B3.out.trans (Below.mono (Of.h _) B3.out.size))) fun w' hb q => q.trans (hb.mono q.size)) | (go_at_call 23; exact Calls.in_class (FI.out _ (B3.out.trans (Below.mono (Of.h _) B3.out.size))) fun w' hb q => q.trans (hb.mono q.size))))
      refine wpQuiet_nil ?_
      rintro wq ⟨q, rfl⟩
      have BQ := Lib.hid (B3.out.trans (Below.mono q.h B3.out.size))
      go_wp2
      go_ret
      exact ⟨rfl, BQ.out⟩
end Go.Proofs.YtokjmehecfjhmaaDoor
