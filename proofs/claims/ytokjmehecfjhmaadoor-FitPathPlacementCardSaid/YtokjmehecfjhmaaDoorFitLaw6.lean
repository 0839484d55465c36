/-
  The statement FitPathPlacement: a walk.
-/
import Derived.Test.YtokjmehecfjhmaaDoorFitB
namespace Go.Proofs.YtokjmehecfjhmaaDoor.Fit
open Go.RowKit Pxr Pnm

theorem pp_ck {p : ByteArray} {M : Int} (h0 : 0 ≤ M) (h1 : M ≤ 4095) : ckE ⟨0, p, M, emp, 0⟩ = chE (numsOf p) := by
  unfold ckE
  dsimp only
  rw [if_neg (by omega)]
  by_cases h : chE (numsOf p) ≠ 0
  · rw [if_pos h]
  · rw [if_neg h, if_neg (by omega), if_neg (by decide)]
    have e : chE (numsOf p) = 0 := Decidable.byContradiction h
    rw [e]; decide
theorem pp_pl {p : ByteArray} {M : Int} (h0 : 0 ≤ M) (h1 : M ≤ 4095) (h : chE (numsOf p) = 0) : plHz ⟨0, p, M, emp, 0⟩ = ⟨53, strOfNums (splN (numsOf p)), strOfNums (splP (numsOf p)), emp, M, 0⟩ ∧ plLz ⟨0, p, M, emp, 0⟩ = if splB (numsOf p) = true then [] else [(kPath, p)] := by
  obtain ⟨e1, e2⟩ := pl_good_eq ((pp_ck h0 h1).trans h)
  rw [e1, e2]
  constructor
  · unfold plH
    dsimp only
    rw [if_pos (by decide), if_pos (by decide)]
    rfl
  · unfold plL plT plP plS
    dsimp only
    rw [if_pos (show emp.size ≤ 100 by decide), if_pos (show (0 : Int) ≤ 8589934591 by decide)]
    split <;> rfl
end Go.Proofs.YtokjmehecfjhmaaDoor.Fit
namespace Go.Proofs.YtokjmehecfjhmaaDoor
open Go.RowKit Go.Proofs.YtokjmehecfjhmaaDoor.Fit Pxr Pnm

set_option maxHeartbeats 8000000 in
set_option maxRecDepth 100000 in
theorem walk_FitPathPlacement (p : ByteArray) (mode : Int) (w : World) (V : FVars w) (hp : p.size ≤ maxLen) (hm : (Lit.int .u16 mode).wf = true) : Calls Tryd.prog 8 #[.string p, .int .u16 mode] w fun e w' => e = .returned (.bool true) ∧ Below w.heap.size w w' := by
  have hm0 : 0 ≤ mode ∧ mode ≤ 65535 := bounds_u16 hm
  have m0 : 0 ≤ mode := hm0.1
  have m1 : mode ≤ 65535 := hm0.2
  have M0 : 0 ≤ mode % 4096 := by omega
  have M1 : mode % 4096 ≤ 4095 := by omega
  have PL := Lib.hid fun w' (hb : Below w.heap.size w w') => pplan_any ⟨0, p, mode % 4096, emp, 0⟩ w' (V.go hb) hp (by show emp.size ≤ _; decide)
  unfold RetP at PL
  have HO := Lib.hid hdTp; have EO := Lib.hid enT
  have HZ := Lib.hid zHp; have EZ := Lib.hid zEn
  have AL := Lib.hid fun w' (hb : Below w.heap.size w w') => alive_any w' (V.go hb)
  have CK := Lib.hid fun w' => Pnm.pcheck p w' hp
  have SP := Lib.hid fun w' => Pnm.psplit p w' hp
  rw [pp_ck M0 M1] at PL
  clear hm hm0
  by_cases hl : 3000 < p.size
  · have hl' : (3000 : Int) < p.size := by omega
    clear PL CK SP
    go_enter Tryd.func8, Tryd.ntmps8
    go_wp2_with (first | (refine wpList_alloc_obj rfl 23 rfl (enV 0 emp 0 emp 0) EZ.out ?_; intro w2 g2 b2; have R2 := Lib.hid g2; have A2 := Lib.hid b2; clear g2 b2) | (refine wpList_store_obj rfl 23 _ _ rfl w.heap.size rfl (enV 0 p (mode % 4096) emp 0) (enV 0 emp 0 emp 0) rfl 23 R2.out EO.out.2 rfl (en_one _ _ _ _ _) ?_; intro w3 g3 t3; have X3 := Lib.hid g3; have A3 := Lib.hid (A2.out.trans (t3.below (Nat.le_refl _))); have c0 := g3.get 0 rfl; have c1 := g3.get 1 rfl; have c2 := g3.get 2 rfl; have c3 := g3.get 3 rfl; have c4 := g3.get 4 rfl; clear g3 t3))
    refine (AL.out w3 A3.out).mono ?_; rintro e w4 ⟨rfl, b4⟩
    have B4 := Lib.hid (belT A3.out b4)
    clear b4 c0 c1 c2 c3 c4
    go_wp2
    go_ret
    exact ⟨rfl, B4.out⟩
  · have hl' : ¬ (3000 : Int) < p.size := by omega
    by_cases hE : chE (numsOf p) = 0
    · obtain ⟨e2, e3⟩ := pp_pl M0 M1 hE
      rw [e2, e3, hE] at PL
      clear e2 e3 CK
      obtain ⟨PF, hPF⟩ := named (strOfNums (splP (numsOf p)))
      obtain ⟨NM, hNM⟩ := named (strOfNums (splN (numsOf p)))
      rw [← hPF.out, ← hNM.out] at PL SP
      by_cases hB : splB (numsOf p) = true
      · rw [if_pos hB] at PL
        rw [hB] at SP
        clear hPF hNM hB hE V
        go_enter Tryd.func8, Tryd.ntmps8
        go_wp2_with (first | (refine wpList_alloc_obj rfl 23 rfl (enV 0 emp 0 emp 0) EZ.out ?_; intro w2 g2 b2; have R2 := Lib.hid g2; have A2 := Lib.hid b2; clear g2 b2) | (refine wpList_store_obj rfl 23 _ _ rfl w.heap.size rfl (enV 0 p (mode % 4096) emp 0) (enV 0 emp 0 emp 0) rfl 23 R2.out EO.out.2 rfl (en_one _ _ _ _ _) ?_; intro w3 g3 t3; have X3 := Lib.hid g3; have A3 := Lib.hid (A2.out.trans (t3.below (Nat.le_refl _))); have c0 := g3.get 0 rfl; have c1 := g3.get 1 rfl; have c2 := g3.get 2 rfl; have c3 := g3.get 3 rfl; have c4 := g3.get 4 rfl; clear g3 t3))
        refine (PL.out w3 A3.out).mono ?_; rintro e w4 ⟨b, n, c, rfl, hn, _, _, hR, b4⟩
        have I4 := Lib.hid hR
        have B4 := Lib.hid (belT A3.out b4)
        clear hR b4 c0 c1 c2 c3 c4
        obtain rfl : n = 0 := hn.symm
        clear hn
        go_wp2_with (first | (refine wpList_alloc_obj rfl 27 rfl Ust.hd0 HZ.out ?_; intro w5 g5 b5; have R5 := Lib.hid g5; have A5 := Lib.hid b5; clear g5 b5) | (refine wpList_store_obj rfl 27 _ _ rfl w4.heap.size rfl (Ust.hdV 53 NM PF emp (mode % 4096) 0) Ust.hd0 rfl 27 R5.out HO.out.2 rfl (hd_one _ _ _ _ _ _) ?_; intro w6 g6 t6; have X6 := Lib.hid g6; have A6 := Lib.hid (A5.out.trans (t6.below (Nat.le_refl _))); have B6 := Lib.hid (belT B4.out A6.out); have I6 := Lib.hid (I4.out.below A6.out); clear g6 t6))
        refine (SP.out w6).mono ?_; rintro e w7 ⟨rfl, b7⟩
        have B7 := Lib.hid (belT B6.out b7)
        have X7 := Lib.hid (X6.out.below b7 X6.out.lt)
        clear b7
        go_wp2_with fail
        refine (AL.out w7 B7.out).mono ?_; rintro e w8 ⟨rfl, b8⟩
        have B8 := Lib.hid (belT B7.out b8)
        have d1 := (X7.out.below b8 X7.out.lt).get 1 rfl
        have d2 := (X7.out.below b8 X7.out.lt).get 2 rfl
        clear b8
        go_wp2
        go_ret
        exact ⟨rfl, B8.out⟩
      · rw [if_neg hB] at PL
        have hB' : splB (numsOf p) = false := by simpa using hB
        rw [hB'] at SP
        have q1 : PF = emp := hPF.out.trans (spl_no hB).1
        have q2 : NM = emp := hNM.out.trans (spl_no hB).2
        subst q1; subst q2
        have hq1 : ∀ w, (Op.equalIn 10000 38 (.agg #[.string kPath, .string p]) (.agg #[.string kPath, .string p])).run Tryd.prog w = .ok true w := fun w => by rw [run_eqRR]; simp
        have hg : Tryd.prog.eqGuardType Tryd.prog.depth 38 = false := by kernel_rfl
        clear hPF hNM hB hB' hE V
        go_enter Tryd.func8, Tryd.ntmps8
        go_wp2_with (first | (refine wpList_alloc_obj rfl 23 rfl (enV 0 emp 0 emp 0) EZ.out ?_; intro w2 g2 b2; have R2 := Lib.hid g2; have A2 := Lib.hid b2; clear g2 b2) | (refine wpList_store_obj rfl 23 _ _ rfl w.heap.size rfl (enV 0 p (mode % 4096) emp 0) (enV 0 emp 0 emp 0) rfl 23 R2.out EO.out.2 rfl (en_one _ _ _ _ _) ?_; intro w3 g3 t3; have X3 := Lib.hid g3; have A3 := Lib.hid (A2.out.trans (t3.below (Nat.le_refl _))); have c0 := g3.get 0 rfl; have c1 := g3.get 1 rfl; have c2 := g3.get 2 rfl; have c3 := g3.get 3 rfl; have c4 := g3.get 4 rfl; clear g3 t3))
        refine (PL.out w3 A3.out).mono ?_; rintro e w4 ⟨b, n, c, rfl, hn, _, _, hR, b4⟩
        have I4 := Lib.hid hR
        have B4 := Lib.hid (belT A3.out b4)
        clear hR b4 c0 c1 c2 c3 c4
        obtain rfl : n = 1 := hn.symm
        clear hn
        obtain ⟨B, o, rfl, _, _, _⟩ := I4.out.get 0 _ rfl
        go_wp2_with (first | (refine wpList_alloc_obj rfl 27 rfl Ust.hd0 HZ.out ?_; intro w5 g5 b5; have R5 := Lib.hid g5; have A5 := Lib.hid b5; clear g5 b5) | (refine wpList_store_obj rfl 27 _ _ rfl w4.heap.size rfl (Ust.hdV 53 emp emp emp (mode % 4096) 0) Ust.hd0 rfl 27 R5.out HO.out.2 rfl (hd_one _ _ _ _ _ _) ?_; intro w6 g6 t6; have X6 := Lib.hid g6; have A6 := Lib.hid (A5.out.trans (t6.below (Nat.le_refl _))); have B6 := Lib.hid (belT B4.out A6.out); have I6 := Lib.hid (I4.out.below A6.out); clear g6 t6))
        refine (SP.out w6).mono ?_; rintro e w7 ⟨rfl, b7⟩
        have B7 := Lib.hid (belT B6.out b7)
        have X7 := Lib.hid (X6.out.below b7 X6.out.lt)
        have I7 := Lib.hid (I6.out.below b7)
        clear b7
        go_wp2_with fail
        refine (AL.out w7 B7.out).mono ?_; rintro e w8 ⟨rfl, b8⟩
        have B8 := Lib.hid (belT B7.out b8)
        have d1 := (X7.out.below b8 X7.out.lt).get 1 rfl
        have d2 := (X7.out.below b8 X7.out.lt).get 2 rfl
        obtain ⟨_, _, e0, _, x0, x1⟩ := (I7.out.below b8).get 0 _ rfl
        cases e0
        rw [Nat.zero_mul, Nat.add_zero] at x0 x1
        clear b8
        go_wp2
        go_ret
        exact ⟨rfl, B8.out⟩
    · obtain ⟨e2, e3⟩ := pl_bad_eq (e := ⟨0, p, mode % 4096, emp, 0⟩) (by rw [pp_ck M0 M1]; exact hE)
      rw [e2, e3] at PL
      obtain ⟨E, hEn⟩ := named (chE (numsOf p))
      rw [← hEn.out] at PL CK
      have n0 : (E != 0) = true := by rw [hEn.out]; simpa using hE
      clear hEn hE SP V e2 e3
      go_enter Tryd.func8, Tryd.ntmps8
      go_wp2_with (first | (refine wpList_alloc_obj rfl 23 rfl (enV 0 emp 0 emp 0) EZ.out ?_; intro w2 g2 b2; have R2 := Lib.hid g2; have A2 := Lib.hid b2; clear g2 b2) | (refine wpList_store_obj rfl 23 _ _ rfl w.heap.size rfl (enV 0 p (mode % 4096) emp 0) (enV 0 emp 0 emp 0) rfl 23 R2.out EO.out.2 rfl (en_one _ _ _ _ _) ?_; intro w3 g3 t3; have X3 := Lib.hid g3; have A3 := Lib.hid (A2.out.trans (t3.below (Nat.le_refl _))); have c0 := g3.get 0 rfl; have c1 := g3.get 1 rfl; have c2 := g3.get 2 rfl; have c3 := g3.get 3 rfl; have c4 := g3.get 4 rfl; clear g3 t3))
      refine (PL.out w3 A3.out).mono ?_; rintro e w4 ⟨b, n, c, rfl, hn, _, _, hR, b4⟩
      have I4 := Lib.hid hR
      have B4 := Lib.hid (belT A3.out b4)
      clear hR b4 c0 c1 c2 c3 c4
      clear hn
      go_wp2_with (first | (refine wpList_alloc_obj rfl 27 rfl Ust.hd0 HZ.out ?_; intro w5 g5 b5; have R5 := Lib.hid g5; have A5 := Lib.hid b5; clear g5 b5) | (refine wpList_store_obj rfl 27 _ _ rfl w4.heap.size rfl (Ust.hd0) Ust.hd0 rfl 27 R5.out HO.out.2 rfl (hd_one _ _ _ _ _ _) ?_; intro w6 g6 t6; have X6 := Lib.hid g6; have A6 := Lib.hid (A5.out.trans (t6.below (Nat.le_refl _))); have B6 := Lib.hid (belT B4.out A6.out); have I6 := Lib.hid (I4.out.below A6.out); clear g6 t6))
      refine (AL.out w6 B6.out).mono ?_; rintro e w7 ⟨rfl, b7⟩
      have B7 := Lib.hid (belT B6.out b7)
      clear b7
      go_wp2_with fail
      refine (CK.out w7).mono ?_; rintro e w8 ⟨rfl, b8⟩
      have B8 := Lib.hid (belT B7.out b8)
      clear b8
      go_wp2
      go_ret
      exact ⟨rfl, B8.out⟩
end Go.Proofs.YtokjmehecfjhmaaDoor
