/-
  The statement RebuildInvertsFlatten: a walk.
-/
import Derived.Test.YtinmkgpmoclcoaaDoorRebUse
import Derived.Test.YtinmkgpmoclcoaaDoorFltPMem
import Derived.Test.YtinmkgpmoclcoaaDoorPz14
import Derived.Test.YtinmkgpmoclcoaaDoorTreRCan
namespace Go.Proofs.YtinmkgpmoclcoaaDoor
open Go.RowKit Go.Proofs.YtinmkgpmoclcoaaDoor.Fit Pnm Tre Flt Reb

set_option maxRecDepth 100000 in
set_option maxHeartbeats 8000000 in
theorem walk_RebuildInvertsFlatten (a : Option Addr) (n cap : Nat) (ys : List NdS) (w : World) (V : Pxr.Vars w) (ha : ArgNds w a n cap ys) :
    Calls Tryd.prog 4 #[.slice a n cap] w fun e w' => e = .returned (.bool true) ∧ Below w.heap.size w w' := by
  have HV := Lib.hid (FVars.mk V)
  have HA := Lib.hid ha
  have MZ := Lib.hid zMb
  have MT := Lib.hid mbT
  clear V ha
  go_enter Tryd.func4, Tryd.ntmps4
  go_wp2_with fail
  refine (Tre.large_any a n cap ys w HA.out).mono ?_; rintro e w1 ⟨R, rfl, hR, b1⟩
  have B1 := Lib.hid b1
  clear b1
  rcases hR with rfl | ⟨rfl, h40, _⟩
  · go_wp2_with fail
    refine (Reb.alive_any w1 (HV.out.go B1.out)).mono ?_; rintro e w2 ⟨rfl, b2⟩
    have B2 := Lib.hid (belT B1.out b2)
    go_wp2
    go_ret
    exact ⟨rfl, B2.out⟩
  have H1 := Lib.hid h40
  clear h40
  go_wp2_with fail
  refine (pmem_any a n cap ys w1 (HV.out.go B1.out) (HA.out.below B1.out) H1.out).mono ?_; rintro e w2 ⟨b, k, c, us, X1, X2, rfl, h1, h2, hm, hu, b2⟩
  have B2 := Lib.hid (belT B1.out b2); have HM := Lib.hid hm; have HU := Lib.hid hu; have E2 := Lib.hid h2
  clear b2 hm hu h1 h2
  go_wp2_with fail
  refine (new_any w2).mono ?_; rintro e w3 ⟨S, g, rfl, p3, s3, b3⟩
  have P3 := Lib.hid p3; have S3 := Lib.hid s3; have B3 := Lib.hid b3
  clear p3 s3 b3
  by_cases x0 : ¬ X2 = 0
  · have nx : (X2 != 0) = true := by simpa using x0
    go_wp2_with fail
    refine (Reb.alive_any w3 (HV.out.go (belT B2.out B3.out))).mono ?_; rintro e w4 ⟨rfl, b4⟩
    have B4 := Lib.hid (belT (belT B2.out B3.out) b4)
    go_wp2
    go_ret
    exact ⟨rfl, B4.out⟩
  obtain rfl : X2 = 0 := Decidable.not_not.mp x0
  clear x0
  obtain ⟨hC, hR⟩ := mbR_good E2.out.symm
  have HC := Lib.hid hC
  have HU2 : Hid (mms us = Flt.mbs (canon (nds ys))) := HU.out.trans hR
  have KN : Hid (k = n) := by
    have h1 := congrArg List.length HU2.out
    rw [mms_len, Flt.mbs_len, canon_len, nds_len, HM.out.n, HA.out.n] at h1
    exact h1
  clear hC hR HU E2
  go_wp2_with fail
  go_loopw [29] (fun i wr => ∃ (j : Nat) (S' : Nat → Prop), i = .int .i64 j ∧ j ≤ k ∧ (∀ q, S' q → w2.heap.size ≤ q) ∧ PBd wr S' g ((mms us).take j) ∧ Below w2.heap.size w2 wr) (fun i _ => k - (intOf i).toNat)
  case atStart => exact ⟨0, S, rfl, Nat.zero_le _, S3.out, P3.out, B3.out⟩
  case round =>
    obtain ⟨j, S', rfl, hj, hS, hP, hB⟩ := hrel
    have HS := Lib.hid hS; have HP := Lib.hid hP; have HB := Lib.hid hB
    clear hS hP hB
    by_cases hjn : j < k
    · obtain ⟨bb, off, y, rfl, hbl, hy, hf, hat⟩ := HM.out.get j hjn
      have HY := Lib.hid hy; have HF := Lib.hid hf; have AT := Lib.hid (at_row (hat.below HB.out hbl) hy)
      have ADD := Lib.hid (can_add HC.out HU2.out hy)
      have j1 : (j : Int) < k := by omega
      have k40 : (k : Int) ≤ 40 := by have := H1.out; have := KN.out; omega
      have JL : Hid (((mms us).take j).length ≤ 1000) := by
        show _ ≤ _
        have := H1.out; have := KN.out
        rw [List.length_take]; omega
      clear hbl hy hf hat
      go_wp2_with (first | (refine wpList_load_part rfl 30 6 MT.out _ rfl bb (off + j * 6) rfl (mbV y) rfl AT.out ?_) | (refine wpList_alloc_obj rfl 30 rfl (mbC 0 emp 0 emp 0 none 0 0) MZ.out ?_; intro w5 g5 b5; have G5 := Lib.hid g5; have B5 := Lib.hid b5; clear g5 b5) | (refine wpList_store_obj rfl 30 _ _ rfl wr.heap.size rfl (mbV y) (mbC 0 emp 0 emp 0 none 0 0) rfl 30 G5.out MT.out.2 rfl (mb_one _ _ _ _ _ _ _ _) ?_; intro w6 g6 t6; have G6 := Lib.hid g6; have B6 := Lib.hid (B5.out.trans (t6.below (Nat.le_refl _))); clear g6 t6) | (refine wpList_load_obj rfl 30 6 MT.out _ rfl wr.heap.size rfl 30 (mbV y) G6.out rfl ?_))
      have BW := Lib.hid (HB.out.trans (B6.out.mono HB.out.size))
      refine (pbadd_any (HP.out.below B6.out) (HV.out.go (belT B2.out BW.out)) y (HF.out.below BW.out) (Reb.MbF.off HF.out HS.out) JL.out).mono ?_; intro e w7 hq
      obtain ⟨rfl, _, b7, S7, s7, _, p7⟩ := hq.go ADD.out HS.out BW.out
      rw [if_pos rfl, take_next HY.out] at p7
      have P7 := Lib.hid p7; have S7' := Lib.hid s7; have B7 := Lib.hid b7
      clear hq p7 s7 b7
      go_wp2_with fail
      go_round
      case rel => exact ⟨j + 1, S7, by go_num, by omega, S7'.out, P7.out, B7.out⟩
      case measure => simp [intOf]; omega
    · obtain rfl : j = k := by omega
      have P5 : Hid (PBd wr S' g (mms us)) := by
        have := HP.out
        rw [List.take_of_length_le (by rw [mms_len, HM.out.n]; exact Nat.le_refl _)] at this
        exact this
      have BW := Lib.hid (belT B2.out HB.out)
      clear HP hj hjn
      go_wp2_with fail
      refine (Reb.alive_any wr (HV.out.go BW.out)).mono ?_; rintro e w6 ⟨rfl, b6⟩
      have P6 := Lib.hid (P5.out.below b6)
      have B6 := Lib.hid (belT BW.out b6)
      clear b6 P5
      go_wp2_with fail
      refine (pbnds_any P6.out (by rw [mms_len, HM.out.n, KN.out]; exact H1.out)).mono ?_; rintro e w7 ⟨a7, c7, zs, rfl, hz, hzn, _, _, b7⟩
      have HZ := Lib.hid hz
      have HZN : Hid (nds zs = canon (nds ys)) := hzn.trans (by rw [HU2.out]; exact can_back HC.out)
      have B7 := Lib.hid (belT B6.out b7)
      clear hz hzn b7
      go_wp2_with fail
      refine (rcanon_any a n cap ys w7 (HA.out.below B7.out) (Nat.le_trans H1.out (by decide))).mono ?_; rintro e w8 ⟨a8, c8, vs, rfl, hv, hvn, _, _, b8⟩
      have B8 := Lib.hid (belT B7.out b8)
      have HV8 := Lib.hid hv; have HVN := Lib.hid hvn; have HZ8 := Lib.hid (HZ.out.below b8)
      clear hv hvn b8
      go_wp2_with fail
      refine (rsame_any _ _ _ zs a8 n c8 vs w8 HZ8.out HV8.out).mono ?_; rintro e w9 ⟨Bs, rfl, hs, b9⟩
      obtain rfl : Bs = true := hs.mpr (by rw [HZN.out, HVN.out])
      have B9 := Lib.hid (belT B8.out b9)
      clear hs b9
      go_wp2
      go_ret
      exact ⟨rfl, B9.out⟩
end Go.Proofs.YtinmkgpmoclcoaaDoor
