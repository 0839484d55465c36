/- EtrRZero EtrPZero EtrPDec -/
import Derived.Test.YtbbaleambgaanaaGreatDoorQ5
import Derived.Test.YtbbaleambgaanaaGreatDoorQ4
import Derived.Test.YtbbaleambgaanaaGreatDoorQ18
import Derived.Test.YtbbaleambgaanaaGreatDoorQ35
import Derived.Test.YtbbaleambgaanaaGreatDoorQ32
namespace Go.Proofs.YtbbaleambgaanaaGreatDoor.Etr
open Go.RowKit Go.Proofs.YtbbaleambgaanaaGreatDoor.Fit Pxr Pnm
theorem zeroB_iff {zs : List Int} : zeroB zs ↔ ∀ x, x < zs.length → zs.getD x 0 = 0 := by
  unfold zeroB
  constructor
  · intro h x hx
    rw [List.getD_eq_getElem?_getD, List.getElem?_eq_getElem hx]
    exact h _ (List.getElem_mem hx)
  · intro h z hz
    obtain ⟨x, hx, rfl⟩ := List.mem_iff_getElem.1 hz
    have := h x hx
    rw [List.getD_eq_getElem?_getD, List.getElem?_eq_getElem hx] at this
    exact this
set_option maxHeartbeats 1000000 in
theorem riszero_any (a : Option Addr) (n c : Nat) (zs : List Int) (w : World) (hb : BytesIn w a zs) (hl : zs.length = n) (hn : n ≤ 9223372036854775807) (b : Bool) (hbz : b = true ↔ zeroB zs) :
    Calls Tryz.prog 14 #[.slice a n c] w fun e w' => e = .returned (.bool b) ∧ w = w' := by
  have HI := Lib.hid hb.inK; have HL := Lib.hid hl; have HB := Lib.hid hbz
  have hn' : (n : Int) ≤ 9223372036854775807 := by omega
  clear hb hl hbz hn
  go_enter Tryz.func14, Tryz.ntmps14
  go_wp2_with fail
  go_loop [3] (fun i => ∃ j : Nat, j ≤ n ∧ i = .int .i64 j ∧ ∀ x, x < j → zs.getD x 0 = 0) (fun i => n - (intOf i).toNat)
  case atStart => exact ⟨0, Nat.zero_le _, rfl, fun x hx => absurd hx (Nat.not_lt_zero _)⟩
  case round =>
    obtain ⟨j, hj, rfl, hz⟩ := hrel
    have HZ := Lib.hid hz
    clear hz
    by_cases hlt : j < n
    · have hlt' : (j : Int) < n := by omega
      obtain ⟨bb, off, rfl, _⟩ := HI.out.plain (by rw [HL.out]; omega)
      obtain ⟨d, hd⟩ := named (zs.getD j 0)
      have hcell := HI.out.get j (by rw [HL.out]; exact hlt)
      rw [← hd.out] at hcell
      by_cases h0 : d = 0
      · have hne : (d != 0) = false := by rw [h0]; rfl
        have hd0 : Hid (zs.getD j 0 = 0) := by show _ = _; rw [← hd.out]; exact h0
        clear hd h0
        go_wp2_with fail
        go_round
        case rel =>
          refine ⟨j + 1, by omega, by go_num, fun x hx => ?_⟩
          rcases Nat.lt_or_ge x j with h | h
          · exact HZ.out x h
          · obtain rfl : x = j := by omega
            exact hd0.out
        case measure => simp [intOf]; omega
      · have hne : (d != 0) = true := by simp [h0]
        have hb0 : b = false := by
          cases hb1 : b with
          | false => rfl
          | true => exact absurd (hd.out.trans (zeroB_iff.1 (HB.out.1 hb1) j (by rw [HL.out]; exact hlt))) h0
        clear hd h0 HB
        subst hb0
        go_wp2_with fail
        go_ret
        exact ⟨rfl, rfl⟩
    · obtain rfl : n = j := by omega
      have hb0 : b = true := HB.out.2 (zeroB_iff.2 fun x hx => HZ.out x (by rw [← HL.out]; exact hx))
      clear HB
      subst hb0
      go_wp2_with fail
      go_ret
      exact ⟨rfl, rfl⟩
end Go.Proofs.YtbbaleambgaanaaGreatDoor.Etr
namespace Go.Proofs.YtbbaleambgaanaaGreatDoor.Etr
open Go.RowKit Go.Proofs.YtbbaleambgaanaaGreatDoor.Fit Pxr Pnm
theorem pnz_any (d : Int) (w : World) : Calls Tryz.prog 30 #[.int .u8 d] w fun e w' => e = .returned (.bool (d != 0)) ∧ w = w' := by
  go_enter Tryz.func30, Tryz.ntmps30
  go_wp2
  go_ret
  exact ⟨rfl, rfl⟩
set_option maxHeartbeats 1000000 in
theorem pixf_any (a : Option Addr) (n c : Nat) (P : List Int) (w : World) (hi : InK .u8 w a P) (hl : P.length = n) (hn : n ≤ 9223372036854775807) :
    Calls Tryz.prog 69 #[.slice a n c, .func (.func 30) #[] #[]] w fun e w' => e = .returned (.int .i64 (if nzI P < n then (nzI P : Int) else -1)) ∧ w = w' := by
  have HI := Lib.hid hi; have HL := Lib.hid hl
  have hn' : (n : Int) ≤ 9223372036854775807 := by omega
  obtain ⟨R, hR⟩ := named (if nzI P < n then (nzI P : Int) else -1)
  obtain ⟨k, hk⟩ := named (nzI P)
  rw [← hR.out]
  clear hi hl hn
  go_enter Tryz.func69, Tryz.ntmps69
  go_wp2_with fail
  go_loop [5, 8] (fun _ i => ∃ j : Nat, j ≤ k ∧ i = .int .i64 j) (fun _ i => n - (intOf i).toNat)
  case atStart => exact ⟨0, Nat.zero_le _, rfl⟩
  case round =>
    obtain ⟨j, hj, rfl⟩ := hrel
    have HJ := Lib.hid hj
    clear hj
    have hkn : k ≤ n := by rw [hk.out, ← HL.out]; exact nzI_le P
    by_cases hlt : j < n
    · have hlt' : (j : Int) < n := by omega
      obtain ⟨b, off, rfl, _⟩ := HI.out.plain (by rw [HL.out]; omega)
      obtain ⟨d, hd⟩ := named (P.getD j 0)
      have hcell := HI.out.get j (by rw [HL.out]; exact hlt)
      rw [← hd.out] at hcell
      by_cases hjk : j < k
      · have hd0 : d = 0 := by rw [hd.out]; exact nzI_zero (by rw [← hk.out]; exact hjk)
        have hne : (d != 0) = false := by rw [hd0]; rfl
        clear hd hd0
        go_wp2_with fail
        refine (pnz_any d w).mono ?_; rintro e w1 ⟨rfl, rfl⟩
        rw [hne]
        go_wp2_with fail
        go_round
        case rel => exact ⟨j + 1, by omega, by go_num⟩
        case measure => simp [intOf]; omega
      · obtain rfl : j = k := by have := HJ.out; omega
        have hd0 : d ≠ 0 := by rw [hd.out, hk.out]; exact nzI_lt (by rw [← hk.out, HL.out]; omega)
        have hne : (d != 0) = true := by simp [hd0]
        have hR1 : R = j := by rw [hR.out, ← hk.out, if_pos hlt]
        clear hR hd hd0
        subst hR1
        go_wp2_with fail
        refine (pnz_any d w).mono ?_; rintro e w1 ⟨rfl, rfl⟩
        rw [hne]
        go_wp2_with fail
        go_ret
        exact ⟨rfl, rfl⟩
    · have hj : j = n := by have := HJ.out; omega
      have hR1 : R = -1 := by rw [hR.out, ← hk.out, if_neg (by have := HJ.out; omega)]
      clear hR
      subst hR1
      subst hj
      go_wp2_with fail
      go_ret
      exact ⟨rfl, rfl⟩
theorem zeroB_nz {zs : List Int} : zeroB zs ↔ ¬ nzI zs < zs.length := by
  constructor
  · intro h hl
    exact nzI_lt hl (zeroB_iff.1 h _ hl)
  · intro h
    exact zeroB_iff.2 fun x hx => nzI_zero (by have := nzI_le zs; omega)
set_option maxHeartbeats 1000000 in
theorem piszero_any (a : Option Addr) (n c : Nat) (zs : List Int) (w : World) (hb : InK .u8 w a zs) (hl : zs.length = n) (hn : n ≤ 9223372036854775807) (b : Bool) (hbz : b = true ↔ zeroB zs) :
    Calls Tryz.prog 13 #[.slice a n c] w fun e w' => e = .returned (.bool b) ∧ w = w' := by
  have IX := Lib.hid (pixf_any a n c zs w hb hl hn)
  by_cases h : nzI zs < n
  · obtain rfl : b = false := by
      cases b with
      | false => rfl
      | true => exact absurd (by rw [hl]; exact h) (zeroB_nz.1 (hbz.1 rfl))
    rw [if_pos h] at IX
    obtain ⟨k, hk⟩ := named (nzI zs)
    rw [← hk.out] at IX h
    have h0 : (0 : Int) ≤ k := by omega
    have hd : decide ((k : Int) ≥ 0) = true := by simp
    clear hb hl hn hbz hk h
    go_enter Tryz.func13, Tryz.ntmps13
    go_wp2_with fail
    go_enter Tryz.func29, Tryz.ntmps29
    go_wp2_with fail
    refine IX.out.mono ?_; rintro e w1 ⟨rfl, rfl⟩
    go_wp2_with fail
    go_ret
    go_wp2_with fail
  · obtain rfl : b = true := hbz.2 (zeroB_nz.2 (by rw [hl]; exact h))
    rw [if_neg h] at IX
    clear hb hl hn hbz h
    go_enter Tryz.func13, Tryz.ntmps13
    go_wp2_with fail
    go_enter Tryz.func29, Tryz.ntmps29
    go_wp2_with fail
    refine IX.out.mono ?_; rintro e w1 ⟨rfl, rfl⟩
    go_wp2_with fail
    go_ret
    go_wp2_with fail
end Go.Proofs.YtbbaleambgaanaaGreatDoor.Etr
namespace Go.Proofs.YtbbaleambgaanaaGreatDoor.Etr
open Go.RowKit Go.Proofs.YtbbaleambgaanaaGreatDoor.Fit Pxr Pnm
theorem pdecd_nil (w : World) : Calls Tryz.prog 18 #[.pointer none] w fun e w' => RetDe ⟨ez, 0, 1, 0, 0⟩ e ∧ Below w.heap.size w w' := by
  have EO := Lib.hid enT; have EZ := Lib.hid zEn
  go_enter Tryz.func18, Tryz.ntmps18
  go_wp2_with (first | (refine wpList_alloc_obj rfl 23 rfl (enV 0 emp 0 emp 0) EZ.out ?_; intro w1 h1 b1; have G1 := Lib.hid h1; have B1 := Lib.hid b1; clear h1 b1))
  refine (rdr_next_nil w1).mono ?_; rintro e w2 ⟨rfl, rfl⟩
  go_wp2_with fail
  refine (rdr_off_nil w1).mono ?_; rintro e w2 ⟨rfl, rfl⟩
  go_wp2_with (first | (refine wpList_store_obj rfl 23 _ _ rfl w.heap.size rfl (enV 0 emp 0 emp 0) (enV 0 emp 0 emp 0) rfl 23 G1.out EO.out.2 rfl (en_one _ _ _ _ _) ?_; intro wy gy ty; have GY := Lib.hid gy; have TY := Lib.hid ty; clear gy ty))
  exact bodyPost_ret (Go.Proofs.YtbbaleambgaanaaGreatDoor.Fit.results_obj_two Tryz.results18 EO.out _ w.heap.size rfl _ (enV 0 emp 0 emp 0) GY.out rfl) rfl ⟨rfl, B1.out.trans (TY.out.below (Nat.le_refl _))⟩
set_option maxRecDepth 100000 in
set_option maxHeartbeats 16000000 in
theorem pdecd_any {lo hi q B0 : Nat} {Z : List Int} {E : Int} {o : Nat} {err : Int} (w : World) (h : Rdr w lo hi q Z E o err) (hEE : E = 11 ∨ E = 4) (V : MV B0 w) (hB0 : B0 ≤ lo) :
    Calls Tryz.prog 18 #[.pointer (some ⟨q, 0, none⟩)] w fun e w' => RetDe (dcd Z E o err) e ∧ Rdr w' lo hi q Z E (dcd Z E o err).o (dcd Z E o err).s ∧ Out lo hi w w' := by
  have EO := Lib.hid enT; have HO := Lib.hid hdTp; have HZ := Lib.hid zHp; have EZ := Lib.hid zEn
  have H := Lib.hid h; have HS := Lib.hid h.size; have ZB := Lib.hid h.bd; have HEE := Lib.hid hEE; have HV' := Lib.hid V; have HB0 := Lib.hid hB0
  obtain ⟨d, hd⟩ := named (dcd Z E o err)
  rw [← hd.out]
  obtain ⟨V, hV⟩ := named (nxE Z E o err)
  obtain ⟨O, hO⟩ := named (nxO Z o err)
  clear h hEE hB0
  go_enter Tryz.func18, Tryz.ntmps18
  go_wp2_with (first | (refine wpList_alloc_obj rfl 23 rfl (enV 0 emp 0 emp 0) EZ.out ?_; intro w1 h1 b1; have G1 := Lib.hid h1; have B1 := Lib.hid b1; clear h1 b1))
  have R1 := Lib.hid (H.out.below B1.out); have U1 : Hid (Out lo hi w w1) := Out.of_below B1.out (Nat.le_refl _)
  refine (rdr_next_cap w1 R1.out HEE.out).mono ?_; rintro e w2 ⟨b2, c2, rfl, l2, i2, x2, r2, u2⟩
  rw [← hV.out, ← hO.out] at r2
  rw [← hV.out]
  have R2 := Lib.hid r2; have U2 := Lib.hid (U1.out.trans u2); have G2 := Lib.hid (G1.out.out u2 (.inr HS.out.1))
  have I2 := Lib.hid i2; have L2 := Lib.hid l2
  clear l2 i2 x2 r2 u2
  by_cases hV0 : V ≠ 0
  · have hne : (V != 0) = true := by simp [hV0]
    have HDV : Hid (d = ⟨ez, O, V, O, V⟩) := by
      show _ = _
      rw [hd.out]; unfold dcd; rw [if_pos (by rw [← hV.out]; exact hV0), ← hV.out, ← hO.out]
    clear hV0
    go_wp2_with fail
    refine (rdr_off w2 R2.out).mono ?_; rintro e w3 ⟨rfl, rfl⟩
    go_wp2_with (first | (refine wpList_store_obj rfl 23 _ _ rfl w.heap.size rfl (enV 0 emp 0 emp 0) (enV 0 emp 0 emp 0) rfl 23 G2.out EO.out.2 rfl (en_one _ _ _ _ _) ?_; intro wy gy ty; have GY := Lib.hid gy; have TY := Lib.hid ty; clear gy ty))
    exact bodyPost_ret (Go.Proofs.YtbbaleambgaanaaGreatDoor.Fit.results_obj_two Tryz.results18 EO.out _ w.heap.size rfl _ (enV 0 emp 0 emp 0) GY.out rfl) rfl (by rw [HDV.out]; exact ⟨rfl, R2.out.out (Out.turned TY.out (Nat.le_refl _) (Nat.lt_succ_self _)) (.inl HS.out.1), U2.out.late TY.out (Nat.le_refl _)⟩)
  · obtain rfl : V = 0 := Decidable.byContradiction hV0
    clear hV0
    have hg : err = 0 ∧ o + 512 ≤ Z.length := nx_zero HEE.out hV.out.symm
    obtain ⟨rfl, hg5⟩ := hg
    obtain ⟨g1, _, g3⟩ := nx_go (E := E) hg5
    obtain ⟨B, hB⟩ := named ((Z.drop o).take 512)
    rw [← hB.out] at g1
    obtain rfl : o + 512 = O := by rw [hO.out, g3]
    have BL : Hid (B.length = 512) := by show _ = _; rw [hB.out, List.length_take, List.length_drop]; omega
    have BB : Hid (Bytes B) := by show Bytes _; rw [hB.out]; exact (ZB.out.2.drop _).take _
    have I2' : Hid (InK .u8 w2 b2 B) := by show InK _ _ _ _; rw [← g1]; exact I2.out
    have L2' : Hid (512 ≤ c2 ∧ c2 ≤ maxLen) := by show _ ∧ _; have := L2.out; rw [g1, BL.out] at this; exact this
    have HD1 : Hid (d = dc1 Z E o B) := by
      show _ = _
      rw [hd.out]; unfold dcd; rw [if_neg (by rw [← hV.out]; simp), ← hB.out]
    rw [g1, BL.out]
    clear g1 g3 I2 L2
    obtain ⟨zb, hzb⟩ : ∃ zb : Bool, zb = true ↔ zeroB B := by
      by_cases hz : zeroB B
      · exact ⟨true, by simp [hz]⟩
      · exact ⟨false, by simp [hz]⟩
    go_wp2_with fail
    refine (last_any w2 R2.out o rfl).mono ?_; rintro e w3 ⟨rfl, rfl⟩
    go_wp2_with fail
    refine (piszero_any b2 512 c2 B w2 I2'.out BL.out (by decide) zb hzb).mono ?_; rintro e w3 ⟨rfl, rfl⟩
    have HZB := Lib.hid hzb
    clear hzb
    cases zb with
    | true =>
      have HDV : Hid (d = ⟨ez, o, 18, o + 512, 0⟩) := by
        show _ = _
        rw [HD1.out]; unfold dc1; rw [if_pos (HZB.out.1 rfl)]
      go_wp2_with (first | (refine wpList_store_obj rfl 23 _ _ rfl w.heap.size rfl (enV 0 emp 0 emp 0) (enV 0 emp 0 emp 0) rfl 23 G2.out EO.out.2 rfl (en_one _ _ _ _ _) ?_; intro wy gy ty; have GY := Lib.hid gy; have TY := Lib.hid ty; clear gy ty))
      exact bodyPost_ret (Go.Proofs.YtbbaleambgaanaaGreatDoor.Fit.results_obj_two Tryz.results18 EO.out _ w.heap.size rfl _ (enV 0 emp 0 emp 0) GY.out rfl) rfl (by rw [HDV.out]; exact ⟨rfl, R2.out.out (Out.turned TY.out (Nat.le_refl _) (Nat.lt_succ_self _)) (.inl HS.out.1), U2.out.late TY.out (Nat.le_refl _)⟩)
    | false =>
      have hnz : ¬ zeroB B := fun h => by have := HZB.out.2 h; cases this
      obtain ⟨D, hD⟩ := named (Ust.deE B)
      go_wp2_with fail
      refine (Ust.dec_any b2 512 c2 B w2 (I2'.out.bytes BB.out) BL.out BB.out L2'.out.1 L2'.out.2).mono ?_; rintro e w4 ⟨rfl, b4⟩
      rw [← hD.out]
      have R4 := Lib.hid (R2.out.below b4); have U4 := Lib.hid (U2.out.late_below b4 U2.out.size); have G4 := Lib.hid (G2.out.below b4 G2.out.lt)
      clear b4
      by_cases hD0 : D ≠ 0
      · have hne : (D != 0) = true := by simp [hD0]
        have HDV : Hid (d = ⟨ez, o, D, o + 512, 0⟩) := by
          show _ = _
          rw [HD1.out]; unfold dc1; rw [if_neg hnz, if_pos (by rw [← hD.out]; exact hD0), ← hD.out]
        rw [dH_bad (by rw [← hD.out]; exact hD0)]
        clear hD0 hnz
        go_wp2_with (first | (refine wpList_alloc_obj rfl 56 rfl Ust.hd0 HZ.out ?_; intro w5 g5 b5; have X5 := Lib.hid g5; have B5 := Lib.hid b5; clear g5 b5) | (refine wpList_store_obj rfl 56 _ _ rfl w4.heap.size rfl (Ust.hd0) Ust.hd0 rfl 56 X5.out HO.out.2 rfl (hd_one _ _ _ _ _ _) ?_; intro w6 g6 t6; have X6 := Lib.hid g6; have A6 := Lib.hid (B5.out.trans (t6.below (Nat.le_refl _))); have G6 := Lib.hid (G4.out.below A6.out G4.out.lt); clear g6 t6; have e0 := X6.out.get 0 rfl; have e1 := X6.out.get 1 rfl; have e2 := X6.out.get 2 rfl; have e3 := X6.out.get 3 rfl; have e4 := X6.out.get 4 rfl; have e5 := X6.out.get 5 rfl) | (refine wpList_store_obj rfl 23 _ _ rfl w.heap.size rfl (enV 0 emp 0 emp 0) (enV 0 emp 0 emp 0) rfl 23 G6.out EO.out.2 rfl (en_one _ _ _ _ _) ?_; intro wy gy ty; have GY := Lib.hid gy; have TY := Lib.hid ty; clear gy ty))
        have R6 := Lib.hid (R4.out.below A6.out); have U6 := Lib.hid (U4.out.late_below A6.out U4.out.size)
        exact bodyPost_ret (Go.Proofs.YtbbaleambgaanaaGreatDoor.Fit.results_obj_two Tryz.results18 EO.out _ w.heap.size rfl _ (enV 0 emp 0 emp 0) GY.out rfl) rfl (by rw [HDV.out]; exact ⟨rfl, R6.out.out (Out.turned TY.out (Nat.le_refl _) (Nat.lt_succ_self _)) (.inl HS.out.1), U6.out.late TY.out (Nat.le_refl _)⟩)
      · obtain rfl : D = 0 := Decidable.byContradiction hD0
        clear hD0
        rw [dH_ok hD.out.symm]
        have HD2 : Hid (d = if Ust.dT B = 120 then dc2 Z E o (hdOf B) else mgD (hdOf B) [] o o (o + 512)) := by
          show _ = _
          rw [HD1.out]; unfold dc1; rw [if_neg hnz, if_neg (by rw [← hD.out]; simp)]
        have SZ := Lib.hid (hd_sizes BB.out)
        clear hnz HZB HD1
        by_cases hT : Ust.dT B = 120
        · have hT' : (Ust.dT B == 120) = true := by simp [hT]
          obtain ⟨NM, hNM⟩ := named (Ust.dNm B)
          obtain ⟨PF, hPF⟩ := named (Ust.dPf B)
          obtain ⟨LK, hLK⟩ := named (Ust.dLk B)
          obtain ⟨MD, hMD⟩ := named (Ust.dMd B)
          obtain ⟨SZE, hSZE⟩ := named (Ust.dSz B)
          have HHB : Hid (hdOf B = ⟨120, NM, PF, LK, MD, SZE⟩) := by show Hd.mk _ _ _ _ _ _ = _; rw [hT, hNM.out, hPF.out, hLK.out, hMD.out, hSZE.out]
          have HD3 : Hid (d = dc2 Z E o ⟨120, NM, PF, LK, MD, SZE⟩) := by show _ = _; rw [HD2.out, if_pos hT, HHB.out]
          rw [hT, ← hNM.out, ← hPF.out, ← hLK.out, ← hMD.out, ← hSZE.out]
          have V4 := Lib.hid (HV'.out.out U4.out HB0.out)
          have nT : ((120 : Int) == 120) = true := rfl
          clear hT hT' HD2 SZ
          by_cases hrc : rcE Z E o ⟨120, NM, PF, LK, MD, SZE⟩ = 0
          · obtain ⟨O2, hO2⟩ := named (rcO Z o ⟨120, NM, PF, LK, MD, SZE⟩)
            by_cases hls : lsE Z E O2 = 0
            · have hdc := dc2_ok HEE.out hrc (by rw [← hO2.out]; exact hls)
              rw [← hO2.out] at hdc
              obtain ⟨hd1, hd2, hd3⟩ := hdc
              have LHS := Lib.hid (hd_sizes (show Bytes ((Z.drop O2).take 512) from (ZB.out.2.drop _).take _))
              have HLH : Hid (lsH Z E O2 = hdOf ((Z.drop O2).take 512)) := by
                show _ = _
                unfold lsH
                rw [if_neg (by simpa using hls)]
              have RCZ := Lib.hid (rc_zero HEE.out hrc)
              have HRG : Hid ((∀ r ∈ rcR Z E o ⟨120, NM, PF, LK, MD, SZE⟩, r.2.size ≤ 65536) ∧ (rcR Z E o ⟨120, NM, PF, LK, MD, SZE⟩).length ≤ 3) := by
                show _ ∧ _
                rw [(rc_ok RCZ.out.1 RCZ.out.2.1 RCZ.out.2.2.1).2.2.1]
                exact par_good (rdD_bytes ZB.out.2 _ _ _)
              obtain ⟨RS, hRS⟩ := named (rcR Z E o ⟨120, NM, PF, LK, MD, SZE⟩)
              obtain ⟨LH, hLH⟩ := named (lsH Z E O2)
              rw [← hRS.out] at hd1 HRG
              rw [← hLH.out] at hd1
              have HLS : Hid (LH.nm.size ≤ 256 ∧ LH.pf.size ≤ 256 ∧ LH.lk.size ≤ 256) := by show _ ∧ _; rw [hLH.out, HLH.out]; exact LHS.out
              have HDV := Lib.hid (HD3.out.trans hd1)
              have EX := Lib.hid fun (w' : World) (h : Rdr w' lo hi q Z E (o + 512) 0) (V : MV B0 w') => pext_ok w' h HEE.out V HB0.out hrc O2 hO2.out hls
              rw [← hRS.out, ← hLH.out, hd2, hd3] at EX
              obtain ⟨hT2, hnm, hpf, hlk, hmd, hsz⟩ := LH
              clear hrc hls hd1 hd2 hd3 LHS HLH RCZ HD3
              go_wp2_with (first | (refine wpList_alloc_obj rfl 56 rfl Ust.hd0 HZ.out ?_; intro w5 g5 b5; have X5 := Lib.hid g5; have B5 := Lib.hid b5; clear g5 b5) | (refine wpList_store_obj rfl 56 _ _ rfl w4.heap.size rfl (Ust.hdV 120 NM PF LK MD SZE) Ust.hd0 rfl 56 X5.out HO.out.2 rfl (hd_one _ _ _ _ _ _) ?_; intro w6 g6 t6; have X6 := Lib.hid g6; have A6 := Lib.hid (B5.out.trans (t6.below (Nat.le_refl _))); have G6 := Lib.hid (G4.out.below A6.out G4.out.lt); clear g6 t6; have e0 := X6.out.get 0 rfl; have e1 := X6.out.get 1 rfl; have e2 := X6.out.get 2 rfl; have e3 := X6.out.get 3 rfl; have e4 := X6.out.get 4 rfl; have e5 := X6.out.get 5 rfl))
              have R6 := Lib.hid (R4.out.below A6.out); have U6 := Lib.hid (U4.out.late_below A6.out U4.out.size)
              have V6 := Lib.hid (V4.out.go A6.out)
              refine (EX.out w6 R6.out V6.out).mono ?_; rintro e w7 ⟨⟨a7, n7, c7, rfl, l7, f7, g7, y7, x7⟩, r7, u7⟩
              have R7 := Lib.hid r7; have U7 := Lib.hid (U6.out.trans u7)
              have G7 := Lib.hid (G6.out.out u7 (.inr HS.out.1))
              have X7 := Lib.hid (X6.out.out u7 (.inr (Nat.le_trans HS.out.1 U4.out.size)))
              have LW4 : Hid (w.heap.size < w4.heap.size) := G4.out.lt
              have HN7 := Lib.hid l7; have HF7 := Lib.hid f7; have HG7 := Lib.hid g7; have HY7 := Lib.hid y7
              have HX7 : Hid (∀ x, a7 = some x → w4.heap.size + 1 ≤ x.block) := fun x hx => Nat.le_trans X6.out.lt (x7 x hx)
              clear l7 f7 g7 y7 x7 r7 u7 e0 e1 e2 e3 e4 e5
              go_wp2_with (first | (refine wpList_store_obj rfl 56 _ _ rfl w4.heap.size rfl (Ust.hdV hT2 hnm hpf hlk hmd hsz) (Ust.hdV 120 NM PF LK MD SZE) rfl 56 X7.out HO.out.2 rfl (hd_one _ _ _ _ _ _) ?_; intro w8 g8 t8; have X8 := Lib.hid g8; have T8 := Lib.hid t8; have e0 := X8.out.get 0 rfl; have e1 := X8.out.get 1 rfl; have e2 := X8.out.get 2 rfl; have e3 := X8.out.get 3 rfl; have e4 := X8.out.get 4 rfl; have e5 := X8.out.get 5 rfl; clear g8 t8))
              have R8 := Lib.hid (R7.out.out (Out.turned T8.out (Nat.le_refl _) (Nat.lt_succ_self _)) (.inl (Nat.le_trans HS.out.1 U4.out.size)))
              have U8 := Lib.hid (U7.out.late T8.out U4.out.size)
              have G8 := Lib.hid (G7.out.turned T8.out (Nat.ne_of_lt LW4.out))
              have V8 := Lib.hid (HV'.out.out U8.out HB0.out)
              have HY8 := Lib.hid (HY7.out.out (Out.turned T8.out (Nat.le_refl _) (Nat.lt_succ_self _)) HX7.out)
              refine (merge_any hT2 hnm hpf hlk hmd hsz a7 n7 c7 RS w8 V8.out.v (by have := HLS.out; omega) (by have := HLS.out; omega) (by have := HLS.out; omega) (fun r hr => Nat.le_trans (HRG.out.1 r hr) (by decide)) HN7.out HY8.out (by have := HRG.out.2; have := HN7.out; omega)).mono ?_; rintro e m1 ⟨x, EM, rfl, hm, bm⟩
              obtain ⟨hmD, hmE⟩ := mgRes_D hm o O2 (O2 + 512)
              have HMD := Lib.hid hmD; have HME := Lib.hid hmE
              have RM := Lib.hid (R8.out.below bm); have UM := Lib.hid (U8.out.late_below bm U8.out.size); have GM := Lib.hid (G8.out.below bm G8.out.lt)
              clear hm bm hmD hmE e0 e1 e2 e3 e4 e5
              obtain ⟨xk, xp, xm, xt, xs⟩ := x
              by_cases hE0 : EM = 0
              · subst hE0
                have HDM : Hid (d = ⟨⟨xk, xp, xm, xt, xs⟩, o, 0, (O2 + 512), 0⟩) := by show _ = _; rw [HDV.out]; exact HMD.out
                go_wp2_with (first | (refine wpList_alloc_obj rfl 23 rfl (enV 0 emp 0 emp 0) EZ.out ?_; intro m2 g2 b2; have X2 := Lib.hid g2; have B2 := Lib.hid b2; clear g2 b2) | (refine wpList_store_obj rfl 23 _ _ rfl m1.heap.size rfl (enV xk xp xm xt xs) (enV 0 emp 0 emp 0) rfl 23 X2.out EO.out.2 rfl (en_one _ _ _ _ _) ?_; intro m3 g3 t3; have X3 := Lib.hid g3; have A3 := Lib.hid (B2.out.trans (t3.below (Nat.le_refl _))); have GM3 := Lib.hid (GM.out.below A3.out GM.out.lt); have e0 := X3.out.get 0 rfl; have e1 := X3.out.get 1 rfl; have e2 := X3.out.get 2 rfl; have e3 := X3.out.get 3 rfl; have e4 := X3.out.get 4 rfl; clear g3 t3) | (refine wpList_store_obj rfl 23 _ _ rfl w.heap.size rfl (enV xk xp xm xt xs) (enV 0 emp 0 emp 0) rfl 23 GM3.out EO.out.2 rfl (en_one _ _ _ _ _) ?_; intro wy gy ty; have GY := Lib.hid gy; have TY := Lib.hid ty; clear gy ty))
                have RM3 := Lib.hid (RM.out.below A3.out); have UM3 := Lib.hid (UM.out.late_below A3.out UM.out.size)
                exact bodyPost_ret (Go.Proofs.YtbbaleambgaanaaGreatDoor.Fit.results_obj_two Tryz.results18 EO.out _ w.heap.size rfl _ (enV xk xp xm xt xs) GY.out rfl) rfl (by rw [HDM.out]; exact ⟨rfl, RM3.out.out (Out.turned TY.out (Nat.le_refl _) (Nat.lt_succ_self _)) (.inl HS.out.1), UM3.out.late TY.out (Nat.le_refl _)⟩)
              · have hne : (EM != 0) = true := by simp [hE0]
                have hx := HME.out hE0
                have HDM : Hid (d = ⟨ez, O2, EM, (O2 + 512), 0⟩) := by show _ = _; rw [HDV.out]; refine HMD.out.trans ?_; rw [hx, if_neg hE0]
                clear hE0 hx
                go_wp2_with (first | (refine wpList_alloc_obj rfl 23 rfl (enV 0 emp 0 emp 0) EZ.out ?_; intro m2 g2 b2; have X2 := Lib.hid g2; have B2 := Lib.hid b2; clear g2 b2) | (refine wpList_store_obj rfl 23 _ _ rfl m1.heap.size rfl (enV xk xp xm xt xs) (enV 0 emp 0 emp 0) rfl 23 X2.out EO.out.2 rfl (en_one _ _ _ _ _) ?_; intro m3 g3 t3; have X3 := Lib.hid g3; have A3 := Lib.hid (B2.out.trans (t3.below (Nat.le_refl _))); have GM3 := Lib.hid (GM.out.below A3.out GM.out.lt); clear g3 t3))
                have RM3 := Lib.hid (RM.out.below A3.out); have UM3 := Lib.hid (UM.out.late_below A3.out UM.out.size)
                refine (last_any m3 RM3.out O2 rfl).mono ?_; rintro e m4 ⟨rfl, rfl⟩
                go_wp2_with (first | (refine wpList_store_obj rfl 23 _ _ rfl w.heap.size rfl (enV 0 emp 0 emp 0) (enV 0 emp 0 emp 0) rfl 23 GM3.out EO.out.2 rfl (en_one _ _ _ _ _) ?_; intro wy gy ty; have GY := Lib.hid gy; have TY := Lib.hid ty; clear gy ty))
                exact bodyPost_ret (Go.Proofs.YtbbaleambgaanaaGreatDoor.Fit.results_obj_two Tryz.results18 EO.out _ w.heap.size rfl _ (enV 0 emp 0 emp 0) GY.out rfl) rfl (by rw [HDM.out]; exact ⟨rfl, RM3.out.out (Out.turned TY.out (Nat.le_refl _) (Nat.lt_succ_self _)) (.inl HS.out.1), UM3.out.late TY.out (Nat.le_refl _)⟩)
            · have hdc := dc2_last HEE.out hrc (by rw [← hO2.out]; exact hls)
              rw [← hO2.out] at hdc
              have HDV := Lib.hid (HD3.out.trans hdc)
              have EX := Lib.hid fun (w' : World) (h : Rdr w' lo hi q Z E (o + 512) 0) (V : MV B0 w') => pext_last w' h HEE.out V HB0.out hrc O2 hO2.out hls
              obtain ⟨L, hL⟩ := named (lsE Z E O2)
              obtain ⟨P, hP⟩ := named (lsP Z E O2)
              rw [← hL.out] at hls
              rw [← hL.out, ← hP.out] at EX HDV
              have n0 : (L != 0) = true := by simp [hls]
              clear hrc hls hdc HD3
              go_wp2_with (first | (refine wpList_alloc_obj rfl 56 rfl Ust.hd0 HZ.out ?_; intro w5 g5 b5; have X5 := Lib.hid g5; have B5 := Lib.hid b5; clear g5 b5) | (refine wpList_store_obj rfl 56 _ _ rfl w4.heap.size rfl (Ust.hdV 120 NM PF LK MD SZE) Ust.hd0 rfl 56 X5.out HO.out.2 rfl (hd_one _ _ _ _ _ _) ?_; intro w6 g6 t6; have X6 := Lib.hid g6; have A6 := Lib.hid (B5.out.trans (t6.below (Nat.le_refl _))); have G6 := Lib.hid (G4.out.below A6.out G4.out.lt); clear g6 t6; have e0 := X6.out.get 0 rfl; have e1 := X6.out.get 1 rfl; have e2 := X6.out.get 2 rfl; have e3 := X6.out.get 3 rfl; have e4 := X6.out.get 4 rfl; have e5 := X6.out.get 5 rfl))
              have R6 := Lib.hid (R4.out.below A6.out); have U6 := Lib.hid (U4.out.late_below A6.out U4.out.size)
              have V6 := Lib.hid (V4.out.go A6.out)
              refine (EX.out w6 R6.out V6.out).mono ?_; rintro e w7 ⟨⟨a7, n7, c7, rfl, l7, f7, g7, y7, x7⟩, r7, u7⟩
              obtain rfl : n7 = 0 := l7.symm
              have R7 := Lib.hid r7; have U7 := Lib.hid (U6.out.trans u7)
              have G7 := Lib.hid (G6.out.out u7 (.inr HS.out.1))
              have X7 := Lib.hid (X6.out.out u7 (.inr (Nat.le_trans HS.out.1 U4.out.size)))
              have LW4 : Hid (w.heap.size < w4.heap.size) := G4.out.lt
              clear l7 f7 g7 y7 x7 r7 u7 e0 e1 e2 e3 e4 e5
              go_wp2_with (first | (refine wpList_store_obj rfl 56 _ _ rfl w4.heap.size rfl (Ust.hdV 0 emp emp emp 0 0) (Ust.hdV 120 NM PF LK MD SZE) rfl 56 X7.out HO.out.2 rfl (hd_one _ _ _ _ _ _) ?_; intro w8 g8 t8; have X8 := Lib.hid g8; have T8 := Lib.hid t8; have G8 := Lib.hid (G7.out.turned t8 (Nat.ne_of_lt LW4.out)); clear g8 t8) | (refine wpList_store_obj rfl 23 _ _ rfl w.heap.size rfl (enV 0 emp 0 emp 0) (enV 0 emp 0 emp 0) rfl 23 G8.out EO.out.2 rfl (en_one _ _ _ _ _) ?_; intro wy gy ty; have GY := Lib.hid gy; have TY := Lib.hid ty; clear gy ty))
              have R8 := Lib.hid (R7.out.out (Out.turned T8.out (Nat.le_refl _) (Nat.lt_succ_self _)) (.inl (Nat.le_trans HS.out.1 U4.out.size)))
              have U8 := Lib.hid (U7.out.late T8.out U4.out.size)
              exact bodyPost_ret (Go.Proofs.YtbbaleambgaanaaGreatDoor.Fit.results_obj_two Tryz.results18 EO.out _ w.heap.size rfl _ (enV 0 emp 0 emp 0) GY.out rfl) rfl (by rw [HDV.out]; exact ⟨rfl, R8.out.out (Out.turned TY.out (Nat.le_refl _) (Nat.lt_succ_self _)) (.inl HS.out.1), U8.out.late TY.out (Nat.le_refl _)⟩)
          · have hdc := dc2_bad HEE.out hrc
            have HDV := Lib.hid (HD3.out.trans hdc)
            have EX := Lib.hid fun (w' : World) (h : Rdr w' lo hi q Z E (o + 512) 0) (V : MV B0 w') => pext_bad w' h HEE.out V HB0.out hrc
            obtain ⟨L, hL⟩ := named (rcE Z E o ⟨120, NM, PF, LK, MD, SZE⟩)
            obtain ⟨P, hP⟩ := named (rcP Z E o ⟨120, NM, PF, LK, MD, SZE⟩)
            rw [← hL.out] at hrc
            rw [← hL.out, ← hP.out] at EX HDV
            have n0 : (L != 0) = true := by simp [hrc]
            clear hrc hdc HD3
            go_wp2_with (first | (refine wpList_alloc_obj rfl 56 rfl Ust.hd0 HZ.out ?_; intro w5 g5 b5; have X5 := Lib.hid g5; have B5 := Lib.hid b5; clear g5 b5) | (refine wpList_store_obj rfl 56 _ _ rfl w4.heap.size rfl (Ust.hdV 120 NM PF LK MD SZE) Ust.hd0 rfl 56 X5.out HO.out.2 rfl (hd_one _ _ _ _ _ _) ?_; intro w6 g6 t6; have X6 := Lib.hid g6; have A6 := Lib.hid (B5.out.trans (t6.below (Nat.le_refl _))); have G6 := Lib.hid (G4.out.below A6.out G4.out.lt); clear g6 t6; have e0 := X6.out.get 0 rfl; have e1 := X6.out.get 1 rfl; have e2 := X6.out.get 2 rfl; have e3 := X6.out.get 3 rfl; have e4 := X6.out.get 4 rfl; have e5 := X6.out.get 5 rfl))
            have R6 := Lib.hid (R4.out.below A6.out); have U6 := Lib.hid (U4.out.late_below A6.out U4.out.size)
            have V6 := Lib.hid (V4.out.go A6.out)
            refine (EX.out w6 R6.out V6.out).mono ?_; rintro e w7 ⟨⟨a7, n7, c7, rfl, l7, f7, g7, y7, x7⟩, r7, u7⟩
            obtain rfl : n7 = 0 := l7.symm
            have R7 := Lib.hid r7; have U7 := Lib.hid (U6.out.trans u7)
            have G7 := Lib.hid (G6.out.out u7 (.inr HS.out.1))
            have X7 := Lib.hid (X6.out.out u7 (.inr (Nat.le_trans HS.out.1 U4.out.size)))
            have LW4 : Hid (w.heap.size < w4.heap.size) := G4.out.lt
            clear l7 f7 g7 y7 x7 r7 u7 e0 e1 e2 e3 e4 e5
            go_wp2_with (first | (refine wpList_store_obj rfl 56 _ _ rfl w4.heap.size rfl (Ust.hdV 0 emp emp emp 0 0) (Ust.hdV 120 NM PF LK MD SZE) rfl 56 X7.out HO.out.2 rfl (hd_one _ _ _ _ _ _) ?_; intro w8 g8 t8; have X8 := Lib.hid g8; have T8 := Lib.hid t8; have G8 := Lib.hid (G7.out.turned t8 (Nat.ne_of_lt LW4.out)); clear g8 t8) | (refine wpList_store_obj rfl 23 _ _ rfl w.heap.size rfl (enV 0 emp 0 emp 0) (enV 0 emp 0 emp 0) rfl 23 G8.out EO.out.2 rfl (en_one _ _ _ _ _) ?_; intro wy gy ty; have GY := Lib.hid gy; have TY := Lib.hid ty; clear gy ty))
            have R8 := Lib.hid (R7.out.out (Out.turned T8.out (Nat.le_refl _) (Nat.lt_succ_self _)) (.inl (Nat.le_trans HS.out.1 U4.out.size)))
            have U8 := Lib.hid (U7.out.late T8.out U4.out.size)
            exact bodyPost_ret (Go.Proofs.YtbbaleambgaanaaGreatDoor.Fit.results_obj_two Tryz.results18 EO.out _ w.heap.size rfl _ (enV 0 emp 0 emp 0) GY.out rfl) rfl (by rw [HDV.out]; exact ⟨rfl, R8.out.out (Out.turned TY.out (Nat.le_refl _) (Nat.lt_succ_self _)) (.inl HS.out.1), U8.out.late TY.out (Nat.le_refl _)⟩)
        · have hT' : (Ust.dT B == 120) = false := by simp [hT]
          have HDV : Hid (d = mgD (hdOf B) [] o o (o + 512)) := by show _ = _; rw [HD2.out, if_neg hT]
          clear hT
          go_wp2_with (first | (refine wpList_alloc_obj rfl 56 rfl Ust.hd0 HZ.out ?_; intro w5 g5 b5; have X5 := Lib.hid g5; have B5 := Lib.hid b5; clear g5 b5) | (refine wpList_store_obj rfl 56 _ _ rfl w4.heap.size rfl (Ust.hdV (Ust.dT B) (Ust.dNm B) (Ust.dPf B) (Ust.dLk B) (Ust.dMd B) (Ust.dSz B)) Ust.hd0 rfl 56 X5.out HO.out.2 rfl (hd_one _ _ _ _ _ _) ?_; intro w6 g6 t6; have X6 := Lib.hid g6; have A6 := Lib.hid (B5.out.trans (t6.below (Nat.le_refl _))); have G6 := Lib.hid (G4.out.below A6.out G4.out.lt); clear g6 t6; have e0 := X6.out.get 0 rfl; have e1 := X6.out.get 1 rfl; have e2 := X6.out.get 2 rfl; have e3 := X6.out.get 3 rfl; have e4 := X6.out.get 4 rfl; have e5 := X6.out.get 5 rfl))
          have R6 := Lib.hid (R4.out.below A6.out); have U6 := Lib.hid (U4.out.late_below A6.out U4.out.size)
          have V6 := Lib.hid (HV'.out.out U6.out HB0.out)
          refine (merge_any (Ust.dT B) (Ust.dNm B) (Ust.dPf B) (Ust.dLk B) (Ust.dMd B) (Ust.dSz B) none 0 0 [] w6 V6.out.v (by have := SZ.out; omega) (by have := SZ.out; omega) (by have := SZ.out; omega) (fun r hr => by simp at hr) rfl (.inl rfl) (by decide)).mono ?_; rintro e m1 ⟨x, EM, rfl, hm, bm⟩
          obtain ⟨hmD, hmE⟩ := mgRes_D hm o o (o + 512)
          have HMD := Lib.hid hmD; have HME := Lib.hid hmE
          have RM := Lib.hid (R6.out.below bm); have UM := Lib.hid (U6.out.late_below bm U6.out.size); have GM := Lib.hid (G6.out.below bm G6.out.lt)
          clear hm bm hmD hmE e0 e1 e2 e3 e4 e5
          obtain ⟨xk, xp, xm, xt, xs⟩ := x
          by_cases hE0 : EM = 0
          · subst hE0
            have HDM : Hid (d = ⟨⟨xk, xp, xm, xt, xs⟩, o, 0, (o + 512), 0⟩) := by show _ = _; rw [HDV.out]; exact HMD.out
            go_wp2_with (first | (refine wpList_alloc_obj rfl 23 rfl (enV 0 emp 0 emp 0) EZ.out ?_; intro m2 g2 b2; have X2 := Lib.hid g2; have B2 := Lib.hid b2; clear g2 b2) | (refine wpList_store_obj rfl 23 _ _ rfl m1.heap.size rfl (enV xk xp xm xt xs) (enV 0 emp 0 emp 0) rfl 23 X2.out EO.out.2 rfl (en_one _ _ _ _ _) ?_; intro m3 g3 t3; have X3 := Lib.hid g3; have A3 := Lib.hid (B2.out.trans (t3.below (Nat.le_refl _))); have GM3 := Lib.hid (GM.out.below A3.out GM.out.lt); have e0 := X3.out.get 0 rfl; have e1 := X3.out.get 1 rfl; have e2 := X3.out.get 2 rfl; have e3 := X3.out.get 3 rfl; have e4 := X3.out.get 4 rfl; clear g3 t3) | (refine wpList_store_obj rfl 23 _ _ rfl w.heap.size rfl (enV xk xp xm xt xs) (enV 0 emp 0 emp 0) rfl 23 GM3.out EO.out.2 rfl (en_one _ _ _ _ _) ?_; intro wy gy ty; have GY := Lib.hid gy; have TY := Lib.hid ty; clear gy ty))
            have RM3 := Lib.hid (RM.out.below A3.out); have UM3 := Lib.hid (UM.out.late_below A3.out UM.out.size)
            exact bodyPost_ret (Go.Proofs.YtbbaleambgaanaaGreatDoor.Fit.results_obj_two Tryz.results18 EO.out _ w.heap.size rfl _ (enV xk xp xm xt xs) GY.out rfl) rfl (by rw [HDM.out]; exact ⟨rfl, RM3.out.out (Out.turned TY.out (Nat.le_refl _) (Nat.lt_succ_self _)) (.inl HS.out.1), UM3.out.late TY.out (Nat.le_refl _)⟩)
          · have hne : (EM != 0) = true := by simp [hE0]
            have hx := HME.out hE0
            have HDM : Hid (d = ⟨ez, o, EM, (o + 512), 0⟩) := by show _ = _; rw [HDV.out]; refine HMD.out.trans ?_; rw [hx, if_neg hE0]
            clear hE0 hx
            go_wp2_with (first | (refine wpList_alloc_obj rfl 23 rfl (enV 0 emp 0 emp 0) EZ.out ?_; intro m2 g2 b2; have X2 := Lib.hid g2; have B2 := Lib.hid b2; clear g2 b2) | (refine wpList_store_obj rfl 23 _ _ rfl m1.heap.size rfl (enV xk xp xm xt xs) (enV 0 emp 0 emp 0) rfl 23 X2.out EO.out.2 rfl (en_one _ _ _ _ _) ?_; intro m3 g3 t3; have X3 := Lib.hid g3; have A3 := Lib.hid (B2.out.trans (t3.below (Nat.le_refl _))); have GM3 := Lib.hid (GM.out.below A3.out GM.out.lt); clear g3 t3))
            have RM3 := Lib.hid (RM.out.below A3.out); have UM3 := Lib.hid (UM.out.late_below A3.out UM.out.size)
            refine (last_any m3 RM3.out o rfl).mono ?_; rintro e m4 ⟨rfl, rfl⟩
            go_wp2_with (first | (refine wpList_store_obj rfl 23 _ _ rfl w.heap.size rfl (enV 0 emp 0 emp 0) (enV 0 emp 0 emp 0) rfl 23 GM3.out EO.out.2 rfl (en_one _ _ _ _ _) ?_; intro wy gy ty; have GY := Lib.hid gy; have TY := Lib.hid ty; clear gy ty))
            exact bodyPost_ret (Go.Proofs.YtbbaleambgaanaaGreatDoor.Fit.results_obj_two Tryz.results18 EO.out _ w.heap.size rfl _ (enV 0 emp 0 emp 0) GY.out rfl) rfl (by rw [HDM.out]; exact ⟨rfl, RM3.out.out (Out.turned TY.out (Nat.le_refl _) (Nat.lt_succ_self _)) (.inl HS.out.1), UM3.out.late TY.out (Nat.le_refl _)⟩)
end Go.Proofs.YtbbaleambgaanaaGreatDoor.Etr
