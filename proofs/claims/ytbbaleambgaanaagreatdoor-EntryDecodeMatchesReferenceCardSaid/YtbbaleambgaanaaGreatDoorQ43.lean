/- EtrRDec -/
import Derived.Test.YtbbaleambgaanaaGreatDoorQ33
import Derived.Test.YtbbaleambgaanaaGreatDoorQ35
import Derived.Test.YtbbaleambgaanaaGreatDoorQ19
import Derived.Test.YtbbaleambgaanaaGreatDoorQ36
import Derived.Test.YtbbaleambgaanaaGreatDoorQ29
import Derived.Test.YtbbaleambgaanaaGreatDoorQ39
import Derived.Test.YtbbaleambgaanaaGreatDoorQ42
import Derived.Test.YtbbaleambgaanaaGreatDoorQ8
import Derived.Test.YtbbaleambgaanaaGreatDoorQ11
namespace Go.Proofs.YtbbaleambgaanaaGreatDoor.Etr
open Go.RowKit Go.Proofs.YtbbaleambgaanaaGreatDoor.Fit Pxr Pnm
section
variable {lo hi q : Nat} {Z : List Int} {E : Int} {o : Nat} {nm pf lk : ByteArray} {md sz : Int}
theorem rrec_any (w : World) (h : RRd w lo hi q Z E (o + 512) 0) (hZB : Bytes Z) (ho : o ≤ 100000000) :
    Calls Tryz.prog 41 #[.pointer (some ⟨q, 0, none⟩), .agg (Ust.hdV 120 nm pf lk md sz).toArray, .int .i64 o] w fun e w' => RetRc (rcR Z E o ⟨120, nm, pf, lk, md, sz⟩) (rcP Z E o ⟨120, nm, pf, lk, md, sz⟩ : Nat) (rcE Z E o ⟨120, nm, pf, lk, md, sz⟩) w e w' ∧ RRd w' lo hi q Z E (rcO Z o ⟨120, nm, pf, lk, md, sz⟩) (rcS Z E o ⟨120, nm, pf, lk, md, sz⟩) ∧ Out lo hi w w' := by
  by_cases hp : paxOk ⟨120, nm, pf, lk, md, sz⟩
  · obtain ⟨h1, h2, h3, h4, h5, h6⟩ := id hp
    obtain ⟨s, hs⟩ : ∃ s : Nat, sz = s := ⟨sz.toNat, by simp only at h5; omega⟩
    simp only at h1 h2 h3 h4 h5 h6
    subst h1; subst h2; subst h3; subst h4; subst hs
    by_cases hr : rdE Z E (o + 512) 0 (s : Int) = 0
    · by_cases hq : (Pxr.parZ (rdD Z (o + 512) 0 (s : Int))).2.2 = 0
      · obtain ⟨e1, e2, e3, e4, e5⟩ := rc_ok hp hr hq
        rw [e1, e2, e3, e4, e5]
        exact rrec_ok w h hZB (by omega) (by omega) hr hq
      · obtain ⟨e1, e2, e3, e4, e5⟩ := rc_par hp hr hq
        rw [e1, e2, e3, e4, e5]
        exact rrec_par w h hZB (by omega) (by omega) hr hq ho
    · obtain ⟨e1, e2, e3, e4, e5⟩ := rc_read hp hr
      rw [e1, e2, e3, e4, e5]
      exact rrec_read w h hZB (by omega) (by omega) hr
  · obtain ⟨e1, e2, e3, e4, e5⟩ := rc_pax (Z := Z) (E := E) (o := o) hp
    rw [e1, e2, e3, e4, e5]
    exact (rrec_pax w hp).mono fun e w' ⟨h1, h2⟩ => ⟨h1, h.below h2, Out.of_below h2 (Nat.le_refl _)⟩
end
set_option maxRecDepth 100000 in
set_option maxHeartbeats 16000000 in
theorem rdecd_any {lo hi q : Nat} {Z : List Int} {E : Int} {o : Nat} {err : Int} (w : World) (h : RRd w lo hi q Z E o err) (hZB : Bytes Z) :
    Calls Tryz.prog 19 #[.pointer (some ⟨q, 0, none⟩)] w fun e w' => RetDe (dcd Z E o err) e ∧ RRd w' lo hi q Z E (dcd Z E o err).o (dcd Z E o err).s ∧ Out lo hi w w' := by
  have EO := Lib.hid enT; have HO := Lib.hid hdTr; have HZ := Lib.hid zHr; have EZ := Lib.hid zEn
  have H := Lib.hid h; have HS := Lib.hid h.size; have HEN := Lib.hid h.en; have ZB := Lib.hid hZB
  have ho8 : (o : Int) ≤ 100000000 := by have := HS.out.2.2.2; have := HEN.out.2; omega
  obtain ⟨d, hd⟩ := named (dcd Z E o err)
  rw [← hd.out]
  obtain ⟨V, hV⟩ := named (nxE Z E o err)
  obtain ⟨O, hO⟩ := named (nxO Z o err)
  clear h hZB
  go_enter Tryz.func19, Tryz.ntmps19
  go_wp2_with (first | (refine wpList_alloc_obj rfl 23 rfl (enV 0 emp 0 emp 0) EZ.out ?_; intro w1 h1 b1; have G1 := Lib.hid h1; have B1 := Lib.hid b1; have c1 := (H.out.below b1).cell1; clear h1 b1))
  have R1 := Lib.hid (H.out.below B1.out); have U1 : Hid (Out lo hi w w1) := Out.of_below B1.out (Nat.le_refl _)
  refine (rnext_cap w1 R1.out).mono ?_; rintro e w2 ⟨b2, c2, rfl, l2, i2, x2, r2, u2⟩
  rw [← hV.out, ← hO.out] at r2
  rw [← hV.out]
  have R2 := Lib.hid r2; have U2 := Lib.hid (U1.out.trans u2); have G2 := Lib.hid (G1.out.out u2 (.inr HS.out.1))
  have I2 := Lib.hid i2; have L2 := Lib.hid l2
  clear l2 i2 x2 r2 u2 c1
  by_cases hV0 : V ≠ 0
  · have hne : (V != 0) = true := by simp [hV0]
    have HDV : Hid (d = ⟨ez, O, V, O, V⟩) := by
      show _ = _
      rw [hd.out]; unfold dcd; rw [if_pos (by rw [← hV.out]; exact hV0), ← hV.out, ← hO.out]
    clear hV0
    have cq := R2.out.cell1
    go_wp2_with fail
    refine wp_region_held_drew (S := (fun w' => w'.cell? ⟨q, 1, none⟩ = some (.int .i64 O))) (by kernel_rfl) (cq) (fun hHeld => ?_)
    refine tk 0 { dst := some 26, op := Go.Op.build 23 #[], type := 23, pos := "ref.go:64", after := #[], guard := none } ?_ ?_ ?_
    rotate_left 1
    focus ((intro wS hSw; (try dsimp only at hSw); go_simp) <;> (try with_reducible rfl))
    simp only [Act.put, List.setIfInBounds_toArray, List.set_cons_zero, List.set_cons_succ]
    refine tk 1 { dst := some 27, op := Go.Op.move (Go.Operand.tmp 0), type := 41, pos := "ref.go:64", after := #[{ on := 6, ground := Go.Ground.gcOnly Go.Departure.lateStores }], guard := none } ?_ ?_ ?_
    rotate_left 1
    focus ((intro wS hSw; (try dsimp only at hSw); go_simp) <;> (try with_reducible rfl))
    simp only [Act.put, List.setIfInBounds_toArray, List.set_cons_zero, List.set_cons_succ]
    refine tk 2 { dst := some 28, op := Go.Op.nilCheck (Go.Operand.tmp 27), type := 0, pos := "ref.go:64", after := #[{ on := 1, ground := Go.Ground.data }, { on := 6, ground := Go.Ground.gcOnly Go.Departure.lateStores }], guard := none } ?_ ?_ ?_
    rotate_left 1
    focus ((intro wS hSw; (try dsimp only at hSw); go_simp) <;> (try with_reducible rfl))
    simp only [Act.put, List.setIfInBounds_toArray, List.set_cons_zero, List.set_cons_succ]
    refine tk 3 { dst := some 29, op := Go.Op.fieldAddr 45 (Go.Operand.tmp 28) 1, type := 0, pos := "ref.go:64", after := #[{ on := 2, ground := Go.Ground.data }, { on := 6, ground := Go.Ground.gcOnly Go.Departure.lateStores }], guard := none } ?_ ?_ ?_
    rotate_left 1
    focus ((intro wS hSw; (try dsimp only at hSw); go_simp) <;> (try with_reducible rfl))
    simp only [Act.put, List.setIfInBounds_toArray, List.set_cons_zero, List.set_cons_succ]
    refine tk 4 { dst := some 30, op := Go.Op.load 2 (Go.Operand.tmp 29), type := 2, pos := "ref.go:64", after := #[{ on := 3, ground := Go.Ground.data }, { on := 6, ground := Go.Ground.gcOnly Go.Departure.lateStores }], guard := none } ?_ ?_ ?_
    rotate_left 1
    focus ((intro wS hSw; (try dsimp only at hSw); go_simp) <;> (try with_reducible rfl))
    simp only [Act.put, List.setIfInBounds_toArray, List.set_cons_zero, List.set_cons_succ]
    refine tk 5 { dst := some 31, op := Go.Op.move (Go.Operand.tmp 7), type := 3, pos := "ref.go:64", after := #[{ on := 7, ground := Go.Ground.gcOnly Go.Departure.lateStores }], guard := none } ?_ ?_ ?_
    rotate_left 1
    focus ((intro wS hSw; (try dsimp only at hSw); go_simp) <;> (try with_reducible rfl))
    simp only [Act.put, List.setIfInBounds_toArray, List.set_cons_zero, List.set_cons_succ]
    refine wpAnyH_ready (rs := [6]) (by kernel_rfl) (by simp) ?_
    refine AllReadyH.cons (o := { dst := none, op := Go.Op.store 23 (Go.Operand.tmp 2) (Go.Operand.tmp 26), type := 0, pos := "ref.go:64", after := #[{ on := 0, ground := Go.Ground.data }, { on := 0, ground := Go.Ground.phase }, { on := 1, ground := Go.Ground.textOnly Go.Departure.lateStores }, { on := 2, ground := Go.Ground.textOnly Go.Departure.lateStores }, { on := 3, ground := Go.Ground.textOnly Go.Departure.lateStores }, { on := 4, ground := Go.Ground.textOnly Go.Departure.lateStores }, { on := 5, ground := Go.Ground.textOnly Go.Departure.lateStores }], guard := none }) rfl (fun K hK => ?_) AllReadyH.nil
    refine step_store_obj rfl 23 _ _ rfl w.heap.size rfl (enV 0 emp 0 emp 0) (enV 0 emp 0 emp 0) rfl 23 (G2.out.below (Below.refl _ _).drew G2.out.lt) EO.out.2 rfl (en_one _ _ _ _ _) ?_; intro wy gy ty; have GY := Lib.hid gy; have TY : Hid (Turned w2.drew wy w.heap.size) := ty; clear gy ty
    refine hK.out _ _ ((R2.out.below (Below.refl _ _).drew).out (Out.turned TY.out (Nat.le_refl _) (Nat.lt_succ_self _)) (.inl HS.out.1) |>.cell1) (fun hHeld => ?_)
    clear hK K
    (try simp only [Act.put])
    refine tk 7 { dst := some 3, op := Go.Op.assign (Go.Operand.tmp 30), type := 2, pos := "ref.go:64", after := #[{ on := 4, ground := Go.Ground.data }, { on := 6, ground := Go.Ground.chain }, { on := 0, ground := Go.Ground.phase }, { on := 1, ground := Go.Ground.phase }, { on := 2, ground := Go.Ground.phase }, { on := 3, ground := Go.Ground.phase }, { on := 4, ground := Go.Ground.phase }, { on := 5, ground := Go.Ground.textOnly Go.Departure.lateStores }, { on := 6, ground := Go.Ground.phase }], guard := none } ?_ ?_ ?_
    rotate_left 1
    focus ((intro wS hSw; (try dsimp only at hSw); go_simp) <;> (try with_reducible rfl))
    simp only [Act.put, List.setIfInBounds_toArray, List.set_cons_zero, List.set_cons_succ]
    refine tk 8 { dst := some 4, op := Go.Op.assign (Go.Operand.tmp 31), type := 3, pos := "ref.go:64", after := #[{ on := 5, ground := Go.Ground.data }, { on := 7, ground := Go.Ground.chain }, { on := 0, ground := Go.Ground.phase }, { on := 1, ground := Go.Ground.phase }, { on := 2, ground := Go.Ground.phase }, { on := 3, ground := Go.Ground.phase }, { on := 4, ground := Go.Ground.phase }, { on := 5, ground := Go.Ground.phase }, { on := 6, ground := Go.Ground.phase }, { on := 7, ground := Go.Ground.phase }], guard := none } ?_ ?_ ?_
    rotate_left 1
    focus ((intro wS hSw; (try dsimp only at hSw); go_simp) <;> (try with_reducible rfl))
    simp only [Act.put, List.setIfInBounds_toArray, List.set_cons_zero, List.set_cons_succ]
    refine wpAnyH_done (by kernel_rfl) ?_ _
    go_wp2_with fail
    exact bodyPost_ret (Go.Proofs.YtbbaleambgaanaaGreatDoor.Fit.results_obj_two Tryz.results19 EO.out _ w.heap.size rfl _ (enV 0 emp 0 emp 0) GY.out rfl) rfl (by rw [HDV.out]; exact ⟨rfl, (R2.out.below (Below.refl _ _).drew).out (Out.turned TY.out (Nat.le_refl _) (Nat.lt_succ_self _)) (.inl HS.out.1), (U2.out.drew).late TY.out (Nat.le_refl _)⟩)
  · obtain rfl : V = 0 := Decidable.byContradiction hV0
    clear hV0
    have hg : err = 0 ∧ o + 512 ≤ Z.length := nx_zero HEN.out.1 hV.out.symm
    obtain ⟨rfl, hg5⟩ := hg
    obtain ⟨g1, _, g3⟩ := nx_go (E := E) hg5
    obtain ⟨B, hB⟩ := named ((Z.drop o).take 512)
    rw [← hB.out] at g1
    obtain rfl : o + 512 = O := by rw [hO.out, g3]
    have BL : Hid (B.length = 512) := by show _ = _; rw [hB.out, List.length_take, List.length_drop]; omega
    have BB : Hid (Bytes B) := by show Bytes _; rw [hB.out]; exact (ZB.out.drop _).take _
    have I2' : Hid (BytesIn w2 b2 B) := by show BytesIn _ _ _; rw [← g1]; exact I2.out.bytes (by rw [g1]; exact BB.out)
    have L2' : Hid (512 ≤ c2 ∧ c2 ≤ maxLen) := by show _ ∧ _; have := L2.out; rw [g1, BL.out] at this; exact this
    have HD1 : Hid (d = dc1 Z E o B) := by
      show _ = _
      rw [hd.out]; unfold dcd; rw [if_neg (by rw [← hV.out]; simp), ← hB.out]
    rw [g1, BL.out]
    clear g1 g3 I2 L2
    obtain ⟨zb, hzb⟩ : ∃ zb : Bool, zb = true ↔ zeroB B := by
      by_cases hz : zeroB B
      · exact ⟨true, by simp [hz]⟩
      · exact ⟨false, by simp [hz]⟩
    go_wp2_with fail
    refine (riszero_any b2 512 c2 B w2 I2'.out BL.out (by decide) zb hzb).mono ?_; rintro e w3 ⟨rfl, rfl⟩
    have HZB := Lib.hid hzb
    clear hzb
    cases zb with
    | true =>
      have HDV : Hid (d = ⟨ez, o, 18, o + 512, 0⟩) := by
        show _ = _
        rw [HD1.out]; unfold dc1; rw [if_pos (HZB.out.1 rfl)]
      go_wp2_with (first | (refine wpList_store_obj rfl 23 _ _ rfl w.heap.size rfl (enV 0 emp 0 emp 0) (enV 0 emp 0 emp 0) rfl 23 G2.out EO.out.2 rfl (en_one _ _ _ _ _) ?_; intro wy gy ty; have GY := Lib.hid gy; have TY := Lib.hid ty; clear gy ty))
      exact bodyPost_ret (Go.Proofs.YtbbaleambgaanaaGreatDoor.Fit.results_obj_two Tryz.results19 EO.out _ w.heap.size rfl _ (enV 0 emp 0 emp 0) GY.out rfl) rfl (by rw [HDV.out]; exact ⟨rfl, R2.out.out (Out.turned TY.out (Nat.le_refl _) (Nat.lt_succ_self _)) (.inl HS.out.1), U2.out.late TY.out (Nat.le_refl _)⟩)
    | false =>
      have hnz : ¬ zeroB B := fun h => by have := HZB.out.2 h; cases this
      obtain ⟨D, hD⟩ := named (Ust.deE B)
      go_wp2_with fail
      refine (Ust.rdec_any b2 512 c2 B w2 I2'.out BL.out BB.out L2'.out.1 L2'.out.2).mono ?_; rintro e w4 ⟨rfl, b4⟩
      rw [← hD.out]
      have R4 := Lib.hid (R2.out.below b4); have U4 := Lib.hid (U2.out.late_below b4 U2.out.size); have G4 := Lib.hid (G2.out.below b4 G2.out.lt)
      clear b4
      by_cases hD0 : D ≠ 0
      · have hne : (D != 0) = true := by simp [hD0]
        have HDV : Hid (d = ⟨ez, o, D, o + 512, 0⟩) := by
          show _ = _
          rw [HD1.out]; unfold dc1; rw [if_neg hnz, if_pos (by rw [← hD.out]; exact hD0), ← hD.out]
        rw [dH_bad (by rw [← hD.out]; exact hD0)]
        clear hD0 hnz
        go_wp2_with (first | (refine wpList_alloc_obj rfl 67 rfl Ust.hd0 HZ.out ?_; intro w5 g5 b5; have X5 := Lib.hid g5; have B5 := Lib.hid b5; clear g5 b5) | (refine wpList_store_obj rfl 67 _ _ rfl w4.heap.size rfl (Ust.hd0) Ust.hd0 rfl 67 X5.out HO.out.2 rfl (hd_one _ _ _ _ _ _) ?_; intro w6 g6 t6; have X6 := Lib.hid g6; have A6 := Lib.hid (B5.out.trans (t6.below (Nat.le_refl _))); have G6 := Lib.hid (G4.out.below A6.out G4.out.lt); clear g6 t6; have e0 := X6.out.get 0 rfl; have e1 := X6.out.get 1 rfl; have e2 := X6.out.get 2 rfl; have e3 := X6.out.get 3 rfl; have e4 := X6.out.get 4 rfl; have e5 := X6.out.get 5 rfl) | (refine wpList_store_obj rfl 23 _ _ rfl w.heap.size rfl (enV 0 emp 0 emp 0) (enV 0 emp 0 emp 0) rfl 23 G6.out EO.out.2 rfl (en_one _ _ _ _ _) ?_; intro wy gy ty; have GY := Lib.hid gy; have TY := Lib.hid ty; clear gy ty))
        have R6 := Lib.hid (R4.out.below A6.out); have U6 := Lib.hid (U4.out.late_below A6.out U4.out.size)
        exact bodyPost_ret (Go.Proofs.YtbbaleambgaanaaGreatDoor.Fit.results_obj_two Tryz.results19 EO.out _ w.heap.size rfl _ (enV 0 emp 0 emp 0) GY.out rfl) rfl (by rw [HDV.out]; exact ⟨rfl, R6.out.out (Out.turned TY.out (Nat.le_refl _) (Nat.lt_succ_self _)) (.inl HS.out.1), U6.out.late TY.out (Nat.le_refl _)⟩)
      · obtain rfl : D = 0 := Decidable.byContradiction hD0
        clear hD0
        rw [dH_ok hD.out.symm]
        have HD2 : Hid (d = if Ust.dT B = 120 then dc2 Z E o (hdOf B) else mgD (hdOf B) [] o o (o + 512)) := by
          show _ = _
          rw [HD1.out]; unfold dc1; rw [if_neg hnz, if_neg (by rw [← hD.out]; simp)]
        have SZ := Lib.hid (hd_sizes BB.out)
        clear hnz HZB HD1
        by_cases hT : Ust.dT B = 120
        · have hT' : (Ust.dT B == 120) = true := by simp [hT]
          obtain ⟨NM, hNM⟩ := named (Ust.dNm B)
          obtain ⟨PF, hPF⟩ := named (Ust.dPf B)
          obtain ⟨LK, hLK⟩ := named (Ust.dLk B)
          obtain ⟨MD, hMD⟩ := named (Ust.dMd B)
          obtain ⟨SZE, hSZE⟩ := named (Ust.dSz B)
          have HHB : Hid (hdOf B = ⟨120, NM, PF, LK, MD, SZE⟩) := by show Hd.mk _ _ _ _ _ _ = _; rw [hT, hNM.out, hPF.out, hLK.out, hMD.out, hSZE.out]
          have HD3 : Hid (d = dc2 Z E o ⟨120, NM, PF, LK, MD, SZE⟩) := by show _ = _; rw [HD2.out, if_pos hT, HHB.out]
          rw [hT, ← hNM.out, ← hPF.out, ← hLK.out, ← hMD.out, ← hSZE.out]
          have nT : ((120 : Int) == 120) = true := rfl
          clear hT hT' HD2 SZ
          have EX := Lib.hid fun (w' : World) (h : RRd w' lo hi q Z E (o + 512) 0) => rrec_any (nm := NM) (pf := PF) (lk := LK) (md := MD) (sz := SZE) w' h ZB.out (by omega)
          by_cases hrc : rcE Z E o ⟨120, NM, PF, LK, MD, SZE⟩ = 0
          · obtain ⟨O2, hO2⟩ := named (rcO Z o ⟨120, NM, PF, LK, MD, SZE⟩)
            have RCZ := Lib.hid (rc_zero HEN.out.1 hrc)
            have HRG : Hid ((∀ r ∈ rcR Z E o ⟨120, NM, PF, LK, MD, SZE⟩, r.2.size ≤ 65536) ∧ (rcR Z E o ⟨120, NM, PF, LK, MD, SZE⟩).length ≤ 3) := by
              show _ ∧ _
              rw [(rc_ok RCZ.out.1 RCZ.out.2.1 RCZ.out.2.2.1).2.2.1]
              exact par_good (rdD_bytes ZB.out _ _ _)
            obtain ⟨RS, hRS⟩ := named (rcR Z E o ⟨120, NM, PF, LK, MD, SZE⟩)
            obtain ⟨PP, hPP⟩ := named (rcP Z E o ⟨120, NM, PF, LK, MD, SZE⟩)
            rw [← hRS.out] at HRG
            rw [hrc, RCZ.out.2.2.2.1, ← hO2.out, ← hRS.out, ← hPP.out] at EX
            have HRC := Lib.hid hrc
            obtain ⟨V2, hV2⟩ := named (nxE Z E O2 0)
            obtain ⟨O3, hO3⟩ := named (nxO Z O2 0)
            clear hrc
            go_wp2_with (first | (refine wpList_alloc_obj rfl 67 rfl Ust.hd0 HZ.out ?_; intro w5 g5 b5; have X5 := Lib.hid g5; have B5 := Lib.hid b5; clear g5 b5) | (refine wpList_store_obj rfl 67 _ _ rfl w4.heap.size rfl (Ust.hdV 120 NM PF LK MD SZE) Ust.hd0 rfl 67 X5.out HO.out.2 rfl (hd_one _ _ _ _ _ _) ?_; intro w6 g6 t6; have X6 := Lib.hid g6; have A6 := Lib.hid (B5.out.trans (t6.below (Nat.le_refl _))); have G6 := Lib.hid (G4.out.below A6.out G4.out.lt); clear g6 t6; have e0 := X6.out.get 0 rfl; have e1 := X6.out.get 1 rfl; have e2 := X6.out.get 2 rfl; have e3 := X6.out.get 3 rfl; have e4 := X6.out.get 4 rfl; have e5 := X6.out.get 5 rfl))
            have R6 := Lib.hid (R4.out.below A6.out); have U6 := Lib.hid (U4.out.late_below A6.out U4.out.size)
            refine (EX.out w6 R6.out).mono ?_; rintro e w7 ⟨⟨a7, n7, c7, rfl, l7, f7, g7, y7, x7⟩, r7, u7⟩
            have R7 := Lib.hid r7; have U7 := Lib.hid (U6.out.trans u7)
            have G7 := Lib.hid (G6.out.out u7 (.inr HS.out.1))
            have X7 := Lib.hid (X6.out.out u7 (.inr (Nat.le_trans HS.out.1 U4.out.size)))
            have LW4 : Hid (w.heap.size < w4.heap.size) := G4.out.lt
            have HN7 := Lib.hid l7; have HF7 := Lib.hid f7; have HG7 := Lib.hid g7; have HY7 := Lib.hid y7
            have HX7 : Hid (∀ x, a7 = some x → w4.heap.size + 1 ≤ x.block) := fun x hx => Nat.le_trans X6.out.lt (x7 x hx)
            have cq7 := R7.out.cell1
            clear l7 f7 g7 y7 x7 r7 u7 e0 e1 e2 e3 e4 e5
            go_wp2_with fail
            refine (rnext_cap w7 R7.out).mono ?_; rintro e w8 ⟨b8, c8, rfl, l8, i8, x8, r8, u8⟩
            rw [← hV2.out, ← hO3.out] at r8
            rw [← hV2.out]
            have R8 := Lib.hid r8; have U8 := Lib.hid (U7.out.trans u8)
            have G8 := Lib.hid (G7.out.out u8 (.inr HS.out.1))
            have X8 := Lib.hid (X7.out.out u8 (.inr (Nat.le_trans HS.out.1 U4.out.size)))
            have HY8 := Lib.hid (HY7.out.out u8 (fun x hx => Nat.le_trans (Nat.le_trans HS.out.1 U4.out.size) (Nat.le_trans (Nat.le_succ _) (HX7.out x hx))))
            have I8 := Lib.hid i8; have L8 := Lib.hid l8
            clear l8 i8 x8 r8 u8 cq7
            by_cases hV20 : V2 ≠ 0
            · obtain ⟨q1, q2, _, q4⟩ := ls_next (Z := Z) (E := E) (o := O2) (by rw [← hV2.out]; exact hV20)
              rw [hO2.out] at q1 q2 q4
              have hdc := dc2_last HEN.out.1 HRC.out q4
              rw [q1, q2, ← hO2.out, ← hV2.out, ← hO3.out] at hdc
              by_cases h4 : V2 = 4
              · have n4 : (V2 == 4) = true := by simp [h4]
                have HDV : Hid (d = ⟨ez, O3, 5, O3, V2⟩) := by show _ = _; rw [HD3.out, hdc, if_pos h4]
                clear q1 q2 q4 hdc hV20 h4
                have cq := R8.out.cell1
                go_wp2_with fail
                refine wp_region_held_drew (S := (fun w' => w'.cell? ⟨q, 1, none⟩ = some (.int .i64 O3))) (by kernel_rfl) (cq) (fun hHeld => ?_)
                refine tk 0 { dst := some 77, op := Go.Op.build 23 #[], type := 23, pos := "ref.go:87", after := #[], guard := none } ?_ ?_ ?_
                rotate_left 1
                focus ((intro wS hSw; (try dsimp only at hSw); go_simp) <;> (try with_reducible rfl))
                simp only [Act.put, List.setIfInBounds_toArray, List.set_cons_zero, List.set_cons_succ]
                refine tk 1 { dst := some 78, op := Go.Op.move (Go.Operand.tmp 0), type := 41, pos := "ref.go:87", after := #[{ on := 6, ground := Go.Ground.gcOnly Go.Departure.lateStores }], guard := none } ?_ ?_ ?_
                rotate_left 1
                focus ((intro wS hSw; (try dsimp only at hSw); go_simp) <;> (try with_reducible rfl))
                simp only [Act.put, List.setIfInBounds_toArray, List.set_cons_zero, List.set_cons_succ]
                refine tk 2 { dst := some 79, op := Go.Op.nilCheck (Go.Operand.tmp 78), type := 0, pos := "ref.go:87", after := #[{ on := 1, ground := Go.Ground.data }, { on := 6, ground := Go.Ground.gcOnly Go.Departure.lateStores }], guard := none } ?_ ?_ ?_
                rotate_left 1
                focus ((intro wS hSw; (try dsimp only at hSw); go_simp) <;> (try with_reducible rfl))
                simp only [Act.put, List.setIfInBounds_toArray, List.set_cons_zero, List.set_cons_succ]
                refine tk 3 { dst := some 80, op := Go.Op.fieldAddr 45 (Go.Operand.tmp 79) 1, type := 0, pos := "ref.go:87", after := #[{ on := 2, ground := Go.Ground.data }, { on := 6, ground := Go.Ground.gcOnly Go.Departure.lateStores }], guard := none } ?_ ?_ ?_
                rotate_left 1
                focus ((intro wS hSw; (try dsimp only at hSw); go_simp) <;> (try with_reducible rfl))
                simp only [Act.put, List.setIfInBounds_toArray, List.set_cons_zero, List.set_cons_succ]
                refine tk 4 { dst := some 81, op := Go.Op.load 2 (Go.Operand.tmp 80), type := 2, pos := "ref.go:87", after := #[{ on := 3, ground := Go.Ground.data }, { on := 6, ground := Go.Ground.gcOnly Go.Departure.lateStores }], guard := none } ?_ ?_ ?_
                rotate_left 1
                focus ((intro wS hSw; (try dsimp only at hSw); go_simp) <;> (try with_reducible rfl))
                simp only [Act.put, List.setIfInBounds_toArray, List.set_cons_zero, List.set_cons_succ]
                refine tk 5 { dst := some 82, op := Go.Op.move (Go.Operand.tmp 7), type := 3, pos := "ref.go:87", after := #[{ on := 7, ground := Go.Ground.gcOnly Go.Departure.lateStores }], guard := none } ?_ ?_ ?_
                rotate_left 1
                focus ((intro wS hSw; (try dsimp only at hSw); go_simp) <;> (try with_reducible rfl))
                simp only [Act.put, List.setIfInBounds_toArray, List.set_cons_zero, List.set_cons_succ]
                refine wpAnyH_ready (rs := [6]) (by kernel_rfl) (by simp) ?_
                refine AllReadyH.cons (o := { dst := none, op := Go.Op.store 23 (Go.Operand.tmp 2) (Go.Operand.tmp 77), type := 0, pos := "ref.go:87", after := #[{ on := 0, ground := Go.Ground.data }, { on := 0, ground := Go.Ground.phase }, { on := 1, ground := Go.Ground.textOnly Go.Departure.lateStores }, { on := 2, ground := Go.Ground.textOnly Go.Departure.lateStores }, { on := 3, ground := Go.Ground.textOnly Go.Departure.lateStores }, { on := 4, ground := Go.Ground.textOnly Go.Departure.lateStores }, { on := 5, ground := Go.Ground.textOnly Go.Departure.lateStores }], guard := none }) rfl (fun K hK => ?_) AllReadyH.nil
                refine step_store_obj rfl 23 _ _ rfl w.heap.size rfl (enV 0 emp 0 emp 0) (enV 0 emp 0 emp 0) rfl 23 (G8.out.below (Below.refl _ _).drew G8.out.lt) EO.out.2 rfl (en_one _ _ _ _ _) ?_; intro wy gy ty; have GY := Lib.hid gy; have TY : Hid (Turned w8.drew wy w.heap.size) := ty; clear gy ty
                refine hK.out _ _ ((R8.out.below (Below.refl _ _).drew).out (Out.turned TY.out (Nat.le_refl _) (Nat.lt_succ_self _)) (.inl HS.out.1) |>.cell1) (fun hHeld => ?_)
                clear hK K
                (try simp only [Act.put])
                refine tk 7 { dst := some 3, op := Go.Op.assign (Go.Operand.tmp 81), type := 2, pos := "ref.go:87", after := #[{ on := 4, ground := Go.Ground.data }, { on := 6, ground := Go.Ground.chain }, { on := 0, ground := Go.Ground.phase }, { on := 1, ground := Go.Ground.phase }, { on := 2, ground := Go.Ground.phase }, { on := 3, ground := Go.Ground.phase }, { on := 4, ground := Go.Ground.phase }, { on := 5, ground := Go.Ground.textOnly Go.Departure.lateStores }, { on := 6, ground := Go.Ground.phase }], guard := none } ?_ ?_ ?_
                rotate_left 1
                focus ((intro wS hSw; (try dsimp only at hSw); go_simp) <;> (try with_reducible rfl))
                simp only [Act.put, List.setIfInBounds_toArray, List.set_cons_zero, List.set_cons_succ]
                refine tk 8 { dst := some 4, op := Go.Op.assign (Go.Operand.tmp 82), type := 3, pos := "ref.go:87", after := #[{ on := 5, ground := Go.Ground.data }, { on := 7, ground := Go.Ground.chain }, { on := 0, ground := Go.Ground.phase }, { on := 1, ground := Go.Ground.phase }, { on := 2, ground := Go.Ground.phase }, { on := 3, ground := Go.Ground.phase }, { on := 4, ground := Go.Ground.phase }, { on := 5, ground := Go.Ground.phase }, { on := 6, ground := Go.Ground.phase }, { on := 7, ground := Go.Ground.phase }], guard := none } ?_ ?_ ?_
                rotate_left 1
                focus ((intro wS hSw; (try dsimp only at hSw); go_simp) <;> (try with_reducible rfl))
                simp only [Act.put, List.setIfInBounds_toArray, List.set_cons_zero, List.set_cons_succ]
                refine wpAnyH_done (by kernel_rfl) ?_ _
                go_wp2_with fail
                exact bodyPost_ret (Go.Proofs.YtbbaleambgaanaaGreatDoor.Fit.results_obj_two Tryz.results19 EO.out _ w.heap.size rfl _ (enV 0 emp 0 emp 0) GY.out rfl) rfl (by rw [HDV.out]; exact ⟨rfl, (R8.out.below (Below.refl _ _).drew).out (Out.turned TY.out (Nat.le_refl _) (Nat.lt_succ_self _)) (.inl HS.out.1), (U8.out.drew).late TY.out (Nat.le_refl _)⟩)
              · have n4 : (V2 == 4) = false := by simp [h4]
                have n0 : (V2 != 0) = true := by simp [hV20]
                have HDV : Hid (d = ⟨ez, O3, V2, O3, V2⟩) := by show _ = _; rw [HD3.out, hdc, if_neg h4]
                clear q1 q2 q4 hdc hV20 h4
                have cq := R8.out.cell1
                go_wp2_with fail
                refine wp_region_held_drew (S := (fun w' => w'.cell? ⟨q, 1, none⟩ = some (.int .i64 O3))) (by kernel_rfl) (cq) (fun hHeld => ?_)
                refine tk 0 { dst := some 77, op := Go.Op.build 23 #[], type := 23, pos := "ref.go:87", after := #[], guard := none } ?_ ?_ ?_
                rotate_left 1
                focus ((intro wS hSw; (try dsimp only at hSw); go_simp) <;> (try with_reducible rfl))
                simp only [Act.put, List.setIfInBounds_toArray, List.set_cons_zero, List.set_cons_succ]
                refine tk 1 { dst := some 78, op := Go.Op.move (Go.Operand.tmp 0), type := 41, pos := "ref.go:87", after := #[{ on := 6, ground := Go.Ground.gcOnly Go.Departure.lateStores }], guard := none } ?_ ?_ ?_
                rotate_left 1
                focus ((intro wS hSw; (try dsimp only at hSw); go_simp) <;> (try with_reducible rfl))
                simp only [Act.put, List.setIfInBounds_toArray, List.set_cons_zero, List.set_cons_succ]
                refine tk 2 { dst := some 79, op := Go.Op.nilCheck (Go.Operand.tmp 78), type := 0, pos := "ref.go:87", after := #[{ on := 1, ground := Go.Ground.data }, { on := 6, ground := Go.Ground.gcOnly Go.Departure.lateStores }], guard := none } ?_ ?_ ?_
                rotate_left 1
                focus ((intro wS hSw; (try dsimp only at hSw); go_simp) <;> (try with_reducible rfl))
                simp only [Act.put, List.setIfInBounds_toArray, List.set_cons_zero, List.set_cons_succ]
                refine tk 3 { dst := some 80, op := Go.Op.fieldAddr 45 (Go.Operand.tmp 79) 1, type := 0, pos := "ref.go:87", after := #[{ on := 2, ground := Go.Ground.data }, { on := 6, ground := Go.Ground.gcOnly Go.Departure.lateStores }], guard := none } ?_ ?_ ?_
                rotate_left 1
                focus ((intro wS hSw; (try dsimp only at hSw); go_simp) <;> (try with_reducible rfl))
                simp only [Act.put, List.setIfInBounds_toArray, List.set_cons_zero, List.set_cons_succ]
                refine tk 4 { dst := some 81, op := Go.Op.load 2 (Go.Operand.tmp 80), type := 2, pos := "ref.go:87", after := #[{ on := 3, ground := Go.Ground.data }, { on := 6, ground := Go.Ground.gcOnly Go.Departure.lateStores }], guard := none } ?_ ?_ ?_
                rotate_left 1
                focus ((intro wS hSw; (try dsimp only at hSw); go_simp) <;> (try with_reducible rfl))
                simp only [Act.put, List.setIfInBounds_toArray, List.set_cons_zero, List.set_cons_succ]
                refine tk 5 { dst := some 82, op := Go.Op.move (Go.Operand.tmp 7), type := 3, pos := "ref.go:87", after := #[{ on := 7, ground := Go.Ground.gcOnly Go.Departure.lateStores }], guard := none } ?_ ?_ ?_
                rotate_left 1
                focus ((intro wS hSw; (try dsimp only at hSw); go_simp) <;> (try with_reducible rfl))
                simp only [Act.put, List.setIfInBounds_toArray, List.set_cons_zero, List.set_cons_succ]
                refine wpAnyH_ready (rs := [6]) (by kernel_rfl) (by simp) ?_
                refine AllReadyH.cons (o := { dst := none, op := Go.Op.store 23 (Go.Operand.tmp 2) (Go.Operand.tmp 77), type := 0, pos := "ref.go:87", after := #[{ on := 0, ground := Go.Ground.data }, { on := 0, ground := Go.Ground.phase }, { on := 1, ground := Go.Ground.textOnly Go.Departure.lateStores }, { on := 2, ground := Go.Ground.textOnly Go.Departure.lateStores }, { on := 3, ground := Go.Ground.textOnly Go.Departure.lateStores }, { on := 4, ground := Go.Ground.textOnly Go.Departure.lateStores }, { on := 5, ground := Go.Ground.textOnly Go.Departure.lateStores }], guard := none }) rfl (fun K hK => ?_) AllReadyH.nil
                refine step_store_obj rfl 23 _ _ rfl w.heap.size rfl (enV 0 emp 0 emp 0) (enV 0 emp 0 emp 0) rfl 23 (G8.out.below (Below.refl _ _).drew G8.out.lt) EO.out.2 rfl (en_one _ _ _ _ _) ?_; intro wy gy ty; have GY := Lib.hid gy; have TY : Hid (Turned w8.drew wy w.heap.size) := ty; clear gy ty
                refine hK.out _ _ ((R8.out.below (Below.refl _ _).drew).out (Out.turned TY.out (Nat.le_refl _) (Nat.lt_succ_self _)) (.inl HS.out.1) |>.cell1) (fun hHeld => ?_)
                clear hK K
                (try simp only [Act.put])
                refine tk 7 { dst := some 3, op := Go.Op.assign (Go.Operand.tmp 81), type := 2, pos := "ref.go:87", after := #[{ on := 4, ground := Go.Ground.data }, { on := 6, ground := Go.Ground.chain }, { on := 0, ground := Go.Ground.phase }, { on := 1, ground := Go.Ground.phase }, { on := 2, ground := Go.Ground.phase }, { on := 3, ground := Go.Ground.phase }, { on := 4, ground := Go.Ground.phase }, { on := 5, ground := Go.Ground.textOnly Go.Departure.lateStores }, { on := 6, ground := Go.Ground.phase }], guard := none } ?_ ?_ ?_
                rotate_left 1
                focus ((intro wS hSw; (try dsimp only at hSw); go_simp) <;> (try with_reducible rfl))
                simp only [Act.put, List.setIfInBounds_toArray, List.set_cons_zero, List.set_cons_succ]
                refine tk 8 { dst := some 4, op := Go.Op.assign (Go.Operand.tmp 82), type := 3, pos := "ref.go:87", after := #[{ on := 5, ground := Go.Ground.data }, { on := 7, ground := Go.Ground.chain }, { on := 0, ground := Go.Ground.phase }, { on := 1, ground := Go.Ground.phase }, { on := 2, ground := Go.Ground.phase }, { on := 3, ground := Go.Ground.phase }, { on := 4, ground := Go.Ground.phase }, { on := 5, ground := Go.Ground.phase }, { on := 6, ground := Go.Ground.phase }, { on := 7, ground := Go.Ground.phase }], guard := none } ?_ ?_ ?_
                rotate_left 1
                focus ((intro wS hSw; (try dsimp only at hSw); go_simp) <;> (try with_reducible rfl))
                simp only [Act.put, List.setIfInBounds_toArray, List.set_cons_zero, List.set_cons_succ]
                refine wpAnyH_done (by kernel_rfl) ?_ _
                go_wp2_with fail
                exact bodyPost_ret (Go.Proofs.YtbbaleambgaanaaGreatDoor.Fit.results_obj_two Tryz.results19 EO.out _ w.heap.size rfl _ (enV 0 emp 0 emp 0) GY.out rfl) rfl (by rw [HDV.out]; exact ⟨rfl, (R8.out.below (Below.refl _ _).drew).out (Out.turned TY.out (Nat.le_refl _) (Nat.lt_succ_self _)) (.inl HS.out.1), (U8.out.drew).late TY.out (Nat.le_refl _)⟩)
            · obtain rfl : V2 = 0 := Decidable.byContradiction hV20
              clear hV20
              obtain ⟨_, hg8⟩ := nx_zero HEN.out.1 hV2.out.symm
              obtain ⟨g1, _, g3⟩ := nx_go (E := E) hg8
              obtain ⟨B2, hB2⟩ := named ((Z.drop O2).take 512)
              rw [← hB2.out] at g1
              obtain rfl : O2 + 512 = O3 := by rw [hO3.out, g3]
              have BL2 : Hid (B2.length = 512) := by show _ = _; rw [hB2.out, List.length_take, List.length_drop]; omega
              have BB2 : Hid (Bytes B2) := by show Bytes _; rw [hB2.out]; exact (ZB.out.drop _).take _
              have I8' : Hid (BytesIn w8 b8 B2) := by show BytesIn _ _ _; rw [← g1]; exact I8.out.bytes (by rw [g1]; exact BB2.out)
              have L8' : Hid (512 ≤ c8 ∧ c8 ≤ maxLen) := by show _ ∧ _; have := L8.out; rw [g1, BL2.out] at this; exact this
              rw [g1, BL2.out]
              clear g1 g3 I8 L8
              obtain ⟨D2, hD2⟩ := named (Ust.deE B2)
              go_wp2_with fail
              refine (Ust.rdec_any b8 512 c8 B2 w8 I8'.out BL2.out BB2.out L8'.out.1 L8'.out.2).mono ?_; rintro e w9 ⟨rfl, b9⟩
              rw [← hD2.out]
              have R9 := Lib.hid (R8.out.below b9); have U9 := Lib.hid (U8.out.late_below b9 U8.out.size); have G9 := Lib.hid (G8.out.below b9 G8.out.lt); have X9 := Lib.hid (X8.out.below b9 X8.out.lt); have HY9 := Lib.hid (HY8.out.below b9)
              clear b9
              by_cases hD20 : D2 ≠ 0
              · obtain ⟨q1, q2, _⟩ := ls_bad (Z := Z) (E := E) (o := O2) hV2.out.symm (by rw [← hB2.out, ← hD2.out]; exact hD20)
                rw [← hB2.out, ← hD2.out] at q1
                have q4 : lsE Z E (rcO Z o ⟨120, NM, PF, LK, MD, SZE⟩) ≠ 0 := by rw [← hO2.out, q1]; exact hD20
                have hdc := dc2_last HEN.out.1 HRC.out q4
                rw [← hO2.out, q1, q2, ← hV2.out, ← hO3.out] at hdc
                have HDV := Lib.hid (HD3.out.trans hdc)
                have n0 : (D2 != 0) = true := by simp [hD20]
                rw [dH_bad (by rw [← hD2.out]; exact hD20)]
                clear q1 q2 q4 hdc hD20
                go_wp2_with (first | (refine wpList_store_obj rfl 67 _ _ rfl w4.heap.size rfl (Ust.hd0) (Ust.hdV 120 NM PF LK MD SZE) rfl 67 X9.out HO.out.2 rfl (hd_one _ _ _ _ _ _) ?_; intro wa ga ta; have XA := Lib.hid ga; have TA := Lib.hid ta; have GA := Lib.hid (G9.out.turned ta (Nat.ne_of_lt LW4.out)); have e0 := XA.out.get 0 rfl; have e1 := XA.out.get 1 rfl; have e2 := XA.out.get 2 rfl; have e3 := XA.out.get 3 rfl; have e4 := XA.out.get 4 rfl; have e5 := XA.out.get 5 rfl; clear ga ta) | (refine wpList_store_obj rfl 23 _ _ rfl w.heap.size rfl (enV 0 emp 0 emp 0) (enV 0 emp 0 emp 0) rfl 23 GA.out EO.out.2 rfl (en_one _ _ _ _ _) ?_; intro wy gy ty; have GY := Lib.hid gy; have TY := Lib.hid ty; clear gy ty))
                have RA := Lib.hid (R9.out.out (Out.turned TA.out (Nat.le_refl _) (Nat.lt_succ_self _)) (.inl (Nat.le_trans HS.out.1 U4.out.size)))
                have UA := Lib.hid (U9.out.late TA.out U4.out.size)
                exact bodyPost_ret (Go.Proofs.YtbbaleambgaanaaGreatDoor.Fit.results_obj_two Tryz.results19 EO.out _ w.heap.size rfl _ (enV 0 emp 0 emp 0) GY.out rfl) rfl (by rw [HDV.out]; exact ⟨rfl, RA.out.out (Out.turned TY.out (Nat.le_refl _) (Nat.lt_succ_self _)) (.inl HS.out.1), UA.out.late TY.out (Nat.le_refl _)⟩)
              · obtain rfl : D2 = 0 := Decidable.byContradiction hD20
                clear hD20
                obtain ⟨q1, _, q3⟩ := ls_ok (Z := Z) (E := E) (o := O2) hV2.out.symm (by rw [← hB2.out, ← hD2.out])
                rw [← hB2.out] at q3
                obtain ⟨hdc, _, _⟩ := dc2_ok HEN.out.1 HRC.out (by rw [← hO2.out]; exact q1)
                rw [← hO2.out, q3, ← hRS.out] at hdc
                have HDV := Lib.hid (HD3.out.trans hdc)
                have SZ := Lib.hid (hd_sizes BB2.out)
                rw [dH_ok hD2.out.symm]
                clear q1 q3 hdc
                go_wp2_with (first | (refine wpList_store_obj rfl 67 _ _ rfl w4.heap.size rfl (Ust.hdV (Ust.dT B2) (Ust.dNm B2) (Ust.dPf B2) (Ust.dLk B2) (Ust.dMd B2) (Ust.dSz B2)) (Ust.hdV 120 NM PF LK MD SZE) rfl 67 X9.out HO.out.2 rfl (hd_one _ _ _ _ _ _) ?_; intro wa ga ta; have XA := Lib.hid ga; have TA := Lib.hid ta; have GA := Lib.hid (G9.out.turned ta (Nat.ne_of_lt LW4.out)); have e0 := XA.out.get 0 rfl; have e1 := XA.out.get 1 rfl; have e2 := XA.out.get 2 rfl; have e3 := XA.out.get 3 rfl; have e4 := XA.out.get 4 rfl; have e5 := XA.out.get 5 rfl; clear ga ta))
                have RA := Lib.hid (R9.out.out (Out.turned TA.out (Nat.le_refl _) (Nat.lt_succ_self _)) (.inl (Nat.le_trans HS.out.1 U4.out.size)))
                have UA := Lib.hid (U9.out.late TA.out U4.out.size)
                have HYA := Lib.hid (HY9.out.out (Out.turned TA.out (Nat.le_refl _) (Nat.lt_succ_self _)) HX7.out)
                refine (rmerge_any (Ust.dT B2) (Ust.dNm B2) (Ust.dPf B2) (Ust.dLk B2) (Ust.dMd B2) (Ust.dSz B2) a7 n7 c7 RS wa (by have := SZ.out; omega) (by have := SZ.out; omega) (by have := SZ.out; omega) (fun r hr => Nat.le_trans (HRG.out.1 r hr) (by decide)) HN7.out HYA.out (by have := HRG.out.2; have := HN7.out; omega)).mono ?_; rintro e m1 ⟨x, EM, rfl, hm, bm⟩
                obtain ⟨hmD, hmE⟩ := mgRes_D hm o O2 (O2 + 512)
                have HMD := Lib.hid hmD; have HME := Lib.hid hmE
                have RM := Lib.hid (RA.out.below bm); have UM := Lib.hid (UA.out.late_below bm UA.out.size); have GM := Lib.hid (GA.out.below bm GA.out.lt)
                clear hm bm hmD hmE e0 e1 e2 e3 e4 e5
                obtain ⟨xk, xp, xm, xt, xs⟩ := x
                by_cases hE0 : EM = 0
                · subst hE0
                  have HDM : Hid (d = ⟨⟨xk, xp, xm, xt, xs⟩, o, 0, (O2 + 512), 0⟩) := by show _ = _; rw [HDV.out]; exact HMD.out
                  go_wp2_with (first | (refine wpList_alloc_obj rfl 23 rfl (enV 0 emp 0 emp 0) EZ.out ?_; intro m2 g2 b2; have X2 := Lib.hid g2; have B2 := Lib.hid b2; clear g2 b2) | (refine wpList_store_obj rfl 23 _ _ rfl m1.heap.size rfl (enV xk xp xm xt xs) (enV 0 emp 0 emp 0) rfl 23 X2.out EO.out.2 rfl (en_one _ _ _ _ _) ?_; intro m3 g3 t3; have X3 := Lib.hid g3; have A3 := Lib.hid (B2.out.trans (t3.below (Nat.le_refl _))); have GM3 := Lib.hid (GM.out.below A3.out GM.out.lt); have e0 := X3.out.get 0 rfl; have e1 := X3.out.get 1 rfl; have e2 := X3.out.get 2 rfl; have e3 := X3.out.get 3 rfl; have e4 := X3.out.get 4 rfl; clear g3 t3) | (refine wpList_store_obj rfl 23 _ _ rfl w.heap.size rfl (enV xk xp xm xt xs) (enV 0 emp 0 emp 0) rfl 23 GM3.out EO.out.2 rfl (en_one _ _ _ _ _) ?_; intro wy gy ty; have GY := Lib.hid gy; have TY := Lib.hid ty; clear gy ty))
                  have RM3 := Lib.hid (RM.out.below A3.out); have UM3 := Lib.hid (UM.out.late_below A3.out UM.out.size)
                  exact bodyPost_ret (Go.Proofs.YtbbaleambgaanaaGreatDoor.Fit.results_obj_two Tryz.results19 EO.out _ w.heap.size rfl _ (enV xk xp xm xt xs) GY.out rfl) rfl (by rw [HDM.out]; exact ⟨rfl, RM3.out.out (Out.turned TY.out (Nat.le_refl _) (Nat.lt_succ_self _)) (.inl HS.out.1), UM3.out.late TY.out (Nat.le_refl _)⟩)
                · have hne : (EM != 0) = true := by simp [hE0]
                  have hx := HME.out hE0
                  have HDM : Hid (d = ⟨ez, O2, EM, (O2 + 512), 0⟩) := by show _ = _; rw [HDV.out]; refine HMD.out.trans ?_; rw [hx, if_neg hE0]
                  clear hE0 hx
                  go_wp2_with (first | (refine wpList_alloc_obj rfl 23 rfl (enV 0 emp 0 emp 0) EZ.out ?_; intro m2 g2 b2; have X2 := Lib.hid g2; have B2 := Lib.hid b2; clear g2 b2) | (refine wpList_store_obj rfl 23 _ _ rfl m1.heap.size rfl (enV xk xp xm xt xs) (enV 0 emp 0 emp 0) rfl 23 X2.out EO.out.2 rfl (en_one _ _ _ _ _) ?_; intro m3 g3 t3; have X3 := Lib.hid g3; have A3 := Lib.hid (B2.out.trans (t3.below (Nat.le_refl _))); have GM3 := Lib.hid (GM.out.below A3.out GM.out.lt); clear g3 t3) | (refine wpList_store_obj rfl 23 _ _ rfl w.heap.size rfl (enV 0 emp 0 emp 0) (enV 0 emp 0 emp 0) rfl 23 GM3.out EO.out.2 rfl (en_one _ _ _ _ _) ?_; intro wy gy ty; have GY := Lib.hid gy; have TY := Lib.hid ty; clear gy ty))
                  have RM3 := Lib.hid (RM.out.below A3.out); have UM3 := Lib.hid (UM.out.late_below A3.out UM.out.size)
                  exact bodyPost_ret (Go.Proofs.YtbbaleambgaanaaGreatDoor.Fit.results_obj_two Tryz.results19 EO.out _ w.heap.size rfl _ (enV 0 emp 0 emp 0) GY.out rfl) rfl (by rw [HDM.out]; exact ⟨rfl, RM3.out.out (Out.turned TY.out (Nat.le_refl _) (Nat.lt_succ_self _)) (.inl HS.out.1), UM3.out.late TY.out (Nat.le_refl _)⟩)
          · have hdc := dc2_bad HEN.out.1 hrc
            have HDV := Lib.hid (HD3.out.trans hdc)
            obtain ⟨L, hL⟩ := named (rcE Z E o ⟨120, NM, PF, LK, MD, SZE⟩)
            obtain ⟨P, hP⟩ := named (rcP Z E o ⟨120, NM, PF, LK, MD, SZE⟩)
            rw [← hL.out] at hrc
            rw [← hL.out, ← hP.out] at EX HDV
            have n0 : (L != 0) = true := by simp [hrc]
            clear hrc hdc HD3
            go_wp2_with (first | (refine wpList_alloc_obj rfl 67 rfl Ust.hd0 HZ.out ?_; intro w5 g5 b5; have X5 := Lib.hid g5; have B5 := Lib.hid b5; clear g5 b5) | (refine wpList_store_obj rfl 67 _ _ rfl w4.heap.size rfl (Ust.hdV 120 NM PF LK MD SZE) Ust.hd0 rfl 67 X5.out HO.out.2 rfl (hd_one _ _ _ _ _ _) ?_; intro w6 g6 t6; have X6 := Lib.hid g6; have A6 := Lib.hid (B5.out.trans (t6.below (Nat.le_refl _))); have G6 := Lib.hid (G4.out.below A6.out G4.out.lt); clear g6 t6; have e0 := X6.out.get 0 rfl; have e1 := X6.out.get 1 rfl; have e2 := X6.out.get 2 rfl; have e3 := X6.out.get 3 rfl; have e4 := X6.out.get 4 rfl; have e5 := X6.out.get 5 rfl))
            have R6 := Lib.hid (R4.out.below A6.out); have U6 := Lib.hid (U4.out.late_below A6.out U4.out.size)
            refine (EX.out w6 R6.out).mono ?_; rintro e w7 ⟨⟨a7, n7, c7, rfl, l7, f7, g7, y7, x7⟩, r7, u7⟩
            have R7 := Lib.hid r7; have U7 := Lib.hid (U6.out.trans u7)
            have G7 := Lib.hid (G6.out.out u7 (.inr HS.out.1))
            clear l7 f7 g7 y7 x7 r7 u7 e0 e1 e2 e3 e4 e5
            go_wp2_with (first | (refine wpList_store_obj rfl 23 _ _ rfl w.heap.size rfl (enV 0 emp 0 emp 0) (enV 0 emp 0 emp 0) rfl 23 G7.out EO.out.2 rfl (en_one _ _ _ _ _) ?_; intro wy gy ty; have GY := Lib.hid gy; have TY := Lib.hid ty; clear gy ty))
            exact bodyPost_ret (Go.Proofs.YtbbaleambgaanaaGreatDoor.Fit.results_obj_two Tryz.results19 EO.out _ w.heap.size rfl _ (enV 0 emp 0 emp 0) GY.out rfl) rfl (by rw [HDV.out]; exact ⟨rfl, R7.out.out (Out.turned TY.out (Nat.le_refl _) (Nat.lt_succ_self _)) (.inl HS.out.1), U7.out.late TY.out (Nat.le_refl _)⟩)
        · have hT' : (Ust.dT B == 120) = false := by simp [hT]
          have HDV : Hid (d = mgD (hdOf B) [] o o (o + 512)) := by show _ = _; rw [HD2.out, if_neg hT]
          clear hT
          go_wp2_with (first | (refine wpList_alloc_obj rfl 67 rfl Ust.hd0 HZ.out ?_; intro w5 g5 b5; have X5 := Lib.hid g5; have B5 := Lib.hid b5; clear g5 b5) | (refine wpList_store_obj rfl 67 _ _ rfl w4.heap.size rfl (Ust.hdV (Ust.dT B) (Ust.dNm B) (Ust.dPf B) (Ust.dLk B) (Ust.dMd B) (Ust.dSz B)) Ust.hd0 rfl 67 X5.out HO.out.2 rfl (hd_one _ _ _ _ _ _) ?_; intro w6 g6 t6; have X6 := Lib.hid g6; have A6 := Lib.hid (B5.out.trans (t6.below (Nat.le_refl _))); have G6 := Lib.hid (G4.out.below A6.out G4.out.lt); clear g6 t6; have e0 := X6.out.get 0 rfl; have e1 := X6.out.get 1 rfl; have e2 := X6.out.get 2 rfl; have e3 := X6.out.get 3 rfl; have e4 := X6.out.get 4 rfl; have e5 := X6.out.get 5 rfl))
          have R6 := Lib.hid (R4.out.below A6.out); have U6 := Lib.hid (U4.out.late_below A6.out U4.out.size)
          refine (rmerge_any (Ust.dT B) (Ust.dNm B) (Ust.dPf B) (Ust.dLk B) (Ust.dMd B) (Ust.dSz B) none 0 0 [] w6 (by have := SZ.out; omega) (by have := SZ.out; omega) (by have := SZ.out; omega) (fun r hr => by simp at hr) rfl (.inl rfl) (by decide)).mono ?_; rintro e m1 ⟨x, EM, rfl, hm, bm⟩
          obtain ⟨hmD, hmE⟩ := mgRes_D hm o o (o + 512)
          have HMD := Lib.hid hmD; have HME := Lib.hid hmE
          have RM := Lib.hid (R6.out.below bm); have UM := Lib.hid (U6.out.late_below bm U6.out.size); have GM := Lib.hid (G6.out.below bm G6.out.lt)
          clear hm bm hmD hmE e0 e1 e2 e3 e4 e5
          obtain ⟨xk, xp, xm, xt, xs⟩ := x
          by_cases hE0 : EM = 0
          · subst hE0
            have HDM : Hid (d = ⟨⟨xk, xp, xm, xt, xs⟩, o, 0, (o + 512), 0⟩) := by show _ = _; rw [HDV.out]; exact HMD.out
            go_wp2_with (first | (refine wpList_alloc_obj rfl 23 rfl (enV 0 emp 0 emp 0) EZ.out ?_; intro m2 g2 b2; have X2 := Lib.hid g2; have B2 := Lib.hid b2; clear g2 b2) | (refine wpList_store_obj rfl 23 _ _ rfl m1.heap.size rfl (enV xk xp xm xt xs) (enV 0 emp 0 emp 0) rfl 23 X2.out EO.out.2 rfl (en_one _ _ _ _ _) ?_; intro m3 g3 t3; have X3 := Lib.hid g3; have A3 := Lib.hid (B2.out.trans (t3.below (Nat.le_refl _))); have GM3 := Lib.hid (GM.out.below A3.out GM.out.lt); have e0 := X3.out.get 0 rfl; have e1 := X3.out.get 1 rfl; have e2 := X3.out.get 2 rfl; have e3 := X3.out.get 3 rfl; have e4 := X3.out.get 4 rfl; clear g3 t3) | (refine wpList_store_obj rfl 23 _ _ rfl w.heap.size rfl (enV xk xp xm xt xs) (enV 0 emp 0 emp 0) rfl 23 GM3.out EO.out.2 rfl (en_one _ _ _ _ _) ?_; intro wy gy ty; have GY := Lib.hid gy; have TY := Lib.hid ty; clear gy ty))
            have RM3 := Lib.hid (RM.out.below A3.out); have UM3 := Lib.hid (UM.out.late_below A3.out UM.out.size)
            exact bodyPost_ret (Go.Proofs.YtbbaleambgaanaaGreatDoor.Fit.results_obj_two Tryz.results19 EO.out _ w.heap.size rfl _ (enV xk xp xm xt xs) GY.out rfl) rfl (by rw [HDM.out]; exact ⟨rfl, RM3.out.out (Out.turned TY.out (Nat.le_refl _) (Nat.lt_succ_self _)) (.inl HS.out.1), UM3.out.late TY.out (Nat.le_refl _)⟩)
          · have hne : (EM != 0) = true := by simp [hE0]
            have hx := HME.out hE0
            have HDM : Hid (d = ⟨ez, o, EM, (o + 512), 0⟩) := by show _ = _; rw [HDV.out]; refine HMD.out.trans ?_; rw [hx, if_neg hE0]
            clear hE0 hx
            go_wp2_with (first | (refine wpList_alloc_obj rfl 23 rfl (enV 0 emp 0 emp 0) EZ.out ?_; intro m2 g2 b2; have X2 := Lib.hid g2; have B2 := Lib.hid b2; clear g2 b2) | (refine wpList_store_obj rfl 23 _ _ rfl m1.heap.size rfl (enV xk xp xm xt xs) (enV 0 emp 0 emp 0) rfl 23 X2.out EO.out.2 rfl (en_one _ _ _ _ _) ?_; intro m3 g3 t3; have X3 := Lib.hid g3; have A3 := Lib.hid (B2.out.trans (t3.below (Nat.le_refl _))); have GM3 := Lib.hid (GM.out.below A3.out GM.out.lt); clear g3 t3) | (refine wpList_store_obj rfl 23 _ _ rfl w.heap.size rfl (enV 0 emp 0 emp 0) (enV 0 emp 0 emp 0) rfl 23 GM3.out EO.out.2 rfl (en_one _ _ _ _ _) ?_; intro wy gy ty; have GY := Lib.hid gy; have TY := Lib.hid ty; clear gy ty))
            have RM3 := Lib.hid (RM.out.below A3.out); have UM3 := Lib.hid (UM.out.late_below A3.out UM.out.size)
            exact bodyPost_ret (Go.Proofs.YtbbaleambgaanaaGreatDoor.Fit.results_obj_two Tryz.results19 EO.out _ w.heap.size rfl _ (enV 0 emp 0 emp 0) GY.out rfl) rfl (by rw [HDM.out]; exact ⟨rfl, RM3.out.out (Out.turned TY.out (Nat.le_refl _) (Nat.lt_succ_self _)) (.inl HS.out.1), UM3.out.late TY.out (Nat.le_refl _)⟩)
end Go.Proofs.YtbbaleambgaanaaGreatDoor.Etr
