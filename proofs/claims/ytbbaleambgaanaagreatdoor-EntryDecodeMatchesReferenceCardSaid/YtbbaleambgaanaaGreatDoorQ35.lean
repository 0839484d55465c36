/- UstDIface EtrPLast EtrPExt -/
import Derived.Test.YtbbaleambgaanaaGreatDoorQ12
import Derived.Test.YtbbaleambgaanaaGreatDoorQ5
import Derived.Test.YtbbaleambgaanaaGreatDoorQ34
import Derived.Test.YtbbaleambgaanaaGreatDoorQ30
import Derived.Test.YtbbaleambgaanaaGreatDoorQ33
namespace Go.Proofs.YtbbaleambgaanaaGreatDoor.Ust
open Go.RowKit
open Oct Cst Chk
theorem dec_any (a : Option Addr) (n cap : Nat) (zs : List Int) (w : World) (hb : BytesIn w a zs) (hl : zs.length = n) (hz : Bytes zs) (hc : n ≤ cap) (hm : cap ≤ maxLen) :
    Calls Tryz.prog 36 #[.slice a n cap] w fun e w' => e = .returned (.tuple #[.agg (dH zs).toArray, .int .i64 (deE zs)]) ∧ Below w.heap.size w w' := by
  by_cases h : n = 512
  · subst h
    obtain ⟨b, off, rfl, hlt, hr⟩ : ∃ b off, a = some ⟨b, off, none⟩ ∧ b < w.heap.size ∧ RowAt w b off zs := by
      rcases hb with hb | hb
      · rw [hb] at hl; cases hl
      · exact hb
    by_cases hs : zs = sealZ zs
    · by_cases hk : known (dT zs)
      · exact dec_known b off cap zs w hl hr hlt hc hm hs hk
      · obtain ⟨e1, e2⟩ := de_kind hl hs hk
        rw [e1, e2]
        exact dec_kind b off cap zs w hl hr hlt hs hk
    · obtain ⟨e1, e2⟩ := de_ver hl hs
      rw [e1, e2]
      exact dec_err _ 512 cap w 9 (by decide) fun w' hb' => Chk.ver_ok _ cap zs w' 9 hl (.inr ⟨b, off, rfl, Nat.lt_of_lt_of_le hlt hb'.size, hr.below hb' hlt⟩) hz (.inr ⟨hs, rfl⟩)
  · obtain ⟨e1, e2⟩ := de_len (zs := zs) (by rw [hl]; exact h)
    rw [e1, e2]
    exact dec_err a n cap w 2 (by decide) fun w' _ => Chk.ver_bad a n cap w' h
end Go.Proofs.YtbbaleambgaanaaGreatDoor.Ust
namespace Go.Proofs.YtbbaleambgaanaaGreatDoor
open Go.RowKit
theorem Pxr.RecsIn.out {w w' : World} {lo hi : Nat} {a : Option Addr} {rs : List Pxr.Rec} (h : Pxr.RecsIn w a rs) (ho : Out lo hi w w') (ha : ∀ x, a = some x → hi ≤ x.block) : Pxr.RecsIn w' a rs := by
  rcases h with h | ⟨b, off, rfl, hb, hr⟩
  · exact .inl h
  · have e : w'.heap[b]? = w.heap[b]? := ho.block b hb (.inr (ha _ rfl))
    refine .inr ⟨b, off, rfl, Nat.lt_of_lt_of_le hb ho.size, fun i r hi => ?_⟩
    obtain ⟨c0, c1⟩ := hr i r hi
    exact ⟨(World.cell?_of_block (a := ⟨b, _, none⟩) e).trans c0, (World.cell?_of_block (a := ⟨b, _, none⟩) e).trans c1⟩
end Go.Proofs.YtbbaleambgaanaaGreatDoor
namespace Go.Proofs.YtbbaleambgaanaaGreatDoor.Etr
open Go.RowKit Go.Proofs.YtbbaleambgaanaaGreatDoor.Fit Pxr Pnm
section
variable {lo hi q : Nat} {Z : List Int} {E : Int} {o : Nat}
set_option maxRecDepth 100000 in
set_option maxHeartbeats 4000000 in
theorem plast_five (w : World) (h : Rdr w lo hi q Z E o 0) (hE : E = 11 ∨ E = 4) (h4 : nxE Z E o 0 = 4) :
    Calls Tryz.prog 76 #[.pointer (some ⟨q, 0, none⟩)] w fun e w' => e = .returned (.tuple #[.agg (Ust.hdV 0 emp emp emp 0 0).toArray, .int .i64 (nxO Z o 0 : Nat), .int .i64 5]) ∧ Rdr w' lo hi q Z E (nxO Z o 0) (nxE Z E o 0) ∧ Out lo hi w w' := by
  have HO := Lib.hid hdTp; have HZ := Lib.hid zHp
  have H := Lib.hid h; have HS := Lib.hid h.size; have ZB := Lib.hid h.bd; have HEE := Lib.hid hE
  obtain ⟨V, hV⟩ := named (nxE Z E o 0)
  obtain ⟨O, hO⟩ := named (nxO Z o 0)
  rw [← hO.out]
  rw [← hV.out] at h4
  rw [← hV.out]
  have n4 : (V == 4) = true := by simp [h4]
  clear h hE h4
  go_enter Tryz.func76, Tryz.ntmps76
  go_wp2_with (first | (refine wpList_alloc_obj rfl 56 rfl Ust.hd0 HZ.out ?_; intro w1 h1 b1; have G1 := Lib.hid h1; have B1 := Lib.hid b1; clear h1 b1))
  have R1 := Lib.hid (H.out.below B1.out); have U1 : Hid (Out lo hi w w1) := Out.of_below B1.out (Nat.le_refl _)
  refine (rdr_next_cap w1 R1.out HEE.out).mono ?_; rintro e w2 ⟨b2, c2, rfl, l2, i2, x2, r2, u2⟩
  rw [← hV.out, ← hO.out] at r2
  rw [← hV.out]
  have R2 := Lib.hid r2; have U2 := Lib.hid (U1.out.trans u2); have G2 := Lib.hid (G1.out.out u2 (.inr HS.out.1))
  have I2 := Lib.hid i2; have L2 := Lib.hid l2
  clear l2 i2 x2 r2 u2
  go_wp2_with fail
  refine (rdr_off w2 R2.out).mono ?_; rintro e w3 ⟨rfl, rfl⟩
  go_wp2_with (first | (refine wpList_store_obj rfl 56 _ _ rfl w.heap.size rfl (Ust.hdV 0 emp emp emp 0 0) Ust.hd0 rfl 56 G2.out HO.out.2 rfl (hd_one _ _ _ _ _ _) ?_; intro wy gy ty; have GY := Lib.hid gy; have TY := Lib.hid ty; clear gy ty))
  exact bodyPost_ret (Go.Proofs.YtbbaleambgaanaaGreatDoor.Fit.results_obj_two Tryz.results76 HO.out _ w.heap.size rfl _ (Ust.hdV 0 emp emp emp 0 0) GY.out rfl) rfl ⟨rfl, R2.out.out (Out.turned TY.out (Nat.le_refl _) (Nat.lt_succ_self _)) (.inl HS.out.1), U2.out.late TY.out (Nat.le_refl _)⟩
set_option maxRecDepth 100000 in
set_option maxHeartbeats 4000000 in
theorem plast_next (w : World) (h : Rdr w lo hi q Z E o 0) (hE : E = 11 ∨ E = 4) (h4 : nxE Z E o 0 ≠ 4) (h0 : nxE Z E o 0 ≠ 0) :
    Calls Tryz.prog 76 #[.pointer (some ⟨q, 0, none⟩)] w fun e w' => e = .returned (.tuple #[.agg (Ust.hdV 0 emp emp emp 0 0).toArray, .int .i64 (nxO Z o 0 : Nat), .int .i64 (nxE Z E o 0)]) ∧ Rdr w' lo hi q Z E (nxO Z o 0) (nxE Z E o 0) ∧ Out lo hi w w' := by
  have HO := Lib.hid hdTp; have HZ := Lib.hid zHp
  have H := Lib.hid h; have HS := Lib.hid h.size; have ZB := Lib.hid h.bd; have HEE := Lib.hid hE
  obtain ⟨V, hV⟩ := named (nxE Z E o 0)
  obtain ⟨O, hO⟩ := named (nxO Z o 0)
  rw [← hO.out, ← hV.out]
  rw [← hV.out] at h4 h0
  have n4 : (V == 4) = false := by simp [h4]
  have n0 : (V != 0) = true := by simp [h0]
  clear h hE h4 h0
  go_enter Tryz.func76, Tryz.ntmps76
  go_wp2_with (first | (refine wpList_alloc_obj rfl 56 rfl Ust.hd0 HZ.out ?_; intro w1 h1 b1; have G1 := Lib.hid h1; have B1 := Lib.hid b1; clear h1 b1))
  have R1 := Lib.hid (H.out.below B1.out); have U1 : Hid (Out lo hi w w1) := Out.of_below B1.out (Nat.le_refl _)
  refine (rdr_next_cap w1 R1.out HEE.out).mono ?_; rintro e w2 ⟨b2, c2, rfl, l2, i2, x2, r2, u2⟩
  rw [← hV.out, ← hO.out] at r2
  rw [← hV.out]
  have R2 := Lib.hid r2; have U2 := Lib.hid (U1.out.trans u2); have G2 := Lib.hid (G1.out.out u2 (.inr HS.out.1))
  have I2 := Lib.hid i2; have L2 := Lib.hid l2
  clear l2 i2 x2 r2 u2
  go_wp2_with fail
  refine (rdr_off w2 R2.out).mono ?_; rintro e w3 ⟨rfl, rfl⟩
  go_wp2_with (first | (refine wpList_store_obj rfl 56 _ _ rfl w.heap.size rfl (Ust.hdV 0 emp emp emp 0 0) Ust.hd0 rfl 56 G2.out HO.out.2 rfl (hd_one _ _ _ _ _ _) ?_; intro wy gy ty; have GY := Lib.hid gy; have TY := Lib.hid ty; clear gy ty))
  exact bodyPost_ret (Go.Proofs.YtbbaleambgaanaaGreatDoor.Fit.results_obj_two Tryz.results76 HO.out _ w.heap.size rfl _ (Ust.hdV 0 emp emp emp 0 0) GY.out rfl) rfl ⟨rfl, R2.out.out (Out.turned TY.out (Nat.le_refl _) (Nat.lt_succ_self _)) (.inl HS.out.1), U2.out.late TY.out (Nat.le_refl _)⟩
set_option maxRecDepth 100000 in
set_option maxHeartbeats 4000000 in
theorem plast_bad (w : World) (h : Rdr w lo hi q Z E o 0) (hE : E = 11 ∨ E = 4) (h0 : nxE Z E o 0 = 0) (hd : Ust.deE ((Z.drop o).take 512) ≠ 0) :
    Calls Tryz.prog 76 #[.pointer (some ⟨q, 0, none⟩)] w fun e w' => e = .returned (.tuple #[.agg (Ust.hdV 0 emp emp emp 0 0).toArray, .int .i64 o, .int .i64 (Ust.deE ((Z.drop o).take 512))]) ∧ Rdr w' lo hi q Z E (nxO Z o 0) (nxE Z E o 0) ∧ Out lo hi w w' := by
  have HO := Lib.hid hdTp; have HZ := Lib.hid zHp
  have H := Lib.hid h; have HS := Lib.hid h.size; have ZB := Lib.hid h.bd; have HEE := Lib.hid hE
  obtain ⟨V, hV⟩ := named (nxE Z E o 0)
  obtain ⟨O, hO⟩ := named (nxO Z o 0)
  obtain ⟨B, hB⟩ := named ((Z.drop o).take 512)
  rw [← hB.out] at hd
  rw [← hB.out]
  obtain ⟨D, hD⟩ := named (Ust.deE B)
  rw [← hD.out] at hd
  rw [← hD.out]
  have HDE : Hid (D ≠ 0) := hd
  have n0 : (D != 0) = true := by simp [hd]
  rw [← hO.out, ← hV.out]
  obtain ⟨_, hg5⟩ := nx_zero hE h0
  obtain ⟨g1, _, g3⟩ := nx_go (E := E) hg5
  have HV0 : Hid (V = 0) := by show _ = _; rw [hV.out]; exact h0
  have HOO : Hid (O = o + 512) := by show _ = _; rw [hO.out]; exact g3
  rw [← hB.out] at g1
  have HG1 := Lib.hid g1
  have BL : Hid (B.length = 512) := by show _ = _; rw [hB.out, List.length_take, List.length_drop]; omega
  have BB : Hid (Bytes B) := by show Bytes _; rw [hB.out]; exact (ZB.out.2.drop _).take _
  clear h hE h0 hd g1 g3
  go_enter Tryz.func76, Tryz.ntmps76
  go_wp2_with (first | (refine wpList_alloc_obj rfl 56 rfl Ust.hd0 HZ.out ?_; intro w1 h1 b1; have G1 := Lib.hid h1; have B1 := Lib.hid b1; clear h1 b1))
  have R1 := Lib.hid (H.out.below B1.out); have U1 : Hid (Out lo hi w w1) := Out.of_below B1.out (Nat.le_refl _)
  refine (rdr_next_cap w1 R1.out HEE.out).mono ?_; rintro e w2 ⟨b2, c2, rfl, l2, i2, x2, r2, u2⟩
  rw [← hV.out, ← hO.out] at r2
  rw [← hV.out]
  have R2 := Lib.hid r2; have U2 := Lib.hid (U1.out.trans u2); have G2 := Lib.hid (G1.out.out u2 (.inr HS.out.1))
  have I2 := Lib.hid i2; have L2 := Lib.hid l2
  clear l2 i2 x2 r2 u2
  have I2' : Hid (BytesIn w2 b2 B) := by show BytesIn _ _ _; rw [← HG1.out]; exact I2.out.bytes (by rw [HG1.out]; exact BB.out)
  have L2' : Hid (512 ≤ c2 ∧ c2 ≤ maxLen) := by show _ ∧ _; have := L2.out; rw [HG1.out, BL.out] at this; exact this
  rw [HG1.out, BL.out]
  rw [HV0.out]
  go_wp2_with fail
  refine (Ust.dec_any b2 512 c2 B w2 I2'.out BL.out BB.out L2'.out.1 L2'.out.2).mono ?_; rintro e w4 ⟨rfl, b4⟩
  rw [← hD.out]
  have R4 := Lib.hid (R2.out.below b4); have U4 := Lib.hid (U2.out.late_below b4 U2.out.size); have G4 := Lib.hid (G2.out.below b4 G2.out.lt)
  clear b4
  rw [dH_bad (by rw [← hD.out]; exact HDE.out)]
  go_wp2_with (first | (refine wpList_alloc_obj rfl 56 rfl Ust.hd0 HZ.out ?_; intro w5 g5 b5; have X5 := Lib.hid g5; have B5 := Lib.hid b5; clear g5 b5) | (refine wpList_store_obj rfl 56 _ _ rfl w4.heap.size rfl (Ust.hd0) Ust.hd0 rfl 56 X5.out HO.out.2 rfl (hd_one _ _ _ _ _ _) ?_; intro w6 g6 t6; have X6 := Lib.hid g6; have A6 := Lib.hid (B5.out.trans (t6.below (Nat.le_refl _))); have G6 := Lib.hid (G4.out.below A6.out G4.out.lt); clear g6 t6; have e0 := X6.out.get 0 rfl; have e1 := X6.out.get 1 rfl; have e2 := X6.out.get 2 rfl; have e3 := X6.out.get 3 rfl; have e4 := X6.out.get 4 rfl; have e5 := X6.out.get 5 rfl))
  have R6 := Lib.hid (R4.out.below A6.out); have U6 := Lib.hid (U4.out.late_below A6.out U4.out.size)
  refine (last_any w6 R6.out o HOO.out).mono ?_; rintro e w7 ⟨rfl, rfl⟩
  go_wp2_with (first | (refine wpList_store_obj rfl 56 _ _ rfl w.heap.size rfl (Ust.hdV 0 emp emp emp 0 0) Ust.hd0 rfl 56 G6.out HO.out.2 rfl (hd_one _ _ _ _ _ _) ?_; intro wy gy ty; have GY := Lib.hid gy; have TY := Lib.hid ty; clear gy ty))
  exact bodyPost_ret (Go.Proofs.YtbbaleambgaanaaGreatDoor.Fit.results_obj_two Tryz.results76 HO.out _ w.heap.size rfl _ (Ust.hdV 0 emp emp emp 0 0) GY.out rfl) rfl ⟨rfl, R6.out.out (Out.turned TY.out (Nat.le_refl _) (Nat.lt_succ_self _)) (.inl HS.out.1), U6.out.late TY.out (Nat.le_refl _)⟩
set_option maxRecDepth 100000 in
set_option maxHeartbeats 4000000 in
theorem plast_ok (w : World) (h : Rdr w lo hi q Z E o 0) (hE : E = 11 ∨ E = 4) (h0 : nxE Z E o 0 = 0) (hd : Ust.deE ((Z.drop o).take 512) = 0) :
    Calls Tryz.prog 76 #[.pointer (some ⟨q, 0, none⟩)] w fun e w' => e = .returned (.tuple #[.agg (hdW (hdOf ((Z.drop o).take 512))).toArray, .int .i64 0, .int .i64 0]) ∧ Rdr w' lo hi q Z E (nxO Z o 0) (nxE Z E o 0) ∧ Out lo hi w w' := by
  have HO := Lib.hid hdTp; have HZ := Lib.hid zHp
  have H := Lib.hid h; have HS := Lib.hid h.size; have ZB := Lib.hid h.bd; have HEE := Lib.hid hE
  obtain ⟨V, hV⟩ := named (nxE Z E o 0)
  obtain ⟨O, hO⟩ := named (nxO Z o 0)
  obtain ⟨B, hB⟩ := named ((Z.drop o).take 512)
  rw [← hB.out] at hd
  rw [← hB.out]
  show Calls _ _ _ _ fun e w' => e = .returned (.tuple #[.agg (Ust.hdV (Ust.dT B) (Ust.dNm B) (Ust.dPf B) (Ust.dLk B) (Ust.dMd B) (Ust.dSz B)).toArray, .int .i64 0, .int .i64 0]) ∧ _
  obtain ⟨D, hD⟩ := named (Ust.deE B)
  rw [← hD.out] at hd
  have HDE : Hid (D = 0) := hd
  rw [← hO.out, ← hV.out]
  obtain ⟨_, hg5⟩ := nx_zero hE h0
  obtain ⟨g1, _, g3⟩ := nx_go (E := E) hg5
  have HV0 : Hid (V = 0) := by show _ = _; rw [hV.out]; exact h0
  have HOO : Hid (O = o + 512) := by show _ = _; rw [hO.out]; exact g3
  rw [← hB.out] at g1
  have HG1 := Lib.hid g1
  have BL : Hid (B.length = 512) := by show _ = _; rw [hB.out, List.length_take, List.length_drop]; omega
  have BB : Hid (Bytes B) := by show Bytes _; rw [hB.out]; exact (ZB.out.2.drop _).take _
  clear h hE h0 hd g1 g3
  go_enter Tryz.func76, Tryz.ntmps76
  go_wp2_with (first | (refine wpList_alloc_obj rfl 56 rfl Ust.hd0 HZ.out ?_; intro w1 h1 b1; have G1 := Lib.hid h1; have B1 := Lib.hid b1; clear h1 b1))
  have R1 := Lib.hid (H.out.below B1.out); have U1 : Hid (Out lo hi w w1) := Out.of_below B1.out (Nat.le_refl _)
  refine (rdr_next_cap w1 R1.out HEE.out).mono ?_; rintro e w2 ⟨b2, c2, rfl, l2, i2, x2, r2, u2⟩
  rw [← hV.out, ← hO.out] at r2
  rw [← hV.out]
  have R2 := Lib.hid r2; have U2 := Lib.hid (U1.out.trans u2); have G2 := Lib.hid (G1.out.out u2 (.inr HS.out.1))
  have I2 := Lib.hid i2; have L2 := Lib.hid l2
  clear l2 i2 x2 r2 u2
  have I2' : Hid (BytesIn w2 b2 B) := by show BytesIn _ _ _; rw [← HG1.out]; exact I2.out.bytes (by rw [HG1.out]; exact BB.out)
  have L2' : Hid (512 ≤ c2 ∧ c2 ≤ maxLen) := by show _ ∧ _; have := L2.out; rw [HG1.out, BL.out] at this; exact this
  rw [HG1.out, BL.out]
  rw [HV0.out]
  go_wp2_with fail
  refine (Ust.dec_any b2 512 c2 B w2 I2'.out BL.out BB.out L2'.out.1 L2'.out.2).mono ?_; rintro e w4 ⟨rfl, b4⟩
  rw [← hD.out]
  have R4 := Lib.hid (R2.out.below b4); have U4 := Lib.hid (U2.out.late_below b4 U2.out.size); have G4 := Lib.hid (G2.out.below b4 G2.out.lt)
  clear b4
  rw [HDE.out, dH_ok (hD.out.symm.trans HDE.out)]
  go_wp2_with (first | (refine wpList_alloc_obj rfl 56 rfl Ust.hd0 HZ.out ?_; intro w5 g5 b5; have X5 := Lib.hid g5; have B5 := Lib.hid b5; clear g5 b5) | (refine wpList_store_obj rfl 56 _ _ rfl w4.heap.size rfl (Ust.hdV (Ust.dT B) (Ust.dNm B) (Ust.dPf B) (Ust.dLk B) (Ust.dMd B) (Ust.dSz B)) Ust.hd0 rfl 56 X5.out HO.out.2 rfl (hd_one _ _ _ _ _ _) ?_; intro w6 g6 t6; have X6 := Lib.hid g6; have A6 := Lib.hid (B5.out.trans (t6.below (Nat.le_refl _))); have G6 := Lib.hid (G4.out.below A6.out G4.out.lt); clear g6 t6; have e0 := X6.out.get 0 rfl; have e1 := X6.out.get 1 rfl; have e2 := X6.out.get 2 rfl; have e3 := X6.out.get 3 rfl; have e4 := X6.out.get 4 rfl; have e5 := X6.out.get 5 rfl) | (refine wpList_store_obj rfl 56 _ _ rfl w.heap.size rfl (Ust.hdV (Ust.dT B) (Ust.dNm B) (Ust.dPf B) (Ust.dLk B) (Ust.dMd B) (Ust.dSz B)) Ust.hd0 rfl 56 G6.out HO.out.2 rfl (hd_one _ _ _ _ _ _) ?_; intro wy gy ty; have GY := Lib.hid gy; have TY := Lib.hid ty; clear gy ty))
  have R6 := Lib.hid (R4.out.below A6.out); have U6 := Lib.hid (U4.out.late_below A6.out U4.out.size)
  exact bodyPost_ret (Go.Proofs.YtbbaleambgaanaaGreatDoor.Fit.results_obj_two Tryz.results76 HO.out _ w.heap.size rfl _ (Ust.hdV (Ust.dT B) (Ust.dNm B) (Ust.dPf B) (Ust.dLk B) (Ust.dMd B) (Ust.dSz B)) GY.out rfl) rfl ⟨rfl, R6.out.out (Out.turned TY.out (Nat.le_refl _) (Nat.lt_succ_self _)) (.inl HS.out.1), U6.out.late TY.out (Nat.le_refl _)⟩
theorem plast_any (w : World) (h : Rdr w lo hi q Z E o 0) (hE : E = 11 ∨ E = 4) :
    Calls Tryz.prog 76 #[.pointer (some ⟨q, 0, none⟩)] w fun e w' => e = .returned (.tuple #[.agg (hdW (lsH Z E o)).toArray, .int .i64 (lsP Z E o : Nat), .int .i64 (lsE Z E o)]) ∧ Rdr w' lo hi q Z E (nxO Z o 0) (nxE Z E o 0) ∧ Out lo hi w w' := by
  by_cases h0 : nxE Z E o 0 = 0
  · by_cases hd : Ust.deE ((Z.drop o).take 512) = 0
    · obtain ⟨e1, e2, e3⟩ := ls_ok h0 hd
      rw [e1, e2, e3]; exact plast_ok w h hE h0 hd
    · obtain ⟨e1, e2, e3⟩ := ls_bad h0 hd
      rw [e1, e2, e3]; exact plast_bad w h hE h0 hd
  · obtain ⟨e1, e2, e3, _⟩ := ls_next h0
    rw [e2, e3]
    by_cases h4 : nxE Z E o 0 = 4
    · rw [e1, if_pos h4]; exact plast_five w h hE h4
    · rw [e1, if_neg h4]; exact plast_next w h hE h4 h0
end
end Go.Proofs.YtbbaleambgaanaaGreatDoor.Etr
namespace Go.Proofs.YtbbaleambgaanaaGreatDoor.Etr
open Go.RowKit Go.Proofs.YtbbaleambgaanaaGreatDoor.Fit Pxr Pnm
theorem results_obj_three {P : Program} {w : World} {fn : Func} {p q r s : Tmp} {T : TypeId} {n : Nat} (h : fn.results = #[.cell p T, .tmp q, .tmp r, .tmp s]) (hT : ObjT P T n) (tmps : Array Value) (g : Nat) (hp : tmps.getD p undef = .pointer (some ⟨g, 0, none⟩))
    (T' : TypeId) (vs : List Value) (hg : ObjAt w g T' vs) (hl : vs.length = n) : (results fn tmps).run P w = .ok (.tuple #[.agg vs.toArray, tmps.getD q undef, tmps.getD r undef, tmps.getD s undef]) w := by
  have hp' : tmps[p]?.getD undef = .pointer (some ⟨g, 0, none⟩) := by simpa using hp
  simp [results, h, hp', asAddr, run_load_obj hT g T' vs hg hl]
def RetEx (h : Hd) (rs : List Rec) (p : Int) (e : Int) (w : World) (x : Ending) (w' : World) : Prop :=
  ∃ b n c, x = .returned (.tuple #[.agg (hdW h).toArray, .slice b n c, .int .i64 p, .int .i64 e]) ∧ rs.length = n ∧ n ≤ c ∧ c ≤ maxLen ∧ RecsIn w' b rs ∧ ∀ x, b = some x → w.heap.size ≤ x.block
section
variable {lo hi q B : Nat} {Z : List Int} {E : Int} {o : Nat} {nm pf lk : ByteArray} {md sz : Int}
set_option maxRecDepth 100000 in
set_option maxHeartbeats 4000000 in
theorem pext_bad (w : World) (h : Rdr w lo hi q Z E (o + 512) 0) (hEE : E = 11 ∨ E = 4) (V : MV B w) (hB : B ≤ lo) (hr : rcE Z E o ⟨120, nm, pf, lk, md, sz⟩ ≠ 0) :
    Calls Tryz.prog 37 #[.pointer (some ⟨q, 0, none⟩), .agg (Ust.hdV 120 nm pf lk md sz).toArray] w fun e w' => RetEx hz [] (rcP Z E o ⟨120, nm, pf, lk, md, sz⟩ : Nat) (rcE Z E o ⟨120, nm, pf, lk, md, sz⟩) w e w' ∧ Rdr w' lo hi q Z E (rcO Z o ⟨120, nm, pf, lk, md, sz⟩) (rcS Z E o ⟨120, nm, pf, lk, md, sz⟩) ∧ Out lo hi w w' := by
  have HO := Lib.hid hdTp; have HZ := Lib.hid zHp
  have H := Lib.hid h; have HS := Lib.hid h.size; have HEE := Lib.hid hEE; have HV := Lib.hid V; have HB := Lib.hid hB
  obtain ⟨L, hL⟩ := named (rcE Z E o ⟨120, nm, pf, lk, md, sz⟩)
  obtain ⟨P, hP⟩ := named (rcP Z E o ⟨120, nm, pf, lk, md, sz⟩)
  rw [← hL.out] at hr
  rw [← hL.out, ← hP.out]
  have n0 : (L != 0) = true := by simp [hr]
  clear h hEE V hB hr
  go_enter Tryz.func37, Tryz.ntmps37
  go_wp2_with (first | (refine wpList_box_obj rfl 56 _ rfl (Ust.hdV 120 nm pf lk md sz) rfl ?_; intro w1 h1 b1; have H1 := Lib.hid h1; have B1 := Lib.hid b1; clear h1 b1) | (refine wpList_alloc_obj rfl 56 rfl Ust.hd0 HZ.out ?_; intro w2 h2 b2; have G2 := Lib.hid h2; have B2 := Lib.hid (belT B1.out b2); have H2 := Lib.hid (H1.out.below b2 H1.out.lt); have c0 := H2.out.get 0 rfl; have c1 := H2.out.get 1 rfl; have c2 := H2.out.get 2 rfl; have c3 := H2.out.get 3 rfl; have c4 := H2.out.get 4 rfl; have c5 := H2.out.get 5 rfl; clear h2 b2))
  have R2 := Lib.hid (H.out.below B2.out); have U2 : Hid (Out lo hi w w2) := Out.of_below B2.out (Nat.le_refl _)
  have V2 := Lib.hid (HV.out.go B2.out)
  have LG : Hid (hi ≤ w1.heap.size ∧ w.heap.size ≤ w1.heap.size) := ⟨Nat.le_trans HS.out.1 B1.out.size, B1.out.size⟩
  refine (prec_any w2 R2.out HEE.out V2.out HB.out).mono ?_; rintro e w3 ⟨⟨a3, n3, c3', rfl, l3, f3, g3, y3, x3⟩, r3, u3⟩
  rw [← hL.out, ← hP.out]
  have R3 := Lib.hid r3; have U3 := Lib.hid (U2.out.trans u3)
  have G3 := Lib.hid (G2.out.out u3 (.inr LG.out.1))
  clear c0 c1 c2 c3 c4 c5 l3 f3 g3 y3 x3 r3 u3
  go_wp2_with (first | (refine wpList_store_obj rfl 56 _ _ rfl w1.heap.size rfl (Ust.hdV 0 emp emp emp 0 0) Ust.hd0 rfl 56 G3.out HO.out.2 rfl (hd_one _ _ _ _ _ _) ?_; intro wy gy ty; have GY := Lib.hid gy; have TY := Lib.hid ty; clear gy ty))
  exact bodyPost_ret (results_obj_three Tryz.results37 HO.out _ w1.heap.size rfl _ (Ust.hdV 0 emp emp emp 0 0) GY.out rfl) rfl ⟨⟨none, 0, 0, rfl, rfl, Nat.le_refl _, Nat.zero_le _, .inl rfl, fun x hx => by cases hx⟩, R3.out.out (Out.turned TY.out (Nat.le_refl _) (Nat.lt_succ_self _)) (.inl LG.out.1), U3.out.late TY.out LG.out.2⟩
set_option maxRecDepth 100000 in
set_option maxHeartbeats 4000000 in
theorem pext_last (w : World) (h : Rdr w lo hi q Z E (o + 512) 0) (hEE : E = 11 ∨ E = 4) (V : MV B w) (hB : B ≤ lo) (hr : rcE Z E o ⟨120, nm, pf, lk, md, sz⟩ = 0) (O : Nat) (hO : O = rcO Z o ⟨120, nm, pf, lk, md, sz⟩) (hl : lsE Z E O ≠ 0) :
    Calls Tryz.prog 37 #[.pointer (some ⟨q, 0, none⟩), .agg (Ust.hdV 120 nm pf lk md sz).toArray] w fun e w' => RetEx hz [] (lsP Z E O : Nat) (lsE Z E O) w e w' ∧ Rdr w' lo hi q Z E (nxO Z O 0) (nxE Z E O 0) ∧ Out lo hi w w' := by
  have HO := Lib.hid hdTp; have HZ := Lib.hid zHp
  have H := Lib.hid h; have HS := Lib.hid h.size; have HEE := Lib.hid hEE; have HV := Lib.hid V; have HB := Lib.hid hB
  have HR0 := Lib.hid hr; have HOO := Lib.hid hO
  have HR5 := Lib.hid (rc_zero hEE hr).2.2.2.1
  obtain ⟨L, hL⟩ := named (lsE Z E O)
  obtain ⟨P, hP⟩ := named (lsP Z E O)
  rw [← hL.out] at hl
  rw [← hL.out, ← hP.out]
  have n0 : (L != 0) = true := by simp [hl]
  obtain ⟨PP, hPP⟩ := named (rcP Z E o ⟨120, nm, pf, lk, md, sz⟩)
  clear h hEE V hB hr hO hl
  go_enter Tryz.func37, Tryz.ntmps37
  go_wp2_with (first | (refine wpList_box_obj rfl 56 _ rfl (Ust.hdV 120 nm pf lk md sz) rfl ?_; intro w1 h1 b1; have H1 := Lib.hid h1; have B1 := Lib.hid b1; clear h1 b1) | (refine wpList_alloc_obj rfl 56 rfl Ust.hd0 HZ.out ?_; intro w2 h2 b2; have G2 := Lib.hid h2; have B2 := Lib.hid (belT B1.out b2); have H2 := Lib.hid (H1.out.below b2 H1.out.lt); have c0 := H2.out.get 0 rfl; have c1 := H2.out.get 1 rfl; have c2 := H2.out.get 2 rfl; have c3 := H2.out.get 3 rfl; have c4 := H2.out.get 4 rfl; have c5 := H2.out.get 5 rfl; clear h2 b2))
  have R2 := Lib.hid (H.out.below B2.out); have U2 : Hid (Out lo hi w w2) := Out.of_below B2.out (Nat.le_refl _)
  have V2 := Lib.hid (HV.out.go B2.out)
  have LG : Hid (hi ≤ w1.heap.size ∧ w.heap.size ≤ w1.heap.size) := ⟨Nat.le_trans HS.out.1 B1.out.size, B1.out.size⟩
  refine (prec_any w2 R2.out HEE.out V2.out HB.out).mono ?_; rintro e w3 ⟨⟨a3, n3, c3', rfl, l3, f3, g3, y3, x3⟩, r3, u3⟩
  rw [HR0.out, ← hPP.out]
  rw [HR5.out, ← HOO.out] at r3
  have R3 := Lib.hid r3; have U3 := Lib.hid (U2.out.trans u3)
  have G3 := Lib.hid (G2.out.out u3 (.inr LG.out.1))
  clear c0 c1 c2 c3 c4 c5 l3 f3 g3 y3 x3 r3 u3
  go_wp2_with fail
  refine (plast_any w3 R3.out HEE.out).mono ?_; rintro e w4 ⟨rfl, r4, u4⟩
  rw [← hL.out, ← hP.out]
  obtain ⟨LH, hLH⟩ := named (lsH Z E O)
  rw [← hLH.out]
  obtain ⟨hT, hnm, hpf, hlk, hmd, hsz⟩ := LH
  have R4 := Lib.hid r4; have U4 := Lib.hid (U3.out.trans u4)
  have G4 := Lib.hid (G3.out.out u4 (.inr LG.out.1))
  clear r4 u4
  go_wp2_with (first | (refine wpList_alloc_obj rfl 56 rfl Ust.hd0 HZ.out ?_; intro w5 g5 b5; have X5 := Lib.hid g5; have B5 := Lib.hid b5; clear g5 b5) | (refine wpList_store_obj rfl 56 _ _ rfl w4.heap.size rfl (Ust.hdV hT hnm hpf hlk hmd hsz) Ust.hd0 rfl 56 X5.out HO.out.2 rfl (hd_one _ _ _ _ _ _) ?_; intro w6 g6 t6; have X6 := Lib.hid g6; have A6 := Lib.hid (B5.out.trans (t6.below (Nat.le_refl _))); have G6 := Lib.hid (G4.out.below A6.out G4.out.lt); clear g6 t6) | (refine wpList_store_obj rfl 56 _ _ rfl w1.heap.size rfl (Ust.hdV 0 emp emp emp 0 0) Ust.hd0 rfl 56 G6.out HO.out.2 rfl (hd_one _ _ _ _ _ _) ?_; intro wy gy ty; have GY := Lib.hid gy; have TY := Lib.hid ty; clear gy ty))
  have R6 := Lib.hid (R4.out.below A6.out); have U6 := Lib.hid (U4.out.late_below A6.out U4.out.size)
  exact bodyPost_ret (results_obj_three Tryz.results37 HO.out _ w1.heap.size rfl _ (Ust.hdV 0 emp emp emp 0 0) GY.out rfl) rfl ⟨⟨none, 0, 0, rfl, rfl, Nat.le_refl _, Nat.zero_le _, .inl rfl, fun x hx => by cases hx⟩, R6.out.out (Out.turned TY.out (Nat.le_refl _) (Nat.lt_succ_self _)) (.inl LG.out.1), U6.out.late TY.out LG.out.2⟩
set_option maxRecDepth 100000 in
set_option maxHeartbeats 4000000 in
theorem pext_ok (w : World) (h : Rdr w lo hi q Z E (o + 512) 0) (hEE : E = 11 ∨ E = 4) (V : MV B w) (hB : B ≤ lo) (hr : rcE Z E o ⟨120, nm, pf, lk, md, sz⟩ = 0) (O : Nat) (hO : O = rcO Z o ⟨120, nm, pf, lk, md, sz⟩) (hl : lsE Z E O = 0) :
    Calls Tryz.prog 37 #[.pointer (some ⟨q, 0, none⟩), .agg (Ust.hdV 120 nm pf lk md sz).toArray] w fun e w' => RetEx (lsH Z E O) (rcR Z E o ⟨120, nm, pf, lk, md, sz⟩) 0 0 w e w' ∧ Rdr w' lo hi q Z E (nxO Z O 0) (nxE Z E O 0) ∧ Out lo hi w w' := by
  have HO := Lib.hid hdTp; have HZ := Lib.hid zHp
  have H := Lib.hid h; have HS := Lib.hid h.size; have HEE := Lib.hid hEE; have HV := Lib.hid V; have HB := Lib.hid hB
  have HR0 := Lib.hid hr; have HOO := Lib.hid hO
  have HR5 := Lib.hid (rc_zero hEE hr).2.2.2.1
  have HL0 := Lib.hid hl
  obtain ⟨P, hP⟩ := named (lsP Z E O)
  obtain ⟨PP, hPP⟩ := named (rcP Z E o ⟨120, nm, pf, lk, md, sz⟩)
  obtain ⟨RS, hRS⟩ := named (rcR Z E o ⟨120, nm, pf, lk, md, sz⟩)
  obtain ⟨LH, hLH⟩ := named (lsH Z E O)
  rw [← hRS.out, ← hLH.out]
  obtain ⟨hT, hnm, hpf, hlk, hmd, hsz⟩ := LH
  clear h hEE V hB hr hO hl
  go_enter Tryz.func37, Tryz.ntmps37
  go_wp2_with (first | (refine wpList_box_obj rfl 56 _ rfl (Ust.hdV 120 nm pf lk md sz) rfl ?_; intro w1 h1 b1; have H1 := Lib.hid h1; have B1 := Lib.hid b1; clear h1 b1) | (refine wpList_alloc_obj rfl 56 rfl Ust.hd0 HZ.out ?_; intro w2 h2 b2; have G2 := Lib.hid h2; have B2 := Lib.hid (belT B1.out b2); have H2 := Lib.hid (H1.out.below b2 H1.out.lt); have c0 := H2.out.get 0 rfl; have c1 := H2.out.get 1 rfl; have c2 := H2.out.get 2 rfl; have c3 := H2.out.get 3 rfl; have c4 := H2.out.get 4 rfl; have c5 := H2.out.get 5 rfl; clear h2 b2))
  have R2 := Lib.hid (H.out.below B2.out); have U2 : Hid (Out lo hi w w2) := Out.of_below B2.out (Nat.le_refl _)
  have V2 := Lib.hid (HV.out.go B2.out)
  have LG : Hid (hi ≤ w1.heap.size ∧ w.heap.size ≤ w1.heap.size) := ⟨Nat.le_trans HS.out.1 B1.out.size, B1.out.size⟩
  refine (prec_any w2 R2.out HEE.out V2.out HB.out).mono ?_; rintro e w3 ⟨⟨a3, n3, c3', rfl, l3, f3, g3, y3, x3⟩, r3, u3⟩
  rw [HR0.out, ← hPP.out]
  rw [HR5.out, ← HOO.out] at r3
  rw [← hRS.out] at l3 y3
  have R3 := Lib.hid r3; have U3 := Lib.hid (U2.out.trans u3)
  have G3 := Lib.hid (G2.out.out u3 (.inr LG.out.1))
  have HN3 := Lib.hid l3; have HF3 := Lib.hid f3; have HG3 := Lib.hid g3; have HY3 := Lib.hid y3; have HX3 : Hid (∀ x, a3 = some x → hi ≤ x.block ∧ w.heap.size ≤ x.block ∧ w1.heap.size + 1 ≤ x.block) := fun x hx => ⟨Nat.le_trans (Nat.le_trans HS.out.1 B2.out.size) (x3 x hx), Nat.le_trans B2.out.size (x3 x hx), Nat.le_trans G2.out.lt (x3 x hx)⟩
  clear c0 c1 c2 c3 c4 c5 l3 f3 g3 y3 x3 r3 u3
  go_wp2_with fail
  refine (plast_any w3 R3.out HEE.out).mono ?_; rintro e w4 ⟨rfl, r4, u4⟩
  rw [HL0.out, ← hP.out, ← hLH.out]
  have R4 := Lib.hid r4; have U4 := Lib.hid (U3.out.trans u4)
  have G4 := Lib.hid (G3.out.out u4 (.inr LG.out.1))
  have HY4 := Lib.hid (HY3.out.out u4 (fun x hx => (HX3.out x hx).1))
  clear r4 u4
  go_wp2_with (first | (refine wpList_alloc_obj rfl 56 rfl Ust.hd0 HZ.out ?_; intro w5 g5 b5; have X5 := Lib.hid g5; have B5 := Lib.hid b5; clear g5 b5) | (refine wpList_store_obj rfl 56 _ _ rfl w4.heap.size rfl (Ust.hdV hT hnm hpf hlk hmd hsz) Ust.hd0 rfl 56 X5.out HO.out.2 rfl (hd_one _ _ _ _ _ _) ?_; intro w6 g6 t6; have X6 := Lib.hid g6; have A6 := Lib.hid (B5.out.trans (t6.below (Nat.le_refl _))); have G6 := Lib.hid (G4.out.below A6.out G4.out.lt); clear g6 t6; have e0 := X6.out.get 0 rfl; have e1 := X6.out.get 1 rfl; have e2 := X6.out.get 2 rfl; have e3 := X6.out.get 3 rfl; have e4 := X6.out.get 4 rfl; have e5 := X6.out.get 5 rfl) | (refine wpList_store_obj rfl 56 _ _ rfl w1.heap.size rfl (Ust.hdV hT hnm hpf hlk hmd hsz) Ust.hd0 rfl 56 G6.out HO.out.2 rfl (hd_one _ _ _ _ _ _) ?_; intro wy gy ty; have GY := Lib.hid gy; have TY := Lib.hid ty; clear gy ty))
  have R6 := Lib.hid (R4.out.below A6.out); have U6 := Lib.hid (U4.out.late_below A6.out U4.out.size)
  have HY6 := Lib.hid ((HY4.out.below A6.out).out (Out.turned TY.out (Nat.le_refl _) (Nat.lt_succ_self _)) (fun x hx => (HX3.out x hx).2.2))
  exact bodyPost_ret (results_obj_three Tryz.results37 HO.out _ w1.heap.size rfl _ (Ust.hdV hT hnm hpf hlk hmd hsz) GY.out rfl) rfl ⟨⟨a3, n3, c3', rfl, HN3.out, HF3.out, HG3.out, HY6.out, fun x hx => (HX3.out x hx).2.1⟩, R6.out.out (Out.turned TY.out (Nat.le_refl _) (Nat.lt_succ_self _)) (.inl LG.out.1), U6.out.late TY.out LG.out.2⟩
end
end Go.Proofs.YtbbaleambgaanaaGreatDoor.Etr
