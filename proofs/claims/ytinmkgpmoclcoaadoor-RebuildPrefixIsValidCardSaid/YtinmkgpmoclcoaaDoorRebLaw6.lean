/-
  The statement RebuildPrefixIsValid: a walk. (gen_RebLaw6.py writes it.)
-/
import Derived.Test.YtinmkgpmoclcoaaDoorRebUse
import Derived.Test.YtinmkgpmoclcoaaDoorFltPMem
import Derived.Test.YtinmkgpmoclcoaaDoorPz14
import Derived.Test.YtinmkgpmoclcoaaDoorPz11
import Derived.Test.YtinmkgpmoclcoaaDoorTreRCan
namespace Go.Proofs.YtinmkgpmoclcoaaDoor
open Go.RowKit Go.Proofs.YtinmkgpmoclcoaaDoor.Fit Pnm Tre Flt Reb

set_option maxRecDepth 100000 in
set_option maxHeartbeats 8000000 in
theorem walk_RebuildPrefixIsValid (a : Option Addr) (n cap : Nat) (ys : List NdS) (u : Int) (w : World) (V : Pxr.Vars w) (ha : ArgNds w a n cap ys) (hu8 : (Lit.int .u8 u).wf = true) :
    Calls Tryd.prog 8 #[.slice a n cap, .int .u8 u] w fun e w' => e = .returned (.bool true) ∧ Below w.heap.size w w' := by
  have HV := Lib.hid (FVars.mk V)
  have HA := Lib.hid ha
  have MZ := Lib.hid zMb
  have MT := Lib.hid mbT
  have U8 : 0 ≤ u ∧ u ≤ 255 := by
    have e1 : IntKind.u8.min = 0 := by decide
    have e2 : IntKind.u8.max = 255 := by decide
    simp [Lit.wf] at hu8
    omega
  obtain ⟨u0, u1⟩ := U8
  clear V ha hu8
  go_enter Tryd.func8, Tryd.ntmps8
  go_wp2_with fail
  refine (Tre.large_any a n cap ys w HA.out).mono ?_; rintro e w1 ⟨R, rfl, hR, b1⟩
  have B1 := Lib.hid b1
  clear b1
  rcases hR with rfl | ⟨rfl, h40, _⟩
  · go_wp2_with fail
    refine (Reb.alive_any w1 (HV.out.go B1.out)).mono ?_; rintro e w2 ⟨rfl, b2⟩
    have B2 := Lib.hid (belT B1.out b2)
    go_wp2
    go_ret
    exact ⟨rfl, B2.out⟩
  have H1 := Lib.hid h40
  clear h40
  go_wp2_with fail
  refine (pmem_any a n cap ys w1 (HV.out.go B1.out) (HA.out.below B1.out) H1.out).mono ?_; rintro e w2 ⟨b, k, c, us, X1, X2, rfl, h1, h2, hm, hu, b2⟩
  have B2 := Lib.hid (belT B1.out b2); have HM := Lib.hid hm; have HU := Lib.hid hu; have E2 := Lib.hid h2
  clear b2 hm hu h1 h2
  go_wp2_with fail
  refine (new_any w2).mono ?_; rintro e w3 ⟨S, g, rfl, p3, s3, b3⟩
  have P3 := Lib.hid p3; have S3 := Lib.hid s3; have B3 := Lib.hid b3
  clear p3 s3 b3
  by_cases x0 : ¬ X2 = 0
  · have nx : (X2 != 0) = true := by simpa using x0
    go_wp2_with fail
    refine (Reb.alive_any w3 (HV.out.go (belT B2.out B3.out))).mono ?_; rintro e w4 ⟨rfl, b4⟩
    have B4 := Lib.hid (belT (belT B2.out B3.out) b4)
    go_wp2
    go_ret
    exact ⟨rfl, B4.out⟩
  obtain rfl : X2 = 0 := Decidable.not_not.mp x0
  clear x0
  obtain ⟨hC, hR⟩ := mbR_good E2.out.symm
  have HC := Lib.hid hC
  have HU2 : Hid (mms us = Flt.mbs (canon (nds ys))) := HU.out.trans hR
  have KN : Hid (k = n) := by
    have h1 := congrArg List.length HU2.out
    rw [mms_len, Flt.mbs_len, canon_len, nds_len, HM.out.n, HA.out.n] at h1
    exact h1
  clear hC hR HU E2
  obtain ⟨q, hq⟩ := named (u.toNat % (k + 1))
  have eq : u % ((k : Int) + 1) = (q : Int) := by
    rw [hq.out, Int.natCast_emod, Int.toNat_of_nonneg u0]; rfl
  have qk : q ≤ k := by rw [hq.out]; have := Nat.mod_lt u.toNat (show 0 < k + 1 by omega); omega
  have QL : Hid (q ≤ 40) := by show _ ≤ _; have := H1.out; have := KN.out; omega
  have QN : Hid (q ≤ n) := by show _ ≤ _; have := KN.out; omega
  have q0 : (0 : Int) ≤ q := by omega
  have qki : (q : Int) ≤ k := by omega
  have kci : (k : Int) ≤ c := by have := HM.out.c; omega
  have k40 : (k : Int) ≤ 40 := by have := H1.out; have := KN.out; omega
  have QK := Lib.hid qk
  clear hq
  go_wp2_with fail
  rw [eq]
  clear eq
  go_loopw [43] (fun i wr => ∃ (j : Nat) (S' : Nat → Prop), i = .int .i64 j ∧ j ≤ q ∧ (∀ q, S' q → w2.heap.size ≤ q) ∧ PBd wr S' g ((mms us).take j) ∧ Below w2.heap.size w2 wr) (fun i _ => q - (intOf i).toNat)
  case atStart => exact ⟨0, S, rfl, Nat.zero_le _, S3.out, P3.out, B3.out⟩
  case round =>
    obtain ⟨j, S', rfl, hj, hS, hP, hB⟩ := hrel
    have HS := Lib.hid hS; have HP := Lib.hid hP; have HB := Lib.hid hB
    clear hS hP hB
    by_cases hjn : j < q
    · have jk := Nat.lt_of_lt_of_le hjn QK.out
      obtain ⟨bb, off, y, hbe, hbl, hy, hf, hat⟩ := HM.out.get j jk
      subst hbe
      have HY := Lib.hid hy; have HF := Lib.hid hf; have AT := Lib.hid (at_row (hat.below HB.out hbl) hy)
      have ADD := Lib.hid (can_add HC.out HU2.out hy)
      have j1 : (j : Int) < q := by omega
      have j2 : (j : Int) < k := by omega
      have JL : Hid (((mms us).take j).length ≤ 1000) := by
        show _ ≤ _
        have := H1.out; have := KN.out
        rw [List.length_take]; omega
      clear hbl hy hf hat
      go_wp2_with (first | (refine wpList_load_part rfl 30 6 MT.out _ rfl bb (off + j * 6) rfl (mbV y) rfl AT.out ?_) | (refine wpList_alloc_obj rfl 30 rfl (mbC 0 emp 0 emp 0 none 0 0) MZ.out ?_; intro w5 g5 b5; have G5 := Lib.hid g5; have B5 := Lib.hid b5; clear g5 b5) | (refine wpList_store_obj rfl 30 _ _ rfl wr.heap.size rfl (mbV y) (mbC 0 emp 0 emp 0 none 0 0) rfl 30 G5.out MT.out.2 rfl (mb_one _ _ _ _ _ _ _ _) ?_; intro w6 g6 t6; have G6 := Lib.hid g6; have B6 := Lib.hid (B5.out.trans (t6.below (Nat.le_refl _))); clear g6 t6) | (refine wpList_load_obj rfl 30 6 MT.out _ rfl wr.heap.size rfl 30 (mbV y) G6.out rfl ?_))
      have BW := Lib.hid (HB.out.trans (B6.out.mono HB.out.size))
      refine (pbadd_any (HP.out.below B6.out) (HV.out.go (belT B2.out BW.out)) y (HF.out.below BW.out) (Reb.MbF.off HF.out HS.out) JL.out).mono ?_; intro e w7 hq
      obtain ⟨rfl, _, b7, S7, s7, _, p7⟩ := hq.go ADD.out HS.out BW.out
      rw [if_pos rfl, take_next HY.out] at p7
      have P7 := Lib.hid p7; have S7' := Lib.hid s7; have B7 := Lib.hid b7
      clear hq p7 s7 b7
      go_wp2_with fail
      go_round
      case rel => exact ⟨j + 1, S7, by go_num, by omega, S7'.out, P7.out, B7.out⟩
      case measure => simp [intOf]; omega
    · obtain rfl : j = q := by omega
      have HP5 := Lib.hid HP.out
      have BW := Lib.hid (belT B2.out HB.out)
      clear HP hj hjn
      go_wp2_with fail
      refine (rcanon_any a n cap ys wr (HA.out.below BW.out) (Nat.le_trans H1.out (by decide))).mono ?_; rintro e w7 ⟨a7, c7, vs, rfl, hv, hvn, _, _, b7⟩
      have HV7 := Lib.hid hv; have HVN := Lib.hid hvn; have P7 := Lib.hid (HP5.out.below b7)
      have B7 := Lib.hid (belT BW.out b7)
      have jn : (j : Int) ≤ n := by have := QN.out; omega
      have n7 : (n : Int) ≤ c7 := by have := hv.c; omega
      have j7 : (j : Int) ≤ c7 := by omega
      have j8 : (0 : Int) ≤ j := by omega
      clear hv hvn b7 HP5
      go_wp2_with fail
      have PL : Hid (((mms us).take j).length ≤ 40) := by
        show _ ≤ _
        have := QL.out
        rw [List.length_take]; omega
      have PN : Hid (((mms us).take j).length = j) := by
        show _ = _
        rw [List.length_take, mms_len, HM.out.n]; omega
      have GD : Hid (Gd ((mms us).take j)) := by
        have := gd_take (can_gd HC.out) j
        rw [← HU2.out] at this
        exact this
      have NDS : Hid (∀ w', PBd w' S' g ((mms us).take j) → Calls Tryd.prog 11 #[.pointer (some ⟨g, 0, none⟩)] w' (NdsP w' ((mms us).take j) j)) := fun w' h => by
        have := pbnds_any h PL.out
        rw [PN.out] at this
        exact this
      refine (NDS.out _ P7.out).mono ?_; rintro e w8 ⟨a8, c8, zs, rfl, hz, hzn, _, _, b8⟩
      have B8 := Lib.hid (belT B7.out b8)
      have HZ := Lib.hid hz; have P8 := Lib.hid (P7.out.below b8); have HV8 := Lib.hid (HV7.out.below b8)
      have CK : Hid (chk (nds zs) = ((j : Int), 0)) := by
        show _ = _
        rw [hzn, GD.out.strict.2.2, PN.out]
      clear hz hzn b8 P7 HV7
      go_wp2_with fail
      refine (pchk_any a8 _ c8 zs w8 (HV.out.go B8.out) HZ.out).mono ?_; rintro e w9 ⟨rfl, b9⟩
      rw [CK.out]
      have B9 := Lib.hid (belT B8.out b9)
      have P9 := Lib.hid (P8.out.below b9); have HV9 := Lib.hid (HV8.out.below b9)
      clear b9 P8 HV8
      have TK : Hid (ArgNds w9 a7 j c7 (vs.take j)) := ⟨by rw [List.length_take, HV9.out.n]; have := QN.out; omega, Nat.le_trans QN.out HV9.out.c, HV9.out.m, HV9.out.r.take j, fun z hz => HV9.out.s z (List.mem_of_mem_take hz)⟩
      have EQ : Hid (canon (ndsOf ((mms us).take j)) = canon (nds (vs.take j))) := by
        show _ = _
        rw [HU2.out, can_prefix HC.out (by rw [canon_len, nds_len, HA.out.n]; exact QN.out)]
        congr 1
        rw [← HVN.out]; unfold nds; rw [List.map_take]
      have D0 : Hid (Below w9.heap.size w9 w9.drew) := (Below.refl _ _).drew
      go_wp2_with fail
      refine wp_region_held_drew (S := (fun _ => True)) (by kernel_rfl) (True.intro) (fun hHeld => ?_)
      refine wpAnyH_ready (rs := [0]) (by kernel_rfl) (by simp) ?_
      refine AllReadyH.cons (o := { dst := some 64, op := Go.Op.call { callee := Go.Callee.value (Go.Operand.func 13), args := #[], argTypes := #[] }, type := 4, pos := "law.go:171", after := #[], guard := none }) rfl (fun K hK => ?_) AllReadyH.nil
      go_simp
      refine (Reb.alive_any _ (HV.out.go (B9.out.trans (D0.out.mono B9.out.size)))).mono ?_; rintro e z1 ⟨rfl, b1⟩
      have D1 : Hid (Below w9.heap.size w9 z1) := D0.out.trans (b1.mono (Nat.le_refl _))
      clear b1
      go_wp2_with fail
      refine hK.out _ _ (True.intro) (fun hHeld => ?_)
      clear hK K
      (try simp only [Act.put, List.setIfInBounds_toArray, List.set_cons_zero, List.set_cons_succ])
      refine wpAnyH_take (i := 1) (oi := { dst := some 65, op := Go.Op.move (Go.Operand.tmp 64), type := 4, pos := "law.go:171", after := #[{ on := 0, ground := Go.Ground.data }, { on := 0, ground := Go.Ground.chain }], guard := none }) (v := ?_) rfl (by kernel_rfl) (by kernel_rfl) (by kernel_rfl) (fun _ _ _ h => h) (Or.inl ⟨by rfl, ?_⟩) (by assumption) ?_
      rotate_left 1
      focus ((intro wS hSw; (try dsimp only at hSw); go_simp) <;> (try with_reducible rfl))
      simp only [Act.put, List.setIfInBounds_toArray, List.set_cons_zero, List.set_cons_succ]
      refine wpAnyH_take (i := 2) (oi := { dst := some 66, op := Go.Op.move (Go.Operand.tmp 14), type := 24, pos := "law.go:171", after := #[{ on := 1, ground := Go.Ground.guard }], guard := some (1, true) }) (v := ?_) rfl (by kernel_rfl) (by kernel_rfl) (by kernel_rfl) (fun _ _ _ h => h) (Or.inl ⟨by rfl, ?_⟩) (by assumption) ?_
      rotate_left 1
      focus ((intro wS hSw; (try dsimp only at hSw); go_simp) <;> (try with_reducible rfl))
      simp only [Act.put, List.setIfInBounds_toArray, List.set_cons_zero, List.set_cons_succ]
      refine wpAnyH_take (i := 3) (oi := { dst := some 67, op := Go.Op.binOp Go.BinOp.eql 24 (Go.Operand.tmp 66) (Go.Operand.const (Go.Value.int Go.IntKind.i64 0)) 24, type := 4, pos := "law.go:171", after := #[{ on := 2, ground := Go.Ground.data }, { on := 1, ground := Go.Ground.guard }], guard := some (1, true) }) (v := ?_) rfl (by kernel_rfl) (by kernel_rfl) (by kernel_rfl) (fun _ _ _ h => h) (Or.inl ⟨by rfl, ?_⟩) (by assumption) ?_
      rotate_left 1
      focus ((intro wS hSw; (try dsimp only at hSw); go_simp) <;> (try with_reducible rfl))
      simp only [Act.put, List.setIfInBounds_toArray, List.set_cons_zero, List.set_cons_succ]
      refine wpAnyH_take (i := 4) (oi := { dst := some 68, op := Go.Op.pick (Go.Operand.tmp 65) (Go.Operand.tmp 67) (Go.Operand.const (Go.Value.bool false)), type := 4, pos := "law.go:171", after := #[{ on := 1, ground := Go.Ground.data }, { on := 3, ground := Go.Ground.data }], guard := none }) (v := ?_) rfl (by kernel_rfl) (by kernel_rfl) (by kernel_rfl) (fun _ _ _ h => h) (Or.inl ⟨by rfl, ?_⟩) (by assumption) ?_
      rotate_left 1
      focus ((intro wS hSw; (try dsimp only at hSw); go_simp) <;> (try with_reducible rfl))
      simp only [Act.put, List.setIfInBounds_toArray, List.set_cons_zero, List.set_cons_succ]
      refine wpAnyH_take (i := 5) (oi := { dst := some 69, op := Go.Op.move (Go.Operand.tmp 68), type := 4, pos := "law.go:171", after := #[{ on := 4, ground := Go.Ground.data }, { on := 1, ground := Go.Ground.chain }], guard := none }) (v := ?_) rfl (by kernel_rfl) (by kernel_rfl) (by kernel_rfl) (fun _ _ _ h => h) (Or.inl ⟨by rfl, ?_⟩) (by assumption) ?_
      rotate_left 1
      focus ((intro wS hSw; (try dsimp only at hSw); go_simp) <;> (try with_reducible rfl))
      simp only [Act.put, List.setIfInBounds_toArray, List.set_cons_zero, List.set_cons_succ]
      refine wpAnyH_take (i := 6) (oi := { dst := some 70, op := Go.Op.move (Go.Operand.tmp 13), type := 3, pos := "law.go:171", after := #[{ on := 5, ground := Go.Ground.guard }], guard := some (5, true) }) (v := ?_) rfl (by kernel_rfl) (by kernel_rfl) (by kernel_rfl) (fun _ _ _ h => h) (Or.inl ⟨by rfl, ?_⟩) (by assumption) ?_
      rotate_left 1
      focus ((intro wS hSw; (try dsimp only at hSw); go_simp) <;> (try with_reducible rfl))
      simp only [Act.put, List.setIfInBounds_toArray, List.set_cons_zero, List.set_cons_succ]
      refine wpAnyH_take (i := 7) (oi := { dst := some 71, op := Go.Op.move (Go.Operand.tmp 9), type := 3, pos := "law.go:171", after := #[{ on := 5, ground := Go.Ground.guard }], guard := some (5, true) }) (v := ?_) rfl (by kernel_rfl) (by kernel_rfl) (by kernel_rfl) (fun _ _ _ h => h) (Or.inl ⟨by rfl, ?_⟩) (by assumption) ?_
      rotate_left 1
      focus ((intro wS hSw; (try dsimp only at hSw); go_simp) <;> (try with_reducible rfl))
      simp only [Act.put, List.setIfInBounds_toArray, List.set_cons_zero, List.set_cons_succ]
      refine wpAnyH_take (i := 8) (oi := { dst := some 72, op := Go.Op.binOp Go.BinOp.eql 3 (Go.Operand.tmp 70) (Go.Operand.tmp 71) 3, type := 4, pos := "law.go:171", after := #[{ on := 6, ground := Go.Ground.data }, { on := 7, ground := Go.Ground.data }, { on := 5, ground := Go.Ground.guard }], guard := some (5, true) }) (v := ?_) rfl (by kernel_rfl) (by kernel_rfl) (by kernel_rfl) (fun _ _ _ h => h) (Or.inl ⟨by rfl, ?_⟩) (by assumption) ?_
      rotate_left 1
      focus ((intro wS hSw; (try dsimp only at hSw); go_simp) <;> (try with_reducible rfl))
      simp only [Act.put, List.setIfInBounds_toArray, List.set_cons_zero, List.set_cons_succ]
      refine wpAnyH_take (i := 9) (oi := { dst := some 73, op := Go.Op.pick (Go.Operand.tmp 69) (Go.Operand.tmp 72) (Go.Operand.const (Go.Value.bool false)), type := 4, pos := "law.go:171", after := #[{ on := 5, ground := Go.Ground.data }, { on := 8, ground := Go.Ground.data }], guard := none }) (v := ?_) rfl (by kernel_rfl) (by kernel_rfl) (by kernel_rfl) (fun _ _ _ h => h) (Or.inl ⟨by rfl, ?_⟩) (by assumption) ?_
      rotate_left 1
      focus ((intro wS hSw; (try dsimp only at hSw); go_simp) <;> (try with_reducible rfl))
      simp only [Act.put, List.setIfInBounds_toArray, List.set_cons_zero, List.set_cons_succ]
      refine wpAnyH_take (i := 10) (oi := { dst := some 74, op := Go.Op.move (Go.Operand.tmp 73), type := 4, pos := "law.go:171", after := #[{ on := 9, ground := Go.Ground.data }, { on := 5, ground := Go.Ground.chain }], guard := none }) (v := ?_) rfl (by kernel_rfl) (by kernel_rfl) (by kernel_rfl) (fun _ _ _ h => h) (Or.inl ⟨by rfl, ?_⟩) (by assumption) ?_
      rotate_left 1
      focus ((intro wS hSw; (try dsimp only at hSw); go_simp) <;> (try with_reducible rfl))
      simp only [Act.put, List.setIfInBounds_toArray, List.set_cons_zero, List.set_cons_succ]
      refine wpAnyH_take (i := 11) (oi := { dst := some 75, op := Go.Op.move (Go.Operand.tmp 8), type := 23, pos := "law.go:171", after := #[{ on := 10, ground := Go.Ground.guard }], guard := some (10, true) }) (v := ?_) rfl (by kernel_rfl) (by kernel_rfl) (by kernel_rfl) (fun _ _ _ h => h) (Or.inl ⟨by rfl, ?_⟩) (by assumption) ?_
      rotate_left 1
      focus ((intro wS hSw; (try dsimp only at hSw); go_simp) <;> (try with_reducible rfl))
      simp only [Act.put, List.setIfInBounds_toArray, List.set_cons_zero, List.set_cons_succ]
      refine wpAnyH_take (i := 13) (oi := { dst := some 77, op := Go.Op.move (Go.Operand.tmp 12), type := 32, pos := "law.go:171", after := #[{ on := 10, ground := Go.Ground.guard }], guard := some (10, true) }) (v := ?_) rfl (by kernel_rfl) (by kernel_rfl) (by kernel_rfl) (fun _ _ _ h => h) (Or.inl ⟨by rfl, ?_⟩) (by assumption) ?_
      rotate_left 1
      focus ((intro wS hSw; (try dsimp only at hSw); go_simp) <;> (try with_reducible rfl))
      simp only [Act.put, List.setIfInBounds_toArray, List.set_cons_zero, List.set_cons_succ]
      refine wpAnyH_take (i := 14) (oi := { dst := some 78, op := Go.Op.move (Go.Operand.tmp 9), type := 3, pos := "law.go:171", after := #[{ on := 10, ground := Go.Ground.guard }], guard := some (10, true) }) (v := ?_) rfl (by kernel_rfl) (by kernel_rfl) (by kernel_rfl) (fun _ _ _ h => h) (Or.inl ⟨by rfl, ?_⟩) (by assumption) ?_
      rotate_left 1
      focus ((intro wS hSw; (try dsimp only at hSw); go_simp) <;> (try with_reducible rfl))
      simp only [Act.put, List.setIfInBounds_toArray, List.set_cons_zero, List.set_cons_succ]
      refine wpAnyH_take (i := 15) (oi := { dst := some 79, op := Go.Op.slice 32 (Go.Operand.tmp 77) none (some (Go.Operand.tmp 78)) none, type := 32, pos := "law.go:171", after := #[{ on := 13, ground := Go.Ground.data }, { on := 14, ground := Go.Ground.data }, { on := 10, ground := Go.Ground.guard }], guard := some (10, true) }) (v := ?_) rfl (by kernel_rfl) (by kernel_rfl) (by kernel_rfl) (fun _ _ _ h => h) (Or.inl ⟨by rfl, ?_⟩) (by assumption) ?_
      rotate_left 1
      focus ((intro wS hSw; (try dsimp only at hSw); go_simp) <;> (try with_reducible rfl))
      simp only [Act.put, List.setIfInBounds_toArray, List.set_cons_zero, List.set_cons_succ]
      refine wpAnyH_ready (rs := [12]) (by kernel_rfl) (by simp) ?_
      refine AllReadyH.cons (o := { dst := some 76, op := Go.Op.call { callee := Go.Callee.value (Go.Operand.func 11), args := #[Go.Operand.tmp 75], argTypes := #[23] }, type := 32, pos := "law.go:171", after := #[{ on := 11, ground := Go.Ground.data }, { on := 10, ground := Go.Ground.chain }, { on := 10, ground := Go.Ground.guard }], guard := some (10, true) }) rfl (fun K hK => ?_) AllReadyH.nil
      go_simp
      refine (NDS.out _ (P9.out.below D1.out)).mono ?_; rintro e z2 ⟨ra, rc, rs, rfl, hr, hrn, _, _, b2⟩
      have HRS := Lib.hid hr; have HRN := Lib.hid hrn
      have D2 : Hid (Below w9.heap.size w9 z2) := D1.out.trans (b2.mono D1.out.size)
      clear hr hrn b2
      go_wp2_with fail
      refine hK.out _ _ (True.intro) (fun hHeld => ?_)
      clear hK K
      (try simp only [Act.put, List.setIfInBounds_toArray, List.set_cons_zero, List.set_cons_succ])
      refine wpAnyH_ready (rs := [16]) (by kernel_rfl) (by simp) ?_
      refine AllReadyH.cons (o := { dst := some 80, op := Go.Op.call { callee := Go.Callee.value (Go.Operand.func 21), args := #[Go.Operand.tmp 79], argTypes := #[32] }, type := 32, pos := "law.go:171", after := #[{ on := 15, ground := Go.Ground.data }, { on := 12, ground := Go.Ground.chain }, { on := 10, ground := Go.Ground.guard }], guard := some (10, true) }) rfl (fun K hK => ?_) AllReadyH.nil
      go_simp
      refine (rcanon_any _ _ _ _ z2 (TK.out.below D2.out) (Nat.le_trans QL.out (by decide))).mono ?_; rintro e z3 ⟨sa, sc, ss, rfl, hs, hsn, _, _, b3⟩
      have HSS := Lib.hid hs; have HSN := Lib.hid hsn; have HRS3 := Lib.hid (HRS.out.below b3)
      have D3 : Hid (Below w9.heap.size w9 z3) := D2.out.trans (b3.mono D2.out.size)
      clear hs hsn b3
      go_wp2_with fail
      refine hK.out _ _ (True.intro) (fun hHeld => ?_)
      clear hK K
      (try simp only [Act.put, List.setIfInBounds_toArray, List.set_cons_zero, List.set_cons_succ])
      refine wpAnyH_ready (rs := [17]) (by kernel_rfl) (by simp) ?_
      refine AllReadyH.cons (o := { dst := some 81, op := Go.Op.call { callee := Go.Callee.value (Go.Operand.func 17), args := #[Go.Operand.tmp 76, Go.Operand.tmp 80], argTypes := #[32, 32] }, type := 4, pos := "law.go:171", after := #[{ on := 12, ground := Go.Ground.data }, { on := 16, ground := Go.Ground.data }, { on := 16, ground := Go.Ground.chain }, { on := 10, ground := Go.Ground.guard }], guard := some (10, true) }) rfl (fun K hK => ?_) AllReadyH.nil
      go_simp
      refine (rsame_any _ _ _ rs _ _ _ ss z3 HRS3.out HSS.out).mono ?_; rintro e z4 ⟨Bs, rfl, hb, b4⟩
      obtain rfl : Bs = true := hb.mpr (by rw [HRN.out, HSN.out]; exact EQ.out)
      have D4 : Hid (Below w9.heap.size w9 z4) := D3.out.trans (b4.mono D3.out.size)
      clear hb b4
      go_wp2_with fail
      refine hK.out _ _ (True.intro) (fun hHeld => ?_)
      clear hK K
      (try simp only [Act.put, List.setIfInBounds_toArray, List.set_cons_zero, List.set_cons_succ])
      refine wpAnyH_take (i := 18) (oi := { dst := some 82, op := Go.Op.pick (Go.Operand.tmp 74) (Go.Operand.tmp 81) (Go.Operand.const (Go.Value.bool false)), type := 4, pos := "law.go:171", after := #[{ on := 10, ground := Go.Ground.data }, { on := 17, ground := Go.Ground.data }], guard := none }) (v := ?_) rfl (by kernel_rfl) (by kernel_rfl) (by kernel_rfl) (fun _ _ _ h => h) (Or.inl ⟨by rfl, ?_⟩) (by assumption) ?_
      rotate_left 1
      focus ((intro wS hSw; (try dsimp only at hSw); go_simp) <;> (try with_reducible rfl))
      simp only [Act.put, List.setIfInBounds_toArray, List.set_cons_zero, List.set_cons_succ]
      refine wpAnyH_take (i := 19) (oi := { dst := some 4, op := Go.Op.assign (Go.Operand.tmp 82), type := 4, pos := "law.go:171", after := #[{ on := 18, ground := Go.Ground.data }, { on := 17, ground := Go.Ground.chain }, { on := 0, ground := Go.Ground.phase }, { on := 1, ground := Go.Ground.phase }, { on := 2, ground := Go.Ground.phase }, { on := 3, ground := Go.Ground.phase }, { on := 4, ground := Go.Ground.phase }, { on := 5, ground := Go.Ground.phase }, { on := 6, ground := Go.Ground.phase }, { on := 7, ground := Go.Ground.phase }, { on := 8, ground := Go.Ground.phase }, { on := 9, ground := Go.Ground.phase }, { on := 10, ground := Go.Ground.phase }, { on := 11, ground := Go.Ground.phase }, { on := 12, ground := Go.Ground.phase }, { on := 13, ground := Go.Ground.phase }, { on := 14, ground := Go.Ground.phase }, { on := 15, ground := Go.Ground.phase }, { on := 16, ground := Go.Ground.phase }, { on := 17, ground := Go.Ground.phase }, { on := 18, ground := Go.Ground.phase }], guard := none }) (v := ?_) rfl (by kernel_rfl) (by kernel_rfl) (by kernel_rfl) (fun _ _ _ h => h) (Or.inl ⟨by rfl, ?_⟩) (by assumption) ?_
      rotate_left 1
      focus ((intro wS hSw; (try dsimp only at hSw); go_simp) <;> (try with_reducible rfl))
      simp only [Act.put, List.setIfInBounds_toArray, List.set_cons_zero, List.set_cons_succ]
      refine wpAnyH_done (by kernel_rfl) ?_ _
      have BB := Lib.hid (belT B9.out D4.out)
      go_wp2
      go_ret
      exact ⟨rfl, BB.out⟩
end Go.Proofs.YtinmkgpmoclcoaaDoor
