/-
  The statement EntryConsecutive: a walk.
-/
import Derived.Test.YtbbaleambgaanaaGreatDoorPk20
import Derived.Test.YtbbaleambgaanaaGreatDoorEtrPDec
import Derived.Test.YtbbaleambgaanaaGreatDoorPk42
import Derived.Test.YtbbaleambgaanaaGreatDoorEtrEnd
import Derived.Test.YtbbaleambgaanaaGreatDoorPk37
import Derived.Test.YtbbaleambgaanaaGreatDoorStructArg
namespace Go.Proofs.YtbbaleambgaanaaGreatDoor
open Go.RowKit Go.Proofs.YtbbaleambgaanaaGreatDoor.Fit Pxr Pnm Etr

/-- what the first loop keeps: the bytes, the valid entries, where each of them begins -/
def Etr.CoRel (len : Nat) (w1 : World) (vA vV vS i : Value) (wr : World) : Prop :=
  ∃ (j : Nat) (vs : List Ent), i = .int .i64 j ∧ j ≤ len ∧ vs.length ≤ j ∧ (∀ e ∈ vs, ckE e = 0) ∧ wr.ownsRow w1.heap.size 5 1 vA (flat vs).length ((flat vs).map (.int .u8)) ∧ wr.ownsRow w1.heap.size 23 5 vV vs.length (entCells vs) ∧
    wr.ownsRow w1.heap.size 2 1 vS vs.length ((stZ vs).map (.int .i64)) ∧ Apart vA vV ∧ Apart vA vS ∧ Apart vV vS ∧ Below w1.heap.size w1 wr

set_option maxRecDepth 100000 in
set_option maxHeartbeats 16000000 in
theorem walk_EntryConsecutive (a : Option Addr) (len cap : Nat) (es : List Ent) (ca : Option Addr) (cl cc : Nat) (cs : List Int) (F : Int) (w : World) (V : MVars w) (ha : ArgEnts w a len cap es) (hcs : ArgInts .i64 w ca cl cc cs) (_ : (Lit.int .i64 F).wf = true) :
    Calls Tryz.prog 8 #[.slice a len cap, .agg #[.slice ca cl cc, .int .i64 F]] w fun e w' => e = .returned (.bool true) ∧ Below w.heap.size w w' := by
  have V0 := Lib.hid (MV.of V)
  have HA := Lib.hid ha
  have HI := Lib.hid hcs.inK; have HCL := Lib.hid hcs.1
  have EO := Lib.hid enT; have EZ := Lib.hid zEn
  have gE : Tryz.prog.eqGuardType Tryz.prog.depth 23 = false := by kernel_rfl
  have HQ := Lib.hid fun (k : Int) (p : ByteArray) (m : Int) (t : ByteArray) (s : Int) (w : World) => (show (Op.equalIn 10000 23 (.agg (enV k p m t s).toArray) (.agg (enV k p m t s).toArray)).run Tryz.prog w = .ok true w by rw [run_eqE]; simp)
  have IE5 : Hid ((Tryz.prog.info? 23).map (fun i => (i.zero, i.size)) = some (some (.agg (enV 0 emp 0 emp 0).toArray), 5)) := by show _ = _; kernel_rfl
  have II1 : Hid ((Tryz.prog.info? 2).map (fun i => (i.zero, i.size)) = some (some (.int .i64 0), 1)) := by show _ = _; kernel_rfl
  obtain ⟨iE, HIE⟩ := info_of (P := Tryz.prog) (e := 23) (z := .agg (enV 0 emp 0 emp 0).toArray) (s := 5) (b := 56) (by kernel_rfl)
  obtain ⟨iI, HII⟩ := info_of (P := Tryz.prog) (e := 2) (z := .int .i64 0) (s := 1) (b := 8) (by kernel_rfl)
  obtain ⟨i0, HI8⟩ := info_of (P := Tryz.prog) (e := 5) (z := .int .u8 0) (s := 1) (b := 1) (by kernel_rfl)
  clear V ha hcs
  by_cases h10 : (10 : Int) < len
  · go_enter Tryz.func8, Tryz.ntmps8
    go_wp2_with (first | (refine wpList_box_obj rfl 36 _ rfl [.slice ca cl cc, .int .i64 F] rfl ?_; intro w1 h1 b1; have H1 := Lib.hid h1; have B1 := Lib.hid b1; have c0 := h1.get 0 rfl; have c1 := h1.get 1 rfl; clear h1 b1))
    refine (Etr.alive_any _ (V0.out.below B1.out).v.f).mono ?_; rintro e w2 ⟨rfl, b2⟩
    go_wp2
    go_ret
    exact ⟨rfl, B1.out.trans (b2.mono B1.out.size)⟩
  · by_cases h300 : (300 : Int) < cl
    · go_enter Tryz.func8, Tryz.ntmps8
      go_wp2_with (first | (refine wpList_box_obj rfl 36 _ rfl [.slice ca cl cc, .int .i64 F] rfl ?_; intro w1 h1 b1; have H1 := Lib.hid h1; have B1 := Lib.hid b1; have c0 := h1.get 0 rfl; have c1 := h1.get 1 rfl; clear h1 b1))
      refine (Etr.alive_any _ (V0.out.below B1.out).v.f).mono ?_; rintro e w2 ⟨rfl, b2⟩
      go_wp2
      go_ret
      exact ⟨rfl, B1.out.trans (b2.mono B1.out.size)⟩
    · have LEN : Hid (len ≤ 10) := by show _ ≤ _; omega
      have len10 : (len : Int) ≤ 10 := by omega
      go_enter Tryz.func8, Tryz.ntmps8
      go_wp2_with (first | (refine wpList_box_obj rfl 36 _ rfl [.slice ca cl cc, .int .i64 F] rfl ?_; intro w1 h1 b1; have H1 := Lib.hid h1; have B1 := Lib.hid b1; have c0 := h1.get 0 rfl; have c1 := h1.get 1 rfl; clear h1 b1))
      have V1 := Lib.hid (V0.out.below B1.out)
      clear c0 c1 h10
      go_loopw [5, 6, 7, 33] (fun vA vV vS i wr => Etr.CoRel len w1 vA vV vS i wr) (fun _ _ _ i _ => len - (intOf i).toNat)
      case atStart => exact ⟨0, [], rfl, Nat.zero_le _, Nat.le_refl _, (fun e he => by cases he), own_none _ _ _ _, ⟨rfl, .inl ⟨rfl, rfl⟩⟩, own_none _ _ _ _, Apart.none_l _ _ _, Apart.none_l _ _ _, Apart.none_l _ _ _, Below.refl _ _⟩
      case round =>
        obtain ⟨j, vs, rfl, hj, hvj, hok, oA, oV, oS, dAV, dAS, dVS, hbel⟩ := hrel
        obtain ⟨aA, cA, rfl, hcA, hmA⟩ := own_slice oA
        obtain ⟨aV, cV, rfl, _, _⟩ := own_slice oV
        obtain ⟨aS, cS, rfl, _, _⟩ := own_slice oS
        have UV : Hid (∀ k, (Value.slice aV vs.length cV).ownBlock = some k → k < wr.heap.size) := fun k hk => (own_under oV k hk).2
        have US : Hid (∀ k, (Value.slice aS vs.length cS).ownBlock = some k → k < wr.heap.size) := fun k hk => (own_under oS k hk).2
        have FLE := Lib.hid (flat_le vs)
        obtain ⟨nA, hnA⟩ := named (flat vs).length
        obtain ⟨nV, hnV⟩ := named vs.length
        rw [← hnA.out] at oA
        rw [← hnV.out] at oV oS
        rw [← hnA.out] at dAV dAS
        rw [← hnV.out] at dAV dAS dVS UV US
        rw [← hnA.out, ← hnV.out] at FLE
        rw [← hnA.out] at hcA
        rw [← hnA.out, ← hnV.out]
        have NV : Hid (nV ≤ 10) := by show _ ≤ _; have := hnV.out; omega
        have NA : Hid (nA ≤ 3000000) := by show _ ≤ _; have := FLE.out; have := NV.out; omega
        have nA8 : (nA : Int) ≤ 3000000 := by have := NA.out; omega
        have nV8 : (nV : Int) ≤ 10 := by have := NV.out; omega
        have OA := Lib.hid oA; have OV := Lib.hid oV; have OS := Lib.hid oS; have DAV := Lib.hid dAV; have DAS := Lib.hid dAS; have DVS := Lib.hid dVS; have BR := Lib.hid hbel
        have HOK := Lib.hid hok; have HCA := Lib.hid hcA; have HVJ := Lib.hid hvj
        have VR := Lib.hid (V1.out.below (hbel.mono B1.out.size))
        have BW := Lib.hid (B1.out.trans (hbel.mono B1.out.size))
        clear oA oV oS dAV dAS dVS hbel hok hcA hmA hvj
        by_cases hlt : j < len
        · have hlt' : (j : Int) < len := by omega
          obtain ⟨eb, eo, e, rfl, heb, hej, hem, hat⟩ := (HA.out.below (BW.out)).get j hlt
          obtain ⟨hs1, hs2, _, _, _⟩ := HA.out.s e hem
          obtain ⟨k, p, m, t, s⟩ := e
          obtain ⟨z0, z1, z2, z3, z4⟩ := hat j _ hej
          dsimp only at hs1 hs2 z0 z1 z2 z3 z4
          have EN := Lib.hid fun w' (hb : Below wr.heap.size wr w') => penc_any ⟨k, p, m, t, s⟩ w' (VR.out.go hb).v.f (Nat.le_trans hs1 (by decide)) (Nat.le_trans hs2 (by decide))
          have LG := Lib.hid fun w' => large_any k p m t s w' (Nat.le_trans hs1 (by decide)) (Nat.le_trans hs2 (by decide))
          have HLT := Lib.hid hlt
          clear heb hej hem hat hs1 hs2 hlt
          go_wp2_with (first | (refine wpList_alloc_obj rfl 23 rfl (enV 0 emp 0 emp 0) EZ.out ?_; intro w3a ga ba; have XAw3 := Lib.hid ga; have BAw3 := Lib.hid ba; clear ga ba) | (refine wpList_store_obj rfl 23 _ _ rfl wr.heap.size rfl (enV k p m t s) (enV 0 emp 0 emp 0) rfl 23 XAw3.out EO.out.2 rfl (en_one _ _ _ _ _) ?_; intro w3 gb tb; have Xw3 := Lib.hid gb; have Aw3 := Lib.hid (BAw3.out.trans (tb.below (Nat.le_refl _))); have c0 := gb.get 0 rfl; have c1 := gb.get 1 rfl; have c2 := gb.get 2 rfl; have c3 := gb.get 3 rfl; have c4 := gb.get 4 rfl; clear gb tb))
          refine (LG.out w3).mono ?_; rintro e w4 ⟨BB, rfl, hBB, b4⟩
          have X4 := Lib.hid (Xw3.out.below b4 Xw3.out.lt); have A4 := Lib.hid (belT Aw3.out b4)
          clear b4 c0 c1 c2 c3 c4 z0 z1 z2 z3 z4
          rcases hBB with rfl | rfl
          · have c0 := X4.out.get 0 rfl; have c1 := X4.out.get 1 rfl; have c2 := X4.out.get 2 rfl; have c3 := X4.out.get 3 rfl; have c4 := X4.out.get 4 rfl
            go_wp2_with fail
            refine (EN.out w4 A4.out).mono ?_; rintro e w5 ⟨b, nB, cB, rfl, hnB, hcB, hmB, hI, hnew, b5⟩
            have X5 := Lib.hid (X4.out.below b5 X4.out.lt); have A5 := Lib.hid (belT A4.out b5)
            have B5 : Hid (Below w1.heap.size w1 w5) := belT BR.out A5.out
            have OA5 := Lib.hid (own_stay' OA.out A5.out (Nat.le_refl _)); have OV5 := Lib.hid (own_stay' OV.out A5.out (Nat.le_refl _)); have OS5 := Lib.hid (own_stay' OS.out A5.out (Nat.le_refl _))
            clear c0 c1 c2 c3 c4
            by_cases hE : ckE ⟨k, p, m, t, s⟩ = 0
            · have HE := Lib.hid hE
              obtain ⟨q1, q2⟩ := en_le (e := ⟨k, p, m, t, s⟩)
              have q2 := q2 hE
              rw [hE]
              obtain ⟨B, hB⟩ := named (enZ ⟨k, p, m, t, s⟩)
              rw [← hB.out] at hnB hI q1 q2
              have HNB : Hid (B.length = nB ∧ nB ≤ 300000) := ⟨hnB, by omega⟩
              have HBne : Hid (B ≠ []) := by show _ ≠ _; intro h; rw [h] at q2; simp at q2
              obtain ⟨bb, boff, rfl⟩ : ∃ bb boff, b = some ⟨bb, boff, none⟩ := by
                rcases hI with h | ⟨bb, boff, h, _⟩
                · exact absurd h HBne.out
                · exact ⟨bb, boff, h⟩
              have J5 := Lib.hid hI
              have HJX : Hid (∀ x, some (⟨bb, boff, none⟩ : Addr) = some x → wr.heap.size ≤ x.block) := fun x hx => Nat.le_trans A4.out.size (hnew x hx)
              have c0 := X5.out.get 0 rfl; have c1 := X5.out.get 1 rfl; have c2 := X5.out.get 2 rfl; have c3 := X5.out.get 3 rfl; have c4 := X5.out.get 4 rfl
              clear hnB hcB hmB hI hnew b5 hE q1 q2
              go_wp2_with (first | (refine wpList_lit_five rfl 61 23 _ rfl Tryz.underlying61 (.agg (enV 0 emp 0 emp 0).toArray) IE5.out (.int .i64 k) (.string p) (.int .i64 m) (.string t) (.int .i64 s) rfl ?_; intro x1 g1 b1; have L1 := Lib.hid g1; have BX1 := Lib.hid (belT B5.out b1); have OA1 := Lib.hid (own_stay' OA5.out b1 (Nat.le_refl _)); have OV1 := Lib.hid (own_stay' OV5.out b1 (Nat.le_refl _)); have OS1 := Lib.hid (own_stay' OS5.out b1 (Nat.le_refl _)); have J1 := Lib.hid (J5.out.below b1); clear g1 b1) | (at_builtin; refine wpList_append_obj rfl _ _ 61 rfl w1.heap.size 23 iE _ 5 56 Tryz.underlying61 HIE rfl (by decide) (.slice aV nV cV) nV _ rfl OV1.out w5.heap.size 1 23 (enV k p m t s) rfl rfl L1.out (en_one _ _ _ _ _) (by have := NV.out; unfold maxLen; omega) (by have := NV.out; omega) (Nat.le_trans (Nat.le_refl _) BX1.out.size) ?_; intro vV x2 o2 g2 k2 b2; have OV2 := Lib.hid o2; have OA2 := Lib.hid (own_grown OA1.out g2 DAV.out); have OS2 := Lib.hid (own_grown OS1.out g2 DVS.out.symm); have DAV2 := Lib.hid (DAV.out.next OA1.out k2); have DVS2 : Hid (Apart vV (.slice aS nV cS)) := (Apart.next DVS.out.symm OS1.out k2).symm; have BX2 := Lib.hid (BX1.out.trans b2); have J2 := Lib.hid (J1.out.block b2.size fun x hx hl => g2.block _ hl (fun e => absurd (UV.out _ e.symm) (Nat.not_lt.2 (HJX.out x hx)))); clear o2 g2 k2 b2) | (refine wpList_lit_i64 rfl 62 2 _ rfl Tryz.underlying62 II1.out (nA : Int) rfl ?_; intro x3 g3 b3; have L3 := Lib.hid g3; have BX3 := Lib.hid (belT BX2.out b3); have OA3 := Lib.hid (own_stay' OA2.out b3 (Nat.le_refl _)); have OV3 := Lib.hid (own_stay' OV2.out b3 (Nat.le_refl _)); have OS3 := Lib.hid (own_stay' OS2.out b3 (Nat.le_refl _)); have J3 := Lib.hid (J2.out.below b3); clear g3 b3) | (at_builtin; refine wpList_append_obj rfl _ _ 62 rfl w1.heap.size 2 iI (.int .i64 0) 1 8 Tryz.underlying62 HII rfl (by decide) (.slice aS nV cS) nV _ rfl OS3.out x2.heap.size 1 2 [.int .i64 (nA : Int)] rfl rfl L3.out (by simp [Value.oneCell']) (by have := NV.out; unfold maxLen; omega) (by have := NV.out; omega) BX3.out.size ?_; intro vS x4 o4 g4 k4 b4; have OS4 := Lib.hid o4; have OA4 := Lib.hid (own_grown OA3.out g4 DAS.out); have OV4 := Lib.hid (own_grown OV3.out g4 DVS2.out); have DAS4 := Lib.hid (DAS.out.next OA3.out k4); have DVS4 := Lib.hid (DVS2.out.next OV3.out k4); have BX4 := Lib.hid (BX3.out.trans b4); have J4 := Lib.hid (J3.out.block b4.size fun x hx hl => g4.block _ hl (fun e => absurd (US.out _ e.symm) (Nat.not_lt.2 (HJX.out x hx)))); have J4' : Hid (RowAt x4 bb boff B) := (by rcases J4.out with h | ⟨b', o', h1, _, h3⟩; exact absurd h HBne.out; cases h1; exact h3); clear o4 g4 k4 b4) | (at_builtin; refine wpList_append_apart rfl _ _ 24 rfl w1.heap.size 5 i0 (.int .u8 0) 1 1 Tryz.underlying24 HI8 rfl (by decide) (.slice aA nA cA) nA _ rfl OA4.out ⟨bb, boff, none⟩ nB cB (B.map (.int .u8)) rfl (by rw [List.length_map, HNB.out.1, Nat.mul_one]) J4'.out.news (one_map _ _) (by have := NA.out; have := HNB.out.2; unfold maxLen; omega) (by have := NA.out; have := HNB.out.2; omega) BX4.out.size ?_; intro vA x6 o6 g6 k6 b6; have OA6 := Lib.hid o6; have OV6 := Lib.hid (own_grown OV4.out g6 DAV2.out.symm); have OS6 := Lib.hid (own_grown OS4.out g6 DAS4.out.symm); have DAV6 : Hid (Apart vA vV) := (Apart.next DAV2.out.symm OV4.out k6).symm; have DAS6 : Hid (Apart vA vS) := (Apart.next DAS4.out.symm OS4.out k6).symm; have BX6 := Lib.hid (BX4.out.trans b6); clear o6 g6 k6 b6))
              go_roundw
              case rel =>
                refine ⟨j + 1, vs ++ [⟨k, p, m, t, s⟩], by go_num, HLT.out, by rw [List.length_append, List.length_singleton]; have := HVJ.out; omega, fun e he => ?_, ?_, ?_, ?_, DAV6.out, DAS6.out, DVS4.out, BX6.out⟩
                · rcases List.mem_append.1 he with h | h
                  · exact HOK.out e h
                  · rw [List.mem_singleton.1 h]; exact HE.out
                · rw [flat_snoc, List.map_append, List.length_append, ← hnA.out, ← hB.out, HNB.out.1]; exact OA6.out
                · rw [entCells_snoc, List.length_append, List.length_singleton, ← hnV.out]; exact OV6.out
                · rw [stZ_snoc, List.map_append, List.length_append, List.length_singleton, ← hnV.out, ← hnA.out]; exact OS6.out
              case measure => simp [intOf]; omega
            · obtain ⟨E, hEn⟩ := named (ckE ⟨k, p, m, t, s⟩)
              rw [← hEn.out] at hE
              rw [← hEn.out]
              have n0 : (E == 0) = false := by simp [hE]
              clear hnB hcB hmB hI hnew b5 hE
              go_wp2_with fail
              go_roundw
              case rel =>
                refine ⟨j + 1, vs, by go_num, HLT.out, by have := HVJ.out; omega, HOK.out, ?_, ?_, ?_, ?_, ?_, ?_, B5.out⟩
                · rw [← hnA.out]; exact OA5.out
                · rw [← hnV.out]; exact OV5.out
                · rw [← hnV.out]; exact OS5.out
                · exact DAV.out
                · exact DAS.out
                · exact DVS.out
              case measure => simp [intOf]; omega
          · go_wp2_with fail
            refine (Etr.alive_any _ (VR.out.go A4.out).v.f).mono ?_; rintro e w5 ⟨rfl, b5⟩
            go_wp2
            go_ret
            exact ⟨rfl, belT (belT BW.out A4.out) b5⟩
        · obtain rfl : j = len := by omega
          obtain ⟨wl, hwl⟩ : ∃ wl, wl = wr := ⟨_, rfl⟩
          subst hwl
          have ZA : Hid (BytesIn wl aA (flat vs)) := by
            obtain ⟨b', c', hv, h1, _⟩ := own_any OA.out
            simp only [Value.slice.injEq, true_and] at hv
            rw [hv.1]; exact h1.bytes (flat_bytes vs)
          have ZV : Hid (EntsIn wl aV vs) := by
            obtain ⟨b', c', hv, _, h1⟩ := entsIn_own OV.out
            simp only [Value.slice.injEq, true_and] at hv
            rw [hv.1]; exact h1
          have ZS : Hid (InK .i64 wl aS (stZ vs)) := by
            obtain ⟨b', c', hv, h1, _⟩ := own_any OS.out
            simp only [Value.slice.injEq, true_and] at hv
            rw [hv.1]; exact h1
          have HL := Lib.hid (H1.out.below BR.out H1.out.lt)
          have c0 := HL.out.get 0 rfl; have c1 := HL.out.get 1 rfl
          have HIL := Lib.hid (HI.out.below BW.out)
          have ZB := Lib.hid (flat_bytes vs)
          have SL := Lib.hid (stZ_len vs)
          obtain ⟨Z, hZ⟩ := named (flat vs)
          rw [← hZ.out] at ZA hnA ZB
          obtain ⟨St, hSt⟩ := named (stZ vs)
          rw [← hSt.out] at ZS SL
          clear hlt
          go_wp2_with fail
          refine (new_any aA nA cA Z ca cl cc cs (-1) wl ZA.out hnA.out.symm HCA.out (by omega) HIL.out HCL.out (by omega)).mono ?_; rintro e w2 ⟨s7, rfl, x7, b7⟩
          rw [endN_neg2, endE_neg2, List.take_of_length_le (by rw [hnA.out]; exact Nat.le_refl _)] at x7
          have S7 := Lib.hid x7; have B7 := Lib.hid b7
          clear x7 b7 c0 c1
          go_wp2_with fail
          refine (rdr_new w2 S7.out).mono ?_; rintro e w3 ⟨q, rfl, r8, b8⟩
          have B8 := Lib.hid (B7.out.trans (b8.mono B7.out.size))
          obtain ⟨lo, hlo⟩ := named wl.heap.size
          obtain ⟨hi, hhi⟩ := named w3.heap.size
          have R8 : Hid (Rdr w3 lo hi q Z 4 0 0) := by show Rdr _ _ _ _ _ _ _ _; rw [hlo.out, hhi.out]; exact r8
          clear r8 b8 S7
          go_wp2_with fail
          go_loopw [69] (fun i wr => ∃ (j o : Nat), j ≤ nV ∧ i = .int .i64 j ∧ o = (flat (vs.take j)).length ∧ Rdr wr lo hi q Z 4 o 0 ∧ Below wl.heap.size wl wr) (fun i _ => nV - (intOf i).toNat)
          case atStart => exact ⟨0, 0, Nat.zero_le _, rfl, rfl, R8.out, B8.out⟩
          case round =>
            obtain ⟨i, o, hi', rfl, ho, hr, hb⟩ := hrel
            have RR := Lib.hid hr; have BQ := Lib.hid hb; have OO := Lib.hid ho
            have VQ := Lib.hid (VR.out.go hb)
            have BZ := Lib.hid (belT BW.out hb)
            clear hr hb ho
            by_cases hiv : i < nV
            · have hiv' : (i : Int) < nV := by omega
              have hil : i < vs.length := by rw [← hnV.out]; exact hiv
              obtain ⟨e, he⟩ : ∃ e, vs[i]? = some e := ⟨_, List.getElem?_eq_getElem hil⟩
              have hck := HOK.out e (List.mem_of_getElem? he)
              obtain ⟨f1, f2, f3⟩ := flat_at he
              rw [← hZ.out, ← OO.out] at f1
              rw [← hZ.out, ← OO.out] at f2
              rw [← OO.out] at f3
              have DE := dcd_en hck (E := 4) f1 f2
              rw [← f3] at DE
              have HST := Lib.hid (stZ_at hil)
              rw [← hSt.out, ← OO.out] at HST
              obtain ⟨vb, vo, rfl, hvb, hva⟩ : ∃ vb vo, aV = some ⟨vb, vo, none⟩ ∧ vb < wr.heap.size ∧ EntsAt wr vb vo vs := by
                rcases (ZV.out.below BQ.out) with h | h
                · rw [h] at hil; simp at hil
                · exact h
              obtain ⟨z0, z1, z2, z3, z4⟩ := hva i e he
              obtain ⟨sb, so, rfl, _⟩ := ZS.out.plain (by rw [SL.out]; omega)
              have HSC : Hid (∀ w', Below wl.heap.size wl w' → w'.cell? ⟨sb, so + i, none⟩ = some (.int .i64 o)) := fun w' hb => by
                have := (ZS.out.below hb).get i (by rw [SL.out]; exact hil)
                rw [HST.out] at this
                exact this
              obtain ⟨k, p, m, t, s⟩ := e
              dsimp only at z0 z1 z2 z3 z4
              obtain ⟨o', ho'⟩ := named (flat (vs.take (i + 1))).length
              rw [← ho'.out] at DE
              have PD := Lib.hid fun (w' : World) (h : Rdr w' lo hi q Z 4 o 0) (V : MV w.heap.size w') => pdecd_any w' h (.inr rfl) V (by rw [hlo.out]; exact BW.out.size)
              rw [DE] at PD
              have PD' : Hid (∀ w', Rdr w' lo hi q Z 4 o 0 → MV w.heap.size w' → Calls Tryz.prog 18 #[.pointer (some ⟨q, 0, none⟩)] w' fun e w'' => e = .returned (.tuple #[.agg (enV k p m t s).toArray, .int .i64 o, .int .i64 0]) ∧ Rdr w'' lo hi q Z 4 o' 0 ∧ Out lo hi w' w'') := PD.out
              have HHE := Lib.hid (HQ.out k p m t s)
              have hq1 := HQ.out k p m t s
              clear PD DE f1 f2 f3 hck he hva hvb hil hiv
              go_wp2_with (first | (refine wpList_alloc_obj rfl 23 rfl (enV 0 emp 0 emp 0) EZ.out ?_; intro w4a ga ba; have XAw4 := Lib.hid ga; have BAw4 := Lib.hid ba; clear ga ba) | (refine wpList_store_obj rfl 23 _ _ rfl wr.heap.size rfl (enV k p m t s) (enV 0 emp 0 emp 0) rfl 23 XAw4.out EO.out.2 rfl (en_one _ _ _ _ _) ?_; intro w4 gb tb; have Xw4 := Lib.hid gb; have Aw4 := Lib.hid (BAw4.out.trans (tb.below (Nat.le_refl _))); clear gb tb))
              have R4 := Lib.hid (RR.out.below Aw4.out); have B4 := Lib.hid (belT BQ.out Aw4.out)
              clear z0 z1 z2 z3 z4
              refine (PD'.out w4 R4.out (VQ.out.go Aw4.out)).mono ?_; rintro e w5 ⟨rfl, r5, u5⟩
              have R5 := Lib.hid r5; have X5 := Lib.hid (Xw4.out.out u5 (.inr RR.out.size.1))
              have B5 := Lib.hid (B4.out.trans (u5.below (B := wl.heap.size) (Nat.le_of_eq hlo.out.symm) B4.out.size))
              clear r5 u5
              go_wp2_with (first | (refine wpList_alloc_obj rfl 23 rfl (enV 0 emp 0 emp 0) EZ.out ?_; intro w6a ga ba; have XAw6 := Lib.hid ga; have BAw6 := Lib.hid ba; clear ga ba) | (refine wpList_store_obj rfl 23 _ _ rfl w5.heap.size rfl (enV k p m t s) (enV 0 emp 0 emp 0) rfl 23 XAw6.out EO.out.2 rfl (en_one _ _ _ _ _) ?_; intro w6 gb tb; have Xw6 := Lib.hid gb; have Aw6 := Lib.hid (BAw6.out.trans (tb.below (Nat.le_refl _))); have f0 := gb.get 0 rfl; have f1 := gb.get 1 rfl; have f2 := gb.get 2 rfl; have f3 := gb.get 3 rfl; have f4 := gb.get 4 rfl; have Y6 := Lib.hid (X5.out.below Aw6.out X5.out.lt); have c0 := Y6.out.get 0 rfl; have c1 := Y6.out.get 1 rfl; have c2 := Y6.out.get 2 rfl; have c3 := Y6.out.get 3 rfl; have c4 := Y6.out.get 4 rfl; have sc := HSC.out _ (belT B5.out Aw6.out); clear gb tb))
              go_roundw
              case rel => exact ⟨i + 1, o', by omega, by go_num, ho'.out, R5.out.below Aw6.out, belT B5.out Aw6.out⟩
              case measure => simp [intOf]; omega
            · obtain rfl : i = nV := by omega
              have ho : o = nA := by rw [OO.out, hnA.out, hnV.out, hZ.out, List.take_length]
              have DE := dcd_end (Z := Z) (o := o) (by rw [ho, hnA.out])
              have PD := Lib.hid (pdecd_any wr RR.out (.inr rfl) (show MV w.heap.size wr from VQ.out) (by rw [hlo.out]; exact BW.out.size))
              rw [DE] at PD
              have PD' : Hid (Calls Tryz.prog 18 #[.pointer (some ⟨q, 0, none⟩)] wr fun e w'' => e = .returned (.tuple #[.agg (enV 0 emp 0 emp 0).toArray, .int .i64 o, .int .i64 4]) ∧ Rdr w'' lo hi q Z 4 o 4 ∧ Out lo hi wr w'') := PD.out
              subst ho
              clear PD DE hiv
              go_wp2_with fail
              refine PD'.out.mono ?_; rintro e w5 ⟨rfl, r5, u5⟩
              have B5 := Lib.hid (BQ.out.trans (u5.below (B := wl.heap.size) (Nat.le_of_eq hlo.out.symm) BQ.out.size))
              clear r5 u5
              go_wp2_with (first | (refine wpList_alloc_obj rfl 23 rfl (enV 0 emp 0 emp 0) EZ.out ?_; intro w6a ga ba; have XAw6 := Lib.hid ga; have BAw6 := Lib.hid ba; clear ga ba) | (refine wpList_store_obj rfl 23 _ _ rfl w5.heap.size rfl (enV 0 emp 0 emp 0) (enV 0 emp 0 emp 0) rfl 23 XAw6.out EO.out.2 rfl (en_one _ _ _ _ _) ?_; intro w6 gb tb; have Xw6 := Lib.hid gb; have Aw6 := Lib.hid (BAw6.out.trans (tb.below (Nat.le_refl _))); clear gb tb))
              refine (Etr.alive_any _ (VR.out.go (belT B5.out Aw6.out)).v.f).mono ?_; rintro e w7 ⟨rfl, b7⟩
              go_wp2
              go_ret
              exact ⟨rfl, belT (belT BW.out (belT B5.out Aw6.out)) b7⟩
end Go.Proofs.YtbbaleambgaanaaGreatDoor
