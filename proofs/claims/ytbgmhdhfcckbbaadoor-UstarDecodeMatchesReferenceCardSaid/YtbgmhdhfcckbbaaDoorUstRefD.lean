/-
  Layer 7: the reference's Decode.
-/
import Derived.Test.YtbgmhdhfcckbbaaDoorUstRefE
import Derived.Test.YtbgmhdhfcckbbaaDoorUstDec
import Derived.Test.YtbgmhdhfcckbbaaDoorChkRef
import Derived.Test.YtbgmhdhfcckbbaaDoorHdEq
import Derived.Test.YtbgmhdhfcckbbaaDoorCstRefP
import Derived.Test.YtbgmhdhfcckbbaaDoorOctRefP
namespace Go.Proofs.YtbgmhdhfcckbbaaDoor.Ust
open Go.RowKit
open Oct Cst Chk

theorem cpS_size (zs : List Int) (h : Bytes zs) : (strOfNums (cpS zs)).size ≤ 256 := by
  have hb : ∀ z ∈ cpS zs, 0 ≤ z ∧ z ≤ 255 := cpS_bd zs h
  rw [← numsOf_length, numsOf_strOfNums hb]
  unfold cpS
  split
  · exact Nat.zero_le _
  · split
    · exact Nat.zero_le _
    · have := trimZ_length zs; omega

set_option maxRecDepth 100000 in
set_option maxHeartbeats 8000000 in
theorem rdec_any (a : Option Addr) (n cap : Nat) (zs : List Int) (w : World) (hb : BytesIn w a zs) (hl : zs.length = n) (hz : Bytes zs) (hc : n ≤ cap) (hm : cap ≤ maxLen) :
    Calls Tryd.prog 16 #[.slice a n cap] w fun e w' => e = .returned (.tuple #[.agg (dH zs).toArray, .int .i64 (deE zs)]) ∧ Below w.heap.size w w' := by
  have HT := Lib.hid rhdT
  have hz0 : (Tryd.prog.info? 32).map (·.zero) = some (some (.agg hd0.toArray)) := by kernel_rfl
  have hs0 : (Tryd.prog.info? 32).map (·.size) = some 6 := by kernel_rfl
  have HZ0 := Lib.hid hz0; have HS0 := Lib.hid hs0
  have H1C : Hid (∀ (vs : List Value) (v : Value), v ∈ vs → (vs = hd0 ∨ ∃ T nm pf lk md sz, vs = hdV T nm pf lk md sz) → v.oneCell' = true) := by
    rintro vs v hv (rfl | ⟨T, nm, pf, lk, md, sz, rfl⟩)
    · simp at hv; rcases hv with rfl | rfl | rfl <;> rfl
    · simp at hv; rcases hv with rfl | rfl | rfl | rfl | rfl | rfl <;> rfl
  have HB := Lib.hid hb; have HL := Lib.hid hl; have HZ := Lib.hid hz; have HM := Lib.hid hm
  clear hz0 hs0
  obtain ⟨R, hR⟩ := named (deE zs)
  obtain ⟨V, hV⟩ := named (dH zs)
  rw [← hR.out, ← hV.out]
  by_cases h5 : n = 512
  · subst h5
    obtain ⟨b, off, rfl, hlt, hr⟩ : ∃ b off, a = some ⟨b, off, none⟩ ∧ b < w.heap.size ∧ RowAt w b off zs := by
      rcases hb with hb | hb
      · rw [hb] at hl; cases hl
      · exact hb
    have HR := Lib.hid hr; have HLT := Lib.hid hlt
    obtain ⟨v, hv⟩ := Chk.ver_of zs
    have HV := Lib.hid hv
    have HC := Lib.hid hc
    have k0 : ¬ cap = 0 := by omega
    have k1 : ¬ cap = 100 := by omega
    have k2 : ¬ cap = 124 := by omega
    have k3 : ¬ cap = 157 := by omega
    have k4 : ¬ cap = 345 := by omega
    have j1 : ¬ cap < 100 := by omega
    have j2 : ¬ cap < 108 := by omega
    have j3 : ¬ cap < 136 := by omega
    have j4 : ¬ cap < 257 := by omega
    have j5 : ¬ cap < 500 := by omega
    have i1 : 100 ≤ cap := by omega
    have i2 : 108 ≤ cap := by omega
    have i3 : 136 ≤ cap := by omega
    have i4 : 257 ≤ cap := by omega
    have i5 : 500 ≤ cap := by omega
    clear hb hl hz hm hr hlt hv hc
    go_enter Tryd.func16, Tryd.ntmps16
    go_wp2_with (refine wpList_alloc_obj rfl 32 rfl hd0 HZ0.out ?_; intro w1 h1 b1; have H1 := Lib.hid h1; have B1 := Lib.hid b1; clear h1 b1)
    refine (Chk.rver_ok _ cap zs w1 v HL.out (HB.out.below B1.out) HZ.out HC.out HV.out).mono ?_; rintro e w2 ⟨rfl, b2⟩
    have H2 := Lib.hid (H1.out.below b2 H1.out.lt); have B2 := Lib.hid (B1.out.trans (b2.mono B1.out.size))
    clear b2
    rcases HV.out with ⟨hs, rfl⟩ | ⟨hs, rfl⟩
    · have HSL := Lib.hid hs; clear hs
      have R2 := Lib.hid (HR.out.below B2.out HLT.out)
      obtain ⟨T, hT, t0, t1, ht⟩ := R2.out.get 156 (by rw [HL.out]; decide)
      have TD : Hid (T = dT zs) := hT
      have T0 := Lib.hid (And.intro t0 t1)
      clear hT t0 t1
      go_wp2_with (first | (refine wpList_alloc_obj rfl 32 rfl hd0 HZ0.out ?_; intro w3 h3 b3; have H3 := Lib.hid h3; have B3 := Lib.hid b3; clear h3 b3) | (refine wpList_store_obj rfl 32 _ _ rfl w2.heap.size rfl (hdV T { data := #[] } { data := #[] } { data := #[] } 0 0) hd0 rfl 32 H3.out HS0.out rfl (fun v hv => H1C.out _ v hv (.inr ⟨_, _, _, _, _, _, rfl⟩)) ?_; intro w4 h4 t4; have H4 := Lib.hid h4; have T4 := Lib.hid t4; have c0 := h4.get 0 rfl; clear h4 t4))
      have B4 := Lib.hid (B2.out.trans ((B3.out.trans (T4.out.below (Nat.le_refl _))).mono B2.out.size))
      have H14 : Hid (ObjAt w4 w.heap.size 32 hd0) := (H2.out.below B3.out H2.out.lt).turned T4.out (by have := H2.out.lt; omega)
      refine (rknown_any T w4).mono ?_; rintro e w5 ⟨rfl, rfl⟩
      by_cases hk : known T
      · rw [decide_eq_true hk]
        have HKN : Hid (known (dT zs)) := by show known _; rw [← TD.out]; exact hk
        clear hk
        have X4 : Hid (∀ lo n, BytesIn w4 (some ⟨b, off + lo, none⟩) ((zs.drop lo).take n)) := fun lo n => .inr ⟨b, off + lo, rfl, Nat.lt_of_lt_of_le HLT.out B4.out.size, ((HR.out.below B4.out HLT.out).drop lo).take n⟩
        have L4 : Hid (∀ lo n, lo + n ≤ 512 → ((zs.drop lo).take n).length = n) := fun lo n h => by rw [List.length_take, List.length_drop, HL.out]; omega
        obtain ⟨S1, hS1⟩ := named (strOfNums (cpS ((zs.drop 0).take 100)))
        obtain ⟨S2, hS2⟩ := named (strOfNums (cpS ((zs.drop 157).take 100)))
        obtain ⟨S3, hS3⟩ := named (strOfNums (cpS ((zs.drop 345).take 155)))
        obtain ⟨M4, hM4⟩ := named (pzV ((zs.drop 100).take 8))
        obtain ⟨M5, hM5⟩ := named (pzV ((zs.drop 124).take 12))
        obtain ⟨E1, hE1⟩ := named (cpE ((zs.drop 0).take 100))
        obtain ⟨E2, hE2⟩ := named (cpE ((zs.drop 157).take 100))
        obtain ⟨E3, hE3⟩ := named (cpE ((zs.drop 345).take 155))
        obtain ⟨E4, hE4⟩ := named (pzE ((zs.drop 100).take 8))
        obtain ⟨E5, hE5⟩ := named (pzE ((zs.drop 124).take 12))
        go_wp2_with fail
        refine (Cst.rparse_in (some ⟨b, off, none⟩) 100 cap ((zs.drop 0).take 100) w4 (X4.out 0 100) (L4.out 0 100 (by decide)) i1 HM.out).mono ?_; rintro e w5 ⟨rfl, rfl⟩
        rw [← hS1.out, ← hE1.out]
        go_wp2_with fail
        refine (Cst.rparse_in (some ⟨b, off + 157, none⟩) 100 (cap - 157) ((zs.drop 157).take 100) w4 (X4.out 157 100) (L4.out 157 100 (by decide)) (by omega) (Nat.le_trans (Nat.sub_le _ _) HM.out)).mono ?_; rintro e w5 ⟨rfl, rfl⟩
        rw [← hS2.out, ← hE2.out]
        go_wp2_with fail
        refine (Cst.rparse_in (some ⟨b, off + 345, none⟩) 155 (cap - 345) ((zs.drop 345).take 155) w4 (X4.out 345 155) (L4.out 345 155 (by decide)) (by omega) (Nat.le_trans (Nat.sub_le _ _) HM.out)).mono ?_; rintro e w5 ⟨rfl, rfl⟩
        rw [← hS3.out, ← hE3.out]
        go_wp2_with fail
        refine (Oct.rparse_in (some ⟨b, off + 100, none⟩) 8 (cap - 100) ((zs.drop 100).take 8) w4 (X4.out 100 8) (L4.out 100 8 (by decide)) (by unfold maxLen; decide)).mono ?_; rintro e w5 ⟨rfl, rfl⟩
        rw [← hM4.out, ← hE4.out]
        go_wp2_with fail
        refine (Oct.rparse_in (some ⟨b, off + 124, none⟩) 12 (cap - 124) ((zs.drop 124).take 12) w4 (X4.out 124 12) (L4.out 124 12 (by decide)) (by unfold maxLen; decide)).mono ?_; rintro e w5 ⟨rfl, rfl⟩
        rw [← hM5.out, ← hE5.out]
        have DF : Hid (dFld zs ↔ E1 = 0 ∧ E2 = 0 ∧ E3 = 0 ∧ E4 = 0 ∧ E5 = 0) := by
          show _ ↔ _
          rw [hE1.out, hE2.out, hE3.out, hE4.out, hE5.out]
          exact Iff.rfl
        clear c0
        by_cases hf : E1 = 0 ∧ E2 = 0 ∧ E3 = 0 ∧ E4 = 0 ∧ E5 = 0
        · have HF : Hid (dFld zs) := DF.out.2 hf
          obtain ⟨rfl, rfl, rfl, rfl, rfl⟩ := hf
          have e1 := H4.out.get 1 rfl; have e2 := H4.out.get 2 rfl; have e3 := H4.out.get 3 rfl; have e4 := H4.out.get 4 rfl; have e5 := H4.out.get 5 rfl
          have f1 := H4.out.frozen 1; have f2 := H4.out.frozen 2; have f3 := H4.out.frozen 3; have f4 := H4.out.frozen 4; have f5 := H4.out.frozen 5
          obtain ⟨w6, h6⟩ := named (((((w4.setCell ⟨w2.heap.size, 1, none⟩ (.string S1)).setCell ⟨w2.heap.size, 3, none⟩ (.string S2)).setCell ⟨w2.heap.size, 2, none⟩ (.string S3)).setCell ⟨w2.heap.size, 4, none⟩ (.int .i64 M4)).setCell ⟨w2.heap.size, 5, none⟩ (.int .i64 M5))
          have O6 : Hid (ObjAt w6 w2.heap.size 32 (hdV T S1 S3 S2 M4 M5)) := by
            show ObjAt _ _ _ _
            rw [h6.out]
            exact ((((H4.out.set 1 _).set 3 _).set 2 _).set 4 _).set 5 _
          have W6 : Hid (∀ B, B ≤ w2.heap.size → Below B w4 w6) := fun B hB => by
            rw [h6.out]
            exact (((((Below.refl B w4).setCell (p := ⟨w2.heap.size, 1, none⟩) hB _).setCell (p := ⟨w2.heap.size, 3, none⟩) hB _).setCell (p := ⟨w2.heap.size, 2, none⟩) hB _).setCell (p := ⟨w2.heap.size, 4, none⟩) hB _).setCell (p := ⟨w2.heap.size, 5, none⟩) hB _
          have H16 : Hid (ObjAt w6 w.heap.size 32 hd0) := H14.out.below (W6.out w2.heap.size (Nat.le_refl _)) (by have := H2.out.lt; omega)
          have B6 := Lib.hid (B4.out.trans (W6.out w.heap.size B2.out.size))
          have Z1 : Hid (S1.size ≤ maxLen) := by show _ ≤ _; rw [hS1.out]; exact Nat.le_trans (cpS_size _ ((HZ.out.drop 0).take 100)) (by unfold maxLen; decide)
          have Z2 : Hid (S2.size ≤ maxLen) := by show _ ≤ _; rw [hS2.out]; exact Nat.le_trans (cpS_size _ ((HZ.out.drop 157).take 100)) (by unfold maxLen; decide)
          have Z3 : Hid (S3.size ≤ maxLen) := by show _ ≤ _; rw [hS3.out]; exact Nat.le_trans (cpS_size _ ((HZ.out.drop 345).take 155)) (by unfold maxLen; decide)
          have EQ : Hid (dT zs = T ∧ dNm zs = S1 ∧ dPf zs = S3 ∧ dLk zs = S2 ∧ dMd zs = M4 ∧ dSz zs = M5) := ⟨TD.out.symm, hS1.out.symm, hS3.out.symm, hS2.out.symm, hM4.out.symm, hM5.out.symm⟩
          have e0 := H4.out.get 0 rfl
          go_wp2_with fail
          rw [← h6.out]
          clear e0 e1 e2 e3 e4 e5 f1 f2 f3 f4 f5
          by_cases hck : ckH T S1 S3 S2 M4 M5 = 0
          · have HCK := Lib.hid hck
            have KT : Hid (0 ≤ T ∧ T ≤ 255) := T0.out
            clear hck
            refine (renc_ok T S1 S3 S2 M4 M5 w6 Z1.out Z3.out Z2.out HCK.out).mono ?_; rintro e w7 ⟨b7, c7, rfl, hr7, hl7, hb7⟩
            have B7 := Lib.hid (B6.out.trans (hb7.mono B6.out.size))
            have O7 := Lib.hid (O6.out.below hb7 O6.out.lt)
            have H17 := Lib.hid (H16.out.below hb7 H16.out.lt)
            have hc1 := run_str_of (P := Tryd.prog) (w := w7) Tryd.underlying26 Tryd.underlying5 Tryd.underlying9 hr7 512 c7 (enc_length HCK.out)
            have hc2 := run_str_in (P := Tryd.prog) (w := w7) Tryd.underlying26 Tryd.underlying5 Tryd.underlying9 (HB.out.below B7.out) 512 cap HL.out
            clear hr7 hl7 hb7
            by_cases he : encH T S1 S3 S2 M4 M5 = zs
            · obtain ⟨q6, qV⟩ := de_good HL.out HSL.out HKN.out ⟨HF.out, by obtain ⟨a1, a2, a3, a4, a5, a6⟩ := EQ.out; rw [a1, a2, a3, a4, a5, a6]; exact ⟨HCK.out, he⟩⟩
              have Q6 := Lib.hid q6
              have QV : Hid (dH zs = hdV T S1 S3 S2 M4 M5) := by show _ = _; rw [qV]; obtain ⟨a1, a2, a3, a4, a5, a6⟩ := EQ.out; rw [a1, a2, a3, a4, a5, a6]
              rw [he] at hc1
              obtain ⟨SZ, hSZ⟩ := named (strOfNums zs)
              rw [← hSZ.out] at hc1 hc2
              clear q6 qV he
              have e0 := O7.out.get 0 rfl; have e1 := O7.out.get 1 rfl; have e2 := O7.out.get 2 rfl; have e3 := O7.out.get 3 rfl; have e4 := O7.out.get 4 rfl; have e5 := O7.out.get 5 rfl
              go_wp2_with (first | (refine wpList_store_obj rfl 32 _ _ rfl w.heap.size rfl (hdV T S1 S3 S2 M4 M5) hd0 rfl 32 H17.out HS0.out rfl (fun v hv => H1C.out _ v hv (.inr ⟨_, _, _, _, _, _, rfl⟩)) ?_; intro w8 h8 t8; have H8 := Lib.hid h8; have T8 := Lib.hid t8; clear h8 t8))
              exact bodyPost_ret (results_obj_tmp Tryd.results16 HT.out _ w.heap.size rfl _ (hdV T S1 S3 S2 M4 M5) H8.out rfl) rfl ⟨by rw [hR.out, hV.out, Q6.out, QV.out]; rfl, B7.out.trans (T8.out.below (Nat.le_refl _))⟩
            · obtain ⟨q6, qV⟩ := de_syn HL.out HSL.out HKN.out (fun h => he (by have := h.2.2; obtain ⟨a1, a2, a3, a4, a5, a6⟩ := EQ.out; rw [a1, a2, a3, a4, a5, a6] at this; exact this))
              have Q6 := Lib.hid q6; have QV := Lib.hid qV
              obtain ⟨SZ, hSZ⟩ := named (strOfNums zs)
              obtain ⟨SE, hSE⟩ := named (strOfNums (encH T S1 S3 S2 M4 M5))
              have hnl : (SE.toList == SZ.toList) = false := bytes_ne (by rw [hSZ.out, hSE.out]; exact Chk.str_ne (enc_bytes KT.out _ _ _ _ _) HZ.out he)
              rw [← hSZ.out] at hc2
              rw [← hSE.out] at hc1
              clear q6 qV he
              go_wp2_with (first | (refine wpList_store_obj rfl 32 _ _ rfl w.heap.size rfl hd0 hd0 rfl 32 H17.out HS0.out rfl (fun v hv => H1C.out _ v hv (.inl rfl)) ?_; intro w8 h8 t8; have H8 := Lib.hid h8; have T8 := Lib.hid t8; clear h8 t8))
              exact bodyPost_ret (results_obj_tmp Tryd.results16 HT.out _ w.heap.size rfl _ hd0 H8.out rfl) rfl ⟨by rw [hR.out, hV.out, Q6.out, QV.out]; rfl, B7.out.trans (T8.out.below (Nat.le_refl _))⟩
          · obtain ⟨q6, qV⟩ := de_syn HL.out HSL.out HKN.out (fun h => hck (by have := h.2.1; obtain ⟨a1, a2, a3, a4, a5, a6⟩ := EQ.out; rw [a1, a2, a3, a4, a5, a6] at this; exact this))
            have Q6 := Lib.hid q6; have QV := Lib.hid qV
            obtain ⟨E, hE⟩ := named (ckH T S1 S3 S2 M4 M5)
            have hne : (E != 0) = true := by rw [hE.out]; simp [hck]
            have HCK := Lib.hid hck
            clear q6 qV hck
            refine (renc_bad T S1 S3 S2 M4 M5 w6 Z1.out Z3.out Z2.out HCK.out).mono ?_; rintro e w7 ⟨rfl, hb7⟩
            rw [← hE.out]
            have B7 := Lib.hid (B6.out.trans (hb7.mono B6.out.size))
            have H17 := Lib.hid (H16.out.below hb7 H16.out.lt)
            clear hb7
            go_wp2_with (first | (refine wpList_store_obj rfl 32 _ _ rfl w.heap.size rfl hd0 hd0 rfl 32 H17.out HS0.out rfl (fun v hv => H1C.out _ v hv (.inl rfl)) ?_; intro w8 h8 t8; have H8 := Lib.hid h8; have T8 := Lib.hid t8; clear h8 t8))
            exact bodyPost_ret (results_obj_tmp Tryd.results16 HT.out _ w.heap.size rfl _ hd0 H8.out rfl) rfl ⟨by rw [hR.out, hV.out, Q6.out, QV.out]; rfl, B7.out.trans (T8.out.below (Nat.le_refl _))⟩
        · have HF : Hid (¬ dFld zs) := fun h => hf (DF.out.1 h)
          obtain ⟨q6, qV⟩ := de_syn HL.out HSL.out HKN.out (fun h => HF.out h.1)
          have Q6 := Lib.hid q6; have QV := Lib.hid qV
          clear q6 qV
          have cs : (E1 != 0) = true ∨ ((E1 != 0) = false ∧ (E2 != 0) = true) ∨ ((E1 != 0) = false ∧ (E2 != 0) = false ∧ (E3 != 0) = true) ∨ ((E1 != 0) = false ∧ (E2 != 0) = false ∧ (E3 != 0) = false ∧ (E4 != 0) = true) ∨
              ((E1 != 0) = false ∧ (E2 != 0) = false ∧ (E3 != 0) = false ∧ (E4 != 0) = false ∧ (E5 != 0) = true) := by
            simp only [bne_iff_ne, ne_eq, bne_eq_false_iff_eq]
            by_cases a1 : E1 = 0
            · by_cases a2 : E2 = 0
              · by_cases a3 : E3 = 0
                · by_cases a4 : E4 = 0
                  · exact .inr (.inr (.inr (.inr ⟨a1, a2, a3, a4, fun a5 => hf ⟨a1, a2, a3, a4, a5⟩⟩)))
                  · exact .inr (.inr (.inr (.inl ⟨a1, a2, a3, a4⟩)))
                · exact .inr (.inr (.inl ⟨a1, a2, a3⟩))
              · exact .inr (.inl ⟨a1, a2⟩)
            · exact .inl a1
          clear hf
          rcases cs with d1 | ⟨d1, d2⟩ | ⟨d1, d2, d3⟩ | ⟨d1, d2, d3, d4⟩ | ⟨d1, d2, d3, d4, d5⟩
          all_goals
            go_wp2_with (first | (refine wpList_store_obj rfl 32 _ _ rfl w.heap.size rfl hd0 hd0 rfl 32 H14.out HS0.out rfl (fun v hv => H1C.out _ v hv (.inl rfl)) ?_; intro w7 h7 t7; have H7 := Lib.hid h7; have T7 := Lib.hid t7; clear h7 t7))
            exact bodyPost_ret (results_obj_tmp Tryd.results16 HT.out _ w.heap.size rfl _ hd0 H7.out rfl) rfl ⟨by rw [hR.out, hV.out, Q6.out, QV.out]; rfl, B4.out.trans (T7.out.below (Nat.le_refl _))⟩
      · have HKN : Hid (¬ known (dT zs)) := by show ¬ known _; rw [← TD.out]; exact hk
        rw [decide_eq_false hk]
        clear hk
        obtain ⟨q6, qV⟩ := de_kind HL.out HSL.out HKN.out
        have Q6 := Lib.hid q6; have QV := Lib.hid qV
        clear q6 qV c0
        go_wp2_with (first | (refine wpList_store_obj rfl 32 _ _ rfl w.heap.size rfl hd0 hd0 rfl 32 H14.out HS0.out rfl (fun v hv => H1C.out _ v hv (.inl rfl)) ?_; intro w7 h7 t7; have H7 := Lib.hid h7; have T7 := Lib.hid t7; clear h7 t7))
        exact bodyPost_ret (results_obj_tmp Tryd.results16 HT.out _ w.heap.size rfl _ hd0 H7.out rfl) rfl ⟨by rw [hR.out, hV.out, Q6.out, QV.out]; rfl, B4.out.trans (T7.out.below (Nat.le_refl _))⟩
    · obtain ⟨q6, qV⟩ := de_ver HL.out hs
      have Q6 := Lib.hid q6; have QV := Lib.hid qV
      clear q6 qV hs
      go_wp2_with (first | (refine wpList_store_obj rfl 32 _ _ rfl w.heap.size rfl hd0 hd0 rfl 32 H2.out HS0.out rfl (fun v hv => H1C.out _ v hv (.inl rfl)) ?_; intro w7 h7 t7; have H7 := Lib.hid h7; have T7 := Lib.hid t7; clear h7 t7))
      exact bodyPost_ret (results_obj_tmp Tryd.results16 HT.out _ w.heap.size rfl _ hd0 H7.out rfl) rfl ⟨by rw [hR.out, hV.out, Q6.out, QV.out]; rfl, B2.out.trans (T7.out.below (Nat.le_refl _))⟩
  · obtain ⟨q6, qV⟩ := de_len (zs := zs) (by rw [hl]; exact h5)
    have Q6 := Lib.hid q6; have QV := Lib.hid qV
    have hne : ((n : Int) != 512) = true := by simp; omega
    clear q6 qV hb hl hz hm hc h5
    go_enter Tryd.func16, Tryd.ntmps16
    go_wp2_with (first | (refine wpList_alloc_obj rfl 32 rfl hd0 HZ0.out ?_; intro w1 h1 b1; have H1 := Lib.hid h1; have B1 := Lib.hid b1; clear h1 b1) | (refine wpList_store_obj rfl 32 _ _ rfl w.heap.size rfl hd0 hd0 rfl 32 H1.out HS0.out rfl (fun v hv => H1C.out _ v hv (.inl rfl)) ?_; intro w7 h7 t7; have H7 := Lib.hid h7; have T7 := Lib.hid t7; clear h7 t7))
    exact bodyPost_ret (results_obj_tmp Tryd.results16 HT.out _ w.heap.size rfl _ hd0 H7.out rfl) rfl ⟨by rw [hR.out, hV.out, Q6.out, QV.out]; rfl, B1.out.trans (T7.out.below (Nat.le_refl _))⟩
end Go.Proofs.YtbgmhdhfcckbbaaDoor.Ust
