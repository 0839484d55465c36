/-
  UstarRoundTrip, walked.
-/
import Derived.Test.YtbgmhdhfcckbbaaDoorUstLawFns
import Derived.Test.YtbgmhdhfcckbbaaDoorUstDIface
import Derived.Test.YtbgmhdhfcckbbaaDoorChkFns
namespace Go.Proofs.YtbgmhdhfcckbbaaDoor
open Go.RowKit
open Ust Cst

theorem cpS_size' (zs : List Int) (h : Bytes zs) : (strOfNums (cpS zs)).size ≤ maxLen := by
  have hb : ∀ z ∈ cpS zs, 0 ≤ z ∧ z ≤ 255 := cpS_bd zs h
  rw [← numsOf_length, numsOf_strOfNums hb]
  unfold cpS maxLen
  split
  · exact Nat.zero_le _
  · split
    · exact Nat.zero_le _
    · have := trimZ_length zs; omega
theorem dNm_size (zs : List Int) (h : Bytes zs) : (dNm zs).size ≤ maxLen := cpS_size' _ (h.take _)
theorem dPf_size (zs : List Int) (h : Bytes zs) : (dPf zs).size ≤ maxLen := cpS_size' _ ((h.drop _).take _)
theorem dLk_size (zs : List Int) (h : Bytes zs) : (dLk zs).size ≤ maxLen := cpS_size' _ ((h.drop _).take _)

set_option maxRecDepth 100000 in
set_option maxHeartbeats 8000000 in
theorem walk_UstarRoundTrip (T : Int) (nm pf lk : ByteArray) (md sz : Int) (a : Option Addr) (len cap : Nat) (zs : List Int) (w : World) (hT : (Lit.int .u8 T).wf = true) (hn : nm.size ≤ maxLen) (hp : pf.size ≤ maxLen) (hk : lk.size ≤ maxLen) (_ : (Lit.int .i64 md).wf = true) (_ : (Lit.int .i64 sz).wf = true) (h : ArgInts .u8 w a len cap zs) :
    Calls Tryd.prog 5 #[.agg #[.int .u8 T, .string nm, .string pf, .string lk, .int .i64 md, .int .i64 sz], .slice a len cap] w fun e w' => e = .returned (.bool true) ∧ Below w.heap.size w w' := by
  have hb := h.bytes
  have HB := Lib.hid hb; have HL := Lib.hid h.1; have HC := Lib.hid h.2.1; have HM := Lib.hid h.2.2.1
  have HZ : Hid (Bytes zs) := hb.bytes
  have hlm : (len : Int) ≤ 9223372036854775807 := by have := h.2.1; have := h.2.2.1; unfold maxLen at *; omega
  have HN := Lib.hid hn; have HP := Lib.hid hp; have HK := Lib.hid hk; have HTB := Lib.hid (bounds_u8 hT)
  have hz1 : (Tryd.prog.info? 23).map (·.zero) = some (some (.agg hd0.toArray)) := by kernel_rfl
  have hs1 : (Tryd.prog.info? 23).map (·.size) = some 6 := by kernel_rfl
  have HZ1 := Lib.hid hz1; have HS1 := Lib.hid hs1
  have OC : Hid (∀ T nm pf lk md sz, ∀ v ∈ hdV T nm pf lk md sz, v.oneCell' = true) := by
    intro T nm pf lk md sz v hv; simp at hv; rcases hv with rfl | rfl | rfl | rfl | rfl | rfl <;> rfl
  clear h hb hn hp hk hT hz1 hs1
  go_enter Tryd.func5, Tryd.ntmps5
  go_wp2_with (first | (refine wpList_box_obj rfl 23 _ rfl (hdV T nm pf lk md sz) rfl ?_; intro w1 h1 b1; have H1 := Lib.hid h1; have B1 := Lib.hid b1; have c0 := h1.get 0 rfl; have c1 := h1.get 1 rfl; have c2 := h1.get 2 rfl; have c3 := h1.get 3 rfl; have c4 := h1.get 4 rfl; have c5 := h1.get 5 rfl; clear h1 b1))
  refine (large_any T nm pf lk md sz w1 HN.out HP.out HK.out).mono ?_; rintro e w2 ⟨LB, rfl, b2⟩
  have B2 := Lib.hid (B1.out.trans (b2.mono B1.out.size)); have H2 := Lib.hid (H1.out.below b2 H1.out.lt)
  clear b2
  clear c0 c1 c2 c3 c4 c5
  by_cases hbig : LB = true ∨ 2000 < len
  · have go : ∀ w3 : World, Below w.heap.size w w3 → Calls Tryd.prog 10 #[] w3 fun e w' => e = .returned (.bool true) ∧ Below w.heap.size w w' := fun w3 h3 => (alive_any w3).mono fun e w' ⟨h1, h2⟩ => ⟨h1, h3.trans (h2.mono h3.size)⟩
    have GO := Lib.hid go; clear go
    cases LB with
    | true =>
      clear hbig
      go_wp2_with fail
      refine (GO.out w2 B2.out).mono ?_; rintro e w3 ⟨rfl, b3⟩
      have B3 := Lib.hid b3; clear b3
      go_wp2_with fail
      go_ret
      exact ⟨rfl, B3.out⟩
    | false =>
      have hlen : (2000 : Int) < len := by rcases hbig with h | h; cases h; omega
      clear hbig
      go_wp2_with fail
      refine (GO.out w2 B2.out).mono ?_; rintro e w3 ⟨rfl, b3⟩
      have B3 := Lib.hid b3; clear b3
      go_wp2_with fail
      go_ret
      exact ⟨rfl, B3.out⟩
  · obtain rfl : LB = false := by cases LB; rfl; exact absurd (.inl rfl) hbig
    have hlen : ¬ (2000 : Int) < len := by have : ¬ 2000 < len := fun h => hbig (.inr h); omega
    clear hbig
    have c0 := H2.out.get 0 rfl; have c1 := H2.out.get 1 rfl; have c2 := H2.out.get 2 rfl; have c3 := H2.out.get 3 rfl; have c4 := H2.out.get 4 rfl; have c5 := H2.out.get 5 rfl
    go_wp2_with fail
    clear c0 c1 c2 c3 c4 c5
    by_cases hck : ckH T nm pf lk md sz = 0
    · have HCK := Lib.hid hck
      refine (enc_ok T nm pf lk md sz w2 HN.out HP.out HK.out hck).mono ?_; rintro e w3 ⟨xb, xc, rfl, hr3, _, hlt3, hc3, hm3, hb3⟩
      have B3 := Lib.hid (B2.out.trans (hb3.mono B2.out.size)); have H3 := Lib.hid (H2.out.below hb3 H2.out.lt)
      have R3 := Lib.hid hr3; have L3 := Lib.hid hlt3; have C3 := Lib.hid hc3; have M3 := Lib.hid hm3
      clear hr3 hlt3 hb3 hc3 hm3 hck
      go_wp2_with fail
      refine (dec_any (some ⟨xb, 0, none⟩) 512 xc _ w3 (.of_row R3.out L3.out) (enc_length HCK.out) (enc_bytes HTB.out _ _ _ _ _) C3.out M3.out).mono ?_; rintro e w4 ⟨rfl, b4⟩
      obtain ⟨q1, q2, q3, q4, q5, q6, q7⟩ := dec_enc HCK.out
      have hD : dH (encH T nm pf lk md sz) = hdV T nm pf lk md sz := by unfold dH; rw [if_pos q1, q2, q3, q4, q5, q6, q7]
      rw [q1, hD]
      have B4 := Lib.hid (B3.out.trans (b4.mono B3.out.size)); have H4 := Lib.hid (H3.out.below b4 H3.out.lt); have R4 := Lib.hid (R3.out.below b4 L3.out); have L4 : Hid (xb < w4.heap.size) := Nat.lt_of_lt_of_le L3.out b4.size
      clear b4 q1 q2 q3 q4 q5 q6 q7 hD
      have hq : ∀ w : World, (Op.equalIn 10000 23 (.agg (hdV T nm pf lk md sz).toArray) (.agg (hdV T nm pf lk md sz).toArray)).run Tryd.prog w = .ok true w := fun w => by
        rw [run_eqH 23 Tryd.underlying23 (by kernel_rfl)]; simp
      go_wp2_with (first | (refine wpList_alloc_obj rfl 23 rfl hd0 HZ1.out ?_; intro w5 h5 b5; have H5 := Lib.hid h5; have B5 := Lib.hid b5; clear h5 b5) | (refine wpList_store_obj rfl 23 _ _ rfl w4.heap.size rfl (hdV T nm pf lk md sz) hd0 rfl 23 H5.out HS1.out rfl (OC.out _ _ _ _ _ _) ?_; intro w6 h6 t6; have H6 := Lib.hid h6; have T6 := Lib.hid t6; have G6 := Lib.hid ((H4.out.below B5.out H4.out.lt).turned t6 (by have := H4.out.lt; omega)); have d0 := h6.get 0 rfl; have d1 := h6.get 1 rfl; have d2 := h6.get 2 rfl; have d3 := h6.get 3 rfl; have d4 := h6.get 4 rfl; have d5 := h6.get 5 rfl; have c0 := G6.out.get 0 rfl; have c1 := G6.out.get 1 rfl; have c2 := G6.out.get 2 rfl; have c3 := G6.out.get 3 rfl; have c4 := G6.out.get 4 rfl; have c5 := G6.out.get 5 rfl; clear h6 t6))
      have B56 : Below w4.heap.size w4 w6 := B5.out.trans (T6.out.below (Nat.le_refl _))
      have B6 := Lib.hid (B4.out.trans (B56.mono B4.out.size)); have R6 := Lib.hid (R4.out.below B56 L4.out); have L6 : Hid (xb < w6.heap.size) := Nat.lt_of_lt_of_le L4.out B56.size
      clear B56
      refine (Chk.ver_ok (some ⟨xb, 0, none⟩) xc _ w6 0 (enc_length HCK.out) (.of_row R6.out L6.out) (enc_bytes HTB.out _ _ _ _ _) (.inl ⟨(enc_sealed HCK.out).symm, rfl⟩)).mono ?_; rintro e w7 ⟨rfl, b7⟩
      have B7 := Lib.hid (B6.out.trans (b7.mono B6.out.size)); clear b7
      clear c0 c1 c2 c3 c4 c5 d0 d1 d2 d3 d4 d5 hq
      go_wp2_with fail
      refine (dec_any a len cap zs w7 (HB.out.below B7.out) HL.out HZ.out HC.out HM.out).mono ?_; rintro e y1 ⟨rfl, b1⟩
      have Y1 := Lib.hid (B7.out.trans (b1.mono B7.out.size)); clear b1
      by_cases hE : deE zs = 0
      · obtain ⟨hl5, hsl, hkn, hok⟩ := dec_ok hE
        have hD := (de_good hl5 hsl hkn hok).2
        have HOK := Lib.hid hok; have HL5 := Lib.hid hl5; have HKN := Lib.hid hkn
        rw [hE, hD]
        obtain ⟨T', hT'⟩ := named (dT zs); obtain ⟨nm', hnm'⟩ := named (dNm zs); obtain ⟨pf', hpf'⟩ := named (dPf zs); obtain ⟨lk', hlk'⟩ := named (dLk zs); obtain ⟨md', hmd'⟩ := named (dMd zs); obtain ⟨sz', hsz'⟩ := named (dSz zs)
        rw [← hT'.out, ← hnm'.out, ← hpf'.out, ← hlk'.out, ← hmd'.out, ← hsz'.out]
        have CK : Hid (ckH T' nm' pf' lk' md' sz' = 0 ∧ encH T' nm' pf' lk' md' sz' = zs) := by show _ ∧ _; rw [hT'.out, hnm'.out, hpf'.out, hlk'.out, hmd'.out, hsz'.out]; exact ⟨HOK.out.2.1, HOK.out.2.2⟩
        have Q1 : Hid (nm'.size ≤ maxLen) := by show _ ≤ _; rw [hnm'.out]; exact dNm_size zs HZ.out
        have Q2 : Hid (pf'.size ≤ maxLen) := by show _ ≤ _; rw [hpf'.out]; exact dPf_size zs HZ.out
        have Q3 : Hid (lk'.size ≤ maxLen) := by show _ ≤ _; rw [hlk'.out]; exact dLk_size zs HZ.out
        clear hE hl5 hsl hkn hok hD
        go_wp2_with (first | (refine wpList_alloc_obj rfl 23 rfl hd0 HZ1.out ?_; intro y2 h2 b2; have H2 := Lib.hid h2; have Y2 := Lib.hid b2; clear h2 b2) | (refine wpList_store_obj rfl 23 _ _ rfl y1.heap.size rfl (hdV T' nm' pf' lk' md' sz') hd0 rfl 23 H2.out HS1.out rfl (OC.out _ _ _ _ _ _) ?_; intro y3 h3 t3; have H3 := Lib.hid h3; have T3 := Lib.hid t3; have d0 := h3.get 0 rfl; have d1 := h3.get 1 rfl; have d2 := h3.get 2 rfl; have d3 := h3.get 3 rfl; have d4 := h3.get 4 rfl; have d5 := h3.get 5 rfl; clear h3 t3))
        have Y3 := Lib.hid (Y1.out.trans ((Y2.out.mono Y1.out.size).trans (T3.out.below Y1.out.size)))
        refine (enc_ok T' nm' pf' lk' md' sz' y3 Q1.out Q2.out Q3.out CK.out.1).mono ?_; rintro e y4 ⟨bb, cc, rfl, hr4, _, hlt4, _, _, hb4⟩
        rw [CK.out.2] at hr4
        have Y4 := Lib.hid (Y3.out.trans (hb4.mono Y3.out.size)); have R4 := Lib.hid hr4; have L4 := Lib.hid hlt4
        clear hr4 hlt4 hb4 d0 d1 d2 d3 d4 d5
        go_wp2_with fail
        refine (alive_any y4).mono ?_; rintro e y5 ⟨rfl, b5⟩
        have Y5 := Lib.hid (Y4.out.trans (b5.mono Y4.out.size))
        have hc1 := run_str_of (P := Tryd.prog) (w := y5) Tryd.underlying26 Tryd.underlying5 Tryd.underlying9 (R4.out.below b5 L4.out) 512 cc HL5.out
        have hc2 := run_str_in (P := Tryd.prog) (w := y5) Tryd.underlying26 Tryd.underlying5 Tryd.underlying9 (HB.out.below Y5.out) len cap HL.out
        obtain ⟨SZ, hSZ⟩ := named (strOfNums zs)
        rw [← hSZ.out] at hc1 hc2
        clear b5
        go_wp2_with fail
        go_ret
        exact ⟨rfl, Y5.out⟩
      · have hD : dH zs = hd0 := by unfold dH; rw [if_neg hE]
        obtain ⟨E, hEn⟩ := named (deE zs)
        have hne : (E != 0) = true := by rw [hEn.out]; simp [hE]
        rw [hD, ← hEn.out]
        clear hE hD
        go_wp2_with (first | (refine wpList_alloc_obj rfl 23 rfl hd0 HZ1.out ?_; intro y2 h2 b2; have H2 := Lib.hid h2; have Y2 := Lib.hid b2; clear h2 b2) | (refine wpList_store_obj rfl 23 _ _ rfl y1.heap.size rfl hd0 hd0 rfl 23 H2.out HS1.out rfl (OC.out _ _ _ _ _ _) ?_; intro y3 h3 t3; have H3 := Lib.hid h3; have T3 := Lib.hid t3; clear h3 t3))
        have Y3 := Lib.hid (Y1.out.trans ((Y2.out.mono Y1.out.size).trans (T3.out.below Y1.out.size)))
        refine (alive_any y3).mono ?_; rintro e y5 ⟨rfl, b5⟩
        have Y5 := Lib.hid (Y3.out.trans (b5.mono Y3.out.size)); have H5 := Lib.hid (H3.out.below b5 H3.out.lt)
        clear b5
        have d0 := H5.out.get 0 rfl; have d1 := H5.out.get 1 rfl; have d2 := H5.out.get 2 rfl; have d3 := H5.out.get 3 rfl; have d4 := H5.out.get 4 rfl; have d5 := H5.out.get 5 rfl
        have hq : ∀ w : World, (Op.equalIn 10000 23 (.agg hd0.toArray) (.agg hd0.toArray)).run Tryd.prog w = .ok true w := fun w => by
          rw [run_eqH 23 Tryd.underlying23 (by kernel_rfl)]; simp
        go_wp2_with fail
        go_ret
        exact ⟨rfl, Y5.out⟩
    · obtain ⟨E0, hE0⟩ := named (ckH T nm pf lk md sz)
      have hne0 : (E0 == 0) = false := by rw [hE0.out]; simp [hck]
      refine (enc_bad T nm pf lk md sz w2 HN.out HP.out HK.out HTB.out hck).mono ?_; rintro e w3 ⟨rfl, b3⟩
      rw [← hE0.out]
      have B3 := Lib.hid (B2.out.trans (b3.mono B2.out.size)); clear b3 hck
      go_wp2_with fail
      refine (dec_any a len cap zs w3 (HB.out.below B3.out) HL.out HZ.out HC.out HM.out).mono ?_; rintro e y1 ⟨rfl, b1⟩
      have Y1 := Lib.hid (B3.out.trans (b1.mono B3.out.size)); clear b1
      by_cases hE : deE zs = 0
      · obtain ⟨hl5, hsl, hkn, hok⟩ := dec_ok hE
        have hD := (de_good hl5 hsl hkn hok).2
        have HOK := Lib.hid hok; have HL5 := Lib.hid hl5; have HKN := Lib.hid hkn
        rw [hE, hD]
        obtain ⟨T', hT'⟩ := named (dT zs); obtain ⟨nm', hnm'⟩ := named (dNm zs); obtain ⟨pf', hpf'⟩ := named (dPf zs); obtain ⟨lk', hlk'⟩ := named (dLk zs); obtain ⟨md', hmd'⟩ := named (dMd zs); obtain ⟨sz', hsz'⟩ := named (dSz zs)
        rw [← hT'.out, ← hnm'.out, ← hpf'.out, ← hlk'.out, ← hmd'.out, ← hsz'.out]
        have CK : Hid (ckH T' nm' pf' lk' md' sz' = 0 ∧ encH T' nm' pf' lk' md' sz' = zs) := by show _ ∧ _; rw [hT'.out, hnm'.out, hpf'.out, hlk'.out, hmd'.out, hsz'.out]; exact ⟨HOK.out.2.1, HOK.out.2.2⟩
        have Q1 : Hid (nm'.size ≤ maxLen) := by show _ ≤ _; rw [hnm'.out]; exact dNm_size zs HZ.out
        have Q2 : Hid (pf'.size ≤ maxLen) := by show _ ≤ _; rw [hpf'.out]; exact dPf_size zs HZ.out
        have Q3 : Hid (lk'.size ≤ maxLen) := by show _ ≤ _; rw [hlk'.out]; exact dLk_size zs HZ.out
        clear hE hl5 hsl hkn hok hD
        go_wp2_with (first | (refine wpList_alloc_obj rfl 23 rfl hd0 HZ1.out ?_; intro y2 h2 b2; have H2 := Lib.hid h2; have Y2 := Lib.hid b2; clear h2 b2) | (refine wpList_store_obj rfl 23 _ _ rfl y1.heap.size rfl (hdV T' nm' pf' lk' md' sz') hd0 rfl 23 H2.out HS1.out rfl (OC.out _ _ _ _ _ _) ?_; intro y3 h3 t3; have H3 := Lib.hid h3; have T3 := Lib.hid t3; have d0 := h3.get 0 rfl; have d1 := h3.get 1 rfl; have d2 := h3.get 2 rfl; have d3 := h3.get 3 rfl; have d4 := h3.get 4 rfl; have d5 := h3.get 5 rfl; clear h3 t3))
        have Y3 := Lib.hid (Y1.out.trans ((Y2.out.mono Y1.out.size).trans (T3.out.below Y1.out.size)))
        refine (enc_ok T' nm' pf' lk' md' sz' y3 Q1.out Q2.out Q3.out CK.out.1).mono ?_; rintro e y4 ⟨bb, cc, rfl, hr4, _, hlt4, _, _, hb4⟩
        rw [CK.out.2] at hr4
        have Y4 := Lib.hid (Y3.out.trans (hb4.mono Y3.out.size)); have R4 := Lib.hid hr4; have L4 := Lib.hid hlt4
        clear hr4 hlt4 hb4 d0 d1 d2 d3 d4 d5
        go_wp2_with fail
        refine (alive_any y4).mono ?_; rintro e y5 ⟨rfl, b5⟩
        have Y5 := Lib.hid (Y4.out.trans (b5.mono Y4.out.size))
        have hc1 := run_str_of (P := Tryd.prog) (w := y5) Tryd.underlying26 Tryd.underlying5 Tryd.underlying9 (R4.out.below b5 L4.out) 512 cc HL5.out
        have hc2 := run_str_in (P := Tryd.prog) (w := y5) Tryd.underlying26 Tryd.underlying5 Tryd.underlying9 (HB.out.below Y5.out) len cap HL.out
        obtain ⟨SZ, hSZ⟩ := named (strOfNums zs)
        rw [← hSZ.out] at hc1 hc2
        clear b5
        go_wp2_with fail
        go_ret
        exact ⟨rfl, Y5.out⟩
      · have hD : dH zs = hd0 := by unfold dH; rw [if_neg hE]
        obtain ⟨E, hEn⟩ := named (deE zs)
        have hne : (E != 0) = true := by rw [hEn.out]; simp [hE]
        rw [hD, ← hEn.out]
        clear hE hD
        go_wp2_with (first | (refine wpList_alloc_obj rfl 23 rfl hd0 HZ1.out ?_; intro y2 h2 b2; have H2 := Lib.hid h2; have Y2 := Lib.hid b2; clear h2 b2) | (refine wpList_store_obj rfl 23 _ _ rfl y1.heap.size rfl hd0 hd0 rfl 23 H2.out HS1.out rfl (OC.out _ _ _ _ _ _) ?_; intro y3 h3 t3; have H3 := Lib.hid h3; have T3 := Lib.hid t3; clear h3 t3))
        have Y3 := Lib.hid (Y1.out.trans ((Y2.out.mono Y1.out.size).trans (T3.out.below Y1.out.size)))
        refine (alive_any y3).mono ?_; rintro e y5 ⟨rfl, b5⟩
        have Y5 := Lib.hid (Y3.out.trans (b5.mono Y3.out.size)); have H5 := Lib.hid (H3.out.below b5 H3.out.lt)
        clear b5
        have d0 := H5.out.get 0 rfl; have d1 := H5.out.get 1 rfl; have d2 := H5.out.get 2 rfl; have d3 := H5.out.get 3 rfl; have d4 := H5.out.get 4 rfl; have d5 := H5.out.get 5 rfl
        have hq : ∀ w : World, (Op.equalIn 10000 23 (.agg hd0.toArray) (.agg hd0.toArray)).run Tryd.prog w = .ok true w := fun w => by
          rw [run_eqH 23 Tryd.underlying23 (by kernel_rfl)]; simp
        go_wp2_with fail
        go_ret
        exact ⟨rfl, Y5.out⟩
end Go.Proofs.YtbgmhdhfcckbbaaDoor
