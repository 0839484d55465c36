/-
  UstarRejectsOneByte, walked.
-/
import Derived.Test.YtbgmhdhfcckbbaaDoorUstLawFns
import Derived.Test.YtbgmhdhfcckbbaaDoorUstDIface
import Derived.Test.YtbgmhdhfcckbbaaDoorChkRefS
import Derived.Laws.BitsAllLaws
namespace Go.Proofs.YtbgmhdhfcckbbaaDoor
open Go.RowKit
open Ust Chk

set_option maxRecDepth 100000 in
set_option maxHeartbeats 8000000 in
theorem walk_UstarRejectsOneByte (T : Int) (nm pf lk : ByteArray) (md sz at_ by_ : Int) (w : World) (hT : (Lit.int .u8 T).wf = true) (hn : nm.size ≤ maxLen) (hp : pf.size ≤ maxLen) (hk : lk.size ≤ maxLen) (_ : (Lit.int .i64 md).wf = true) (_ : (Lit.int .i64 sz).wf = true) (hat : (Lit.int .u16 at_).wf = true) (hby : (Lit.int .u8 by_).wf = true) :
    Calls Tryd.prog 6 #[.agg #[.int .u8 T, .string nm, .string pf, .string lk, .int .i64 md, .int .i64 sz], .int .u16 at_, .int .u8 by_] w fun e w' => e = .returned (.bool true) ∧ Below w.heap.size w w' := by
  have HN := Lib.hid hn; have HP := Lib.hid hp; have HK := Lib.hid hk; have HTB := Lib.hid (bounds_u8 hT)
  obtain ⟨b0, b1⟩ := bounds_u8 hby
  have hat' : 0 ≤ at_ ∧ at_ ≤ 65535 := bounds_u16 hat
  obtain ⟨a0, a1⟩ := hat'
  obtain ⟨i, hi, hi2⟩ : ∃ i : Nat, at_ % 512 = i ∧ i < 512 := ⟨(at_ % 512).toNat, by omega⟩
  have hz1 : (Tryd.prog.info? 23).map (·.zero) = some (some (.agg hd0.toArray)) := by kernel_rfl
  have hs1 : (Tryd.prog.info? 23).map (·.size) = some 6 := by kernel_rfl
  have he1 : (Tryd.prog.info? 5).map (·.size) = some 1 := by kernel_rfl
  have HZ1 := Lib.hid hz1; have HS1 := Lib.hid hs1; have HE := Lib.hid he1
  obtain ⟨i0, HI⟩ := info_u8 (P := Tryd.prog) (e := 5) (by kernel_rfl)
  have OC : Hid (∀ T nm pf lk md sz, ∀ v ∈ hdV T nm pf lk md sz, v.oneCell' = true) := by
    intro T nm pf lk md sz v hv; simp at hv; rcases hv with rfl | rfl | rfl | rfl | rfl | rfl <;> rfl
  have GO : Hid (∀ w3 : World, Below w.heap.size w w3 → Calls Tryd.prog 10 #[] w3 fun e w' => e = .returned (.bool true) ∧ Below w.heap.size w w') := fun w3 h3 => (alive_any w3).mono fun e w' ⟨h1, h2⟩ => ⟨h1, h3.trans (h2.mono h3.size)⟩
  clear hn hp hk hT hz1 hs1 he1 hat hby
  go_enter Tryd.func6, Tryd.ntmps6
  go_wp2_with (first | (refine wpList_box_obj rfl 23 _ rfl (hdV T nm pf lk md sz) rfl ?_; intro w1 h1 b1; have H1 := Lib.hid h1; have B1 := Lib.hid b1; have c0 := h1.get 0 rfl; have c1 := h1.get 1 rfl; have c2 := h1.get 2 rfl; have c3 := h1.get 3 rfl; have c4 := h1.get 4 rfl; have c5 := h1.get 5 rfl; clear h1 b1))
  clear c0 c1 c2 c3 c4 c5
  by_cases hck : ckH T nm pf lk md sz = 0
  · have HCK := Lib.hid hck
    refine (enc_ok T nm pf lk md sz w1 HN.out HP.out HK.out hck).mono ?_; rintro e w2 ⟨xb, xc, rfl, hr2, _, hlt2, hc2, hm2, hb2⟩
    obtain ⟨X, hX⟩ := named (encH T nm pf lk md sz)
    rw [← hX.out] at hr2
    have XL : Hid (X.length = 512) := by show _ = _; rw [hX.out]; exact enc_length hck
    have XB : Hid (Bytes X) := by show Bytes _; rw [hX.out]; exact enc_bytes HTB.out _ _ _ _ _
    have R2 := Lib.hid hr2; have L2 := Lib.hid hlt2; have C2 := Lib.hid hc2; have B2 := Lib.hid (B1.out.trans (hb2.mono B1.out.size)); have H2 := Lib.hid (H1.out.below hb2 H1.out.lt)
    clear hr2 hlt2 hc2 hm2 hb2 hck
    have c0 := H2.out.get 0 rfl; have c1 := H2.out.get 1 rfl; have c2 := H2.out.get 2 rfl; have c3 := H2.out.get 3 rfl; have c4 := H2.out.get 4 rfl; have c5 := H2.out.get 5 rfl
    go_wp2_with fail
    refine (large_any T nm pf lk md sz w2 HN.out HP.out HK.out).mono ?_; rintro e w3 ⟨LB, rfl, b3⟩
    have B3 := Lib.hid (B2.out.trans (b3.mono B2.out.size)); have H3 := Lib.hid (H2.out.below b3 H2.out.lt); have R3 := Lib.hid (R2.out.below b3 L2.out); have L3 : Hid (xb < w3.heap.size) := Nat.lt_of_lt_of_le L2.out b3.size
    clear b3
    clear c0 c1 c2 c3 c4 c5
    cases LB with
    | true =>
      go_wp2_with fail
      refine (GO.out w3 B3.out).mono ?_; rintro e w4 ⟨rfl, b4⟩
      have B4 := Lib.hid b4; clear b4
      go_wp2_with fail
      go_ret
      exact ⟨rfl, B4.out⟩
    | false =>
      by_cases hy : by_ = 0
      · subst hy
        go_wp2_with fail
        refine (GO.out w3 B3.out).mono ?_; rintro e w4 ⟨rfl, b4⟩
        have B4 := Lib.hid b4; clear b4
        go_wp2_with fail
        go_ret
        exact ⟨rfl, B4.out⟩
      · have hy1 : (by_ == 0) = false := by simpa using hy
        obtain ⟨d, hd⟩ := named (X.getD i 0)
        have hdb : 0 ≤ d ∧ d ≤ 255 := by rw [hd.out]; exact XB.out.getD i
        obtain ⟨v, hv⟩ := named ((d.toNat ^^^ by_.toNat : Nat) : Int)
        have HV : Hid ((0 ≤ v ∧ v ≤ 255) ∧ v ≠ d) := by show _ ∧ _; rw [hv.out]; exact xor_byte d by_ hdb ⟨b0, b1⟩ hy
        have hxor : bits .xor .u8 d by_ = v := by rw [u8_xor d by_ hdb.1 (by omega) b0 (by omega)]; exact hv.out.symm
        obtain ⟨d0, d1⟩ := hdb
        by_cases hin : 148 ≤ i ∧ i < 156
        · have j1 : (148 : Int) ≤ i := by omega
          have j2 : (i : Int) < 156 := by omega
          clear hin hxor
          go_wp2_with fail
          refine (GO.out w3 B3.out).mono ?_; rintro e w4 ⟨rfl, b4⟩
          have B4 := Lib.hid b4; clear b4
          go_wp2_with fail
          go_ret
          exact ⟨rfl, B4.out⟩
        · have YL : Hid ((X.set i v).length = 512) := by show _ = _; rw [List.length_set]; exact XL.out
          have YB : Hid (Bytes (X.set i v)) := XB.out.set i HV.out.1
          have hne : v ≠ (encH T nm pf lk md sz).getD i 0 := by rw [← hX.out, ← hd.out]; exact HV.out.2
          have NE : Hid (deE (X.set i v) = 9 ∧ dH (X.set i v) = hd0) := by
            have e9 : deE (X.set i v) = 9 := by rw [hX.out]; exact dec_set HCK.out hi2 HV.out.1 hne
            exact ⟨e9, by unfold dH; rw [if_neg (by rw [e9]; decide)]⟩
          obtain ⟨s1, s2, s3, s4, s5⟩ := dec_seal_set HCK.out hi2 (show i < 148 ∨ 156 ≤ i by omega) hne
          rw [← hX.out] at s1 s2 s3 s4 s5
          have ZL := Lib.hid s1; have NS : Hid (sealZ (X.set i v) ≠ X) := s2
          have ZB : Hid (Bytes (sealZ (X.set i v))) := seal_bytes YB.out
          have CS : Hid ((deE (sealZ (X.set i v)) = 8 ∧ i = 156) ∨ deE (sealZ (X.set i v)) = 0 ∨ (deE (sealZ (X.set i v)) = 6 ∧ i ≠ 156)) := by
            by_cases h6 : i = 156
            · by_cases hk : known v
              · exact .inr (.inl (s4 h6 hk))
              · exact .inl ⟨s3 h6 hk, h6⟩
            · exact (s5 h6).elim (fun h => .inr (.inl h)) (fun h => .inr (.inr ⟨h, h6⟩))
          clear s1 s2 s3 s4 s5 hne
          by_cases hlow : i < 148
          · have j1 : ¬ (148 : Int) ≤ i := by omega
            clear hin hlow
            go_wp2_with (first | (refine wpList_lit_none rfl 26 5 rfl Tryd.underlying26 HE.out ?_; intro w4 h4 b4; have O4 := Lib.hid h4; have B4 := Lib.hid b4; clear h4 b4) | (at_builtin; refine wpList_append_in rfl _ _ 26 rfl w3.heap.size 5 i0 Tryd.underlying26 HI (.slice (some ⟨w3.heap.size, 0, none⟩) 0 0) 0 [] rfl O4.out (some ⟨xb, 0, none⟩) 512 xc X rfl ((BytesIn.of_row R3.out L3.out).below B4.out) XL.out (by decide) B4.out.size ?_; intro v5 w5 h5 b5; rw [Nat.zero_add, List.nil_append] at h5; obtain ⟨g5, c5, rfl, gb5, gl5, r5, cc5, cm5⟩ := own_form h5 (by decide) XB.out; have O5 := Lib.hid h5; have B5 := Lib.hid (B4.out.trans b5); have hcell := r5.cell0 i (by rw [XL.out]; exact hi2); rw [← hd.out] at hcell; have hfz := h5.frozenAt i; have GB5 := Lib.hid gb5; have GL5 := Lib.hid gl5; have R5 := Lib.hid r5; have CC5 := Lib.hid cc5; have CM5 := Lib.hid cm5; have q0 := (H3.out.below B5.out H3.out.lt).get 0 rfl; have q1 := (H3.out.below B5.out H3.out.lt).get 1 rfl; have q2 := (H3.out.below B5.out H3.out.lt).get 2 rfl; have q3 := (H3.out.below B5.out H3.out.lt).get 3 rfl; have q4 := (H3.out.below B5.out H3.out.lt).get 4 rfl; have q5 := (H3.out.below B5.out H3.out.lt).get 5 rfl; have hgne : ¬ w.heap.size = g5 := (by have := H3.out.lt; omega); have hgne' : ¬ g5 = w.heap.size := (by have := H3.out.lt; omega); clear h5 b5 gb5 gl5 r5 cc5 cm5))
            obtain ⟨w6, h6⟩ := named (w5.setCell ⟨g5, i, none⟩ (.int .u8 v))
            rw [← h6.out]
            have r6 : RowAt w6 g5 0 (X.set i v) := by
              rw [h6.out]
              have o6 := (O5.out.stored i (.int .u8 v)).1
              rw [← List.map_set] at o6
              exact .of_own o6 (XB.out.set i HV.out.1)
            have b6 : Below w3.heap.size w3 w6 := by rw [h6.out]; exact B5.out.setCell GB5.out _
            have l6 : g5 < w6.heap.size := by rw [h6.out]; simpa [World.setCell] using GL5.out
            have R6 := Lib.hid r6; have L6 := Lib.hid l6; have H6 := Lib.hid (H3.out.below b6 H3.out.lt); have B6 := Lib.hid (B3.out.trans (b6.mono B3.out.size))
            clear r6 b6 l6 hcell hfz hgne hgne'
            clear q0 q1 q2 q3 q4 q5
            refine (check_any T nm pf lk md sz w6 HN.out HP.out HK.out HTB.out).mono ?_; rintro e w7 ⟨rfl, b7⟩
            rw [HCK.out]
            have R7 := Lib.hid (R6.out.below b7 L6.out); have L7 : Hid (g5 < w7.heap.size) := Nat.lt_of_lt_of_le L6.out b7.size; have H7 := Lib.hid (H6.out.below b7 H6.out.lt); have B7 := Lib.hid (B6.out.trans (b7.mono B6.out.size))
            clear b7
            go_wp2_with fail
            refine (dec_any (some ⟨g5, 0, none⟩) 512 c5 _ w7 (.of_row R7.out L7.out) YL.out YB.out CC5.out CM5.out).mono ?_; rintro e w8 ⟨rfl, b8⟩
            rw [NE.out.1, NE.out.2]
            have R8 := Lib.hid (R7.out.below b8 L7.out); have L8 : Hid (g5 < w8.heap.size) := Nat.lt_of_lt_of_le L7.out b8.size; have H8 := Lib.hid (H7.out.below b8 H7.out.lt); have B8 := Lib.hid (B7.out.trans (b8.mono B7.out.size))
            clear b8
            go_wp2_with (first | (refine wpList_alloc_obj rfl 23 rfl hd0 HZ1.out ?_; intro w9 h b; have Hw9 := Lib.hid h; have Bw9 := Lib.hid b; clear h b) | (refine wpList_store_obj rfl 23 _ _ rfl w8.heap.size rfl hd0 hd0 rfl 23 Hw9.out HS1.out rfl (OC.out _ _ _ _ _ _) ?_; intro wa h t; have Hwa := Lib.hid h; have Twa := Lib.hid t; clear h t))
            have b9 : Below w8.heap.size w8 wa := Bw9.out.trans (Twa.out.below (Nat.le_refl _))
            have Ra := Lib.hid (R8.out.below b9 L8.out); have La : Hid (g5 < wa.heap.size) := Nat.lt_of_lt_of_le L8.out b9.size; have Ha := Lib.hid (H8.out.below b9 H8.out.lt); have Ba := Lib.hid (B8.out.trans (b9.mono B8.out.size))
            clear b9
            refine (Chk.rseal_okB (some ⟨g5, 0, none⟩) c5 _ wa YL.out (.of_row Ra.out La.out) CC5.out).mono ?_; rintro e wb ⟨sb, sc, rfl, hrb, hlb, bb, sc1, sc2⟩
            have Rb := Lib.hid hrb; have Lb := Lib.hid hlb; have Hb := Lib.hid (Ha.out.below bb Ha.out.lt); have Bb := Lib.hid (Ba.out.trans (bb.mono Ba.out.size))
            have SC1 := Lib.hid sc1; have SC2 := Lib.hid sc2
            clear hrb hlb bb sc1 sc2
            go_wp2_with fail
            refine (dec_any (some ⟨sb, 0, none⟩) 512 sc _ wb (.of_row Rb.out Lb.out) ZL.out ZB.out SC1.out SC2.out).mono ?_; rintro e wc ⟨rfl, bc⟩
            have Hc := Lib.hid (Hb.out.below bc Hb.out.lt); have Bc := Lib.hid (Bb.out.trans (bc.mono Bb.out.size))
            clear bc
            rcases CS.out with ⟨hE, hi6⟩ | hE | ⟨hE, hi6⟩
            · have hD : dH (sealZ (X.set i v)) = hd0 := by unfold dH; rw [if_neg (by rw [hE]; decide)]
              have hi7 : ((i : Int) == 156) = true := by simp; omega
              rw [hE, hD]
              clear hE hi6 hD
              go_wp2_with (first | (refine wpList_alloc_obj rfl 23 rfl hd0 HZ1.out ?_; intro wd h b; have Hwd := Lib.hid h; have Bwd := Lib.hid b; clear h b) | (refine wpList_store_obj rfl 23 _ _ rfl wc.heap.size rfl hd0 hd0 rfl 23 Hwd.out HS1.out rfl (OC.out _ _ _ _ _ _) ?_; intro we h t; have Hwe := Lib.hid h; have Twe := Lib.hid t; clear h t))
              have Be := Lib.hid (Bc.out.trans ((Bwd.out.trans (Twe.out.below (Nat.le_refl _))).mono Bc.out.size))
              refine (GO.out we Be.out).mono ?_; rintro e wf ⟨rfl, bf⟩
              have Bf := Lib.hid bf; clear bf
              go_wp2_with fail
              go_ret
              exact ⟨rfl, Bf.out⟩
            · obtain ⟨hl5, hsl, hkn, hok⟩ := dec_ok hE
              have hD := (de_good hl5 hsl hkn hok).2
              obtain ⟨T', hT'⟩ := named (dT (sealZ (X.set i v))); obtain ⟨nm', hnm'⟩ := named (dNm (sealZ (X.set i v))); obtain ⟨pf', hpf'⟩ := named (dPf (sealZ (X.set i v))); obtain ⟨lk', hlk'⟩ := named (dLk (sealZ (X.set i v))); obtain ⟨md', hmd'⟩ := named (dMd (sealZ (X.set i v))); obtain ⟨sz', hsz'⟩ := named (dSz (sealZ (X.set i v)))
              have hnq : ¬ (T' = T ∧ nm' = nm ∧ pf' = pf ∧ lk' = lk ∧ md' = md ∧ sz' = sz) := by
                rintro ⟨rfl, rfl, rfl, rfl, rfl, rfl⟩
                have := hok.2.2
                rw [← hT'.out, ← hnm'.out, ← hpf'.out, ← hlk'.out, ← hmd'.out, ← hsz'.out, ← hX.out] at this
                exact NS.out this.symm
              rw [hE, hD, ← hT'.out, ← hnm'.out, ← hpf'.out, ← hlk'.out, ← hmd'.out, ← hsz'.out]
              have hq : ∀ w : World, (Op.equalIn 10000 23 (.agg (hdV T' nm' pf' lk' md' sz').toArray) (.agg (hdV T nm pf lk md sz).toArray)).run Tryd.prog w = .ok false w := fun w => by
                rw [run_eqH 23 Tryd.underlying23 (by kernel_rfl), decide_eq_false hnq]
              clear hE hl5 hsl hkn hok hD hnq hT' hnm' hpf' hlk' hmd' hsz'
              go_wp2_with (first | (refine wpList_alloc_obj rfl 23 rfl hd0 HZ1.out ?_; intro wd h b; have Hwd := Lib.hid h; have Bwd := Lib.hid b; clear h b) | (refine wpList_store_obj rfl 23 _ _ rfl wc.heap.size rfl (hdV T' nm' pf' lk' md' sz') hd0 rfl 23 Hwd.out HS1.out rfl (OC.out _ _ _ _ _ _) ?_; intro we h t; have Hwe := Lib.hid h; have Twe := Lib.hid t; clear h t))
              have b9 : Below wc.heap.size wc we := Bwd.out.trans (Twe.out.below (Nat.le_refl _))
              have Be := Lib.hid (Bc.out.trans (b9.mono Bc.out.size)); have He := Lib.hid (Hc.out.below b9 Hc.out.lt)
              refine (alive_any we).mono ?_; rintro e wf ⟨rfl, bf⟩
              have Bf := Lib.hid (Be.out.trans (bf.mono Be.out.size))
              have d0 := (Hwe.out.below bf Hwe.out.lt).get 0 rfl; have d1 := (Hwe.out.below bf Hwe.out.lt).get 1 rfl; have d2 := (Hwe.out.below bf Hwe.out.lt).get 2 rfl; have d3 := (Hwe.out.below bf Hwe.out.lt).get 3 rfl; have d4 := (Hwe.out.below bf Hwe.out.lt).get 4 rfl; have d5 := (Hwe.out.below bf Hwe.out.lt).get 5 rfl
              have c0 := (He.out.below bf He.out.lt).get 0 rfl; have c1 := (He.out.below bf He.out.lt).get 1 rfl; have c2 := (He.out.below bf He.out.lt).get 2 rfl; have c3 := (He.out.below bf He.out.lt).get 3 rfl; have c4 := (He.out.below bf He.out.lt).get 4 rfl; have c5 := (He.out.below bf He.out.lt).get 5 rfl
              clear b9 bf
              go_wp2_with fail
              go_ret
              exact ⟨rfl, Bf.out⟩
            · have hD : dH (sealZ (X.set i v)) = hd0 := by unfold dH; rw [if_neg (by rw [hE]; decide)]
              have hi7 : ((i : Int) == 156) = false := by simp; omega
              rw [hE, hD]
              clear hE hi6 hD
              go_wp2_with (first | (refine wpList_alloc_obj rfl 23 rfl hd0 HZ1.out ?_; intro wd h b; have Hwd := Lib.hid h; have Bwd := Lib.hid b; clear h b) | (refine wpList_store_obj rfl 23 _ _ rfl wc.heap.size rfl hd0 hd0 rfl 23 Hwd.out HS1.out rfl (OC.out _ _ _ _ _ _) ?_; intro we h t; have Hwe := Lib.hid h; have Twe := Lib.hid t; clear h t))
              have Be := Lib.hid (Bc.out.trans ((Bwd.out.trans (Twe.out.below (Nat.le_refl _))).mono Bc.out.size))
              refine (GO.out we Be.out).mono ?_; rintro e wf ⟨rfl, bf⟩
              have Bf := Lib.hid bf; clear bf
              go_wp2_with fail
              go_ret
              exact ⟨rfl, Bf.out⟩
          · have j1 : (148 : Int) ≤ i := by omega
            have j2 : ¬ (i : Int) < 156 := by omega
            clear hin hlow
            go_wp2_with (first | (refine wpList_lit_none rfl 26 5 rfl Tryd.underlying26 HE.out ?_; intro w4 h4 b4; have O4 := Lib.hid h4; have B4 := Lib.hid b4; clear h4 b4) | (at_builtin; refine wpList_append_in rfl _ _ 26 rfl w3.heap.size 5 i0 Tryd.underlying26 HI (.slice (some ⟨w3.heap.size, 0, none⟩) 0 0) 0 [] rfl O4.out (some ⟨xb, 0, none⟩) 512 xc X rfl ((BytesIn.of_row R3.out L3.out).below B4.out) XL.out (by decide) B4.out.size ?_; intro v5 w5 h5 b5; rw [Nat.zero_add, List.nil_append] at h5; obtain ⟨g5, c5, rfl, gb5, gl5, r5, cc5, cm5⟩ := own_form h5 (by decide) XB.out; have O5 := Lib.hid h5; have B5 := Lib.hid (B4.out.trans b5); have hcell := r5.cell0 i (by rw [XL.out]; exact hi2); rw [← hd.out] at hcell; have hfz := h5.frozenAt i; have GB5 := Lib.hid gb5; have GL5 := Lib.hid gl5; have R5 := Lib.hid r5; have CC5 := Lib.hid cc5; have CM5 := Lib.hid cm5; have q0 := (H3.out.below B5.out H3.out.lt).get 0 rfl; have q1 := (H3.out.below B5.out H3.out.lt).get 1 rfl; have q2 := (H3.out.below B5.out H3.out.lt).get 2 rfl; have q3 := (H3.out.below B5.out H3.out.lt).get 3 rfl; have q4 := (H3.out.below B5.out H3.out.lt).get 4 rfl; have q5 := (H3.out.below B5.out H3.out.lt).get 5 rfl; have hgne : ¬ w.heap.size = g5 := (by have := H3.out.lt; omega); have hgne' : ¬ g5 = w.heap.size := (by have := H3.out.lt; omega); clear h5 b5 gb5 gl5 r5 cc5 cm5))
            obtain ⟨w6, h6⟩ := named (w5.setCell ⟨g5, i, none⟩ (.int .u8 v))
            rw [← h6.out]
            have r6 : RowAt w6 g5 0 (X.set i v) := by
              rw [h6.out]
              have o6 := (O5.out.stored i (.int .u8 v)).1
              rw [← List.map_set] at o6
              exact .of_own o6 (XB.out.set i HV.out.1)
            have b6 : Below w3.heap.size w3 w6 := by rw [h6.out]; exact B5.out.setCell GB5.out _
            have l6 : g5 < w6.heap.size := by rw [h6.out]; simpa [World.setCell] using GL5.out
            have R6 := Lib.hid r6; have L6 := Lib.hid l6; have H6 := Lib.hid (H3.out.below b6 H3.out.lt); have B6 := Lib.hid (B3.out.trans (b6.mono B3.out.size))
            clear r6 b6 l6 hcell hfz hgne hgne'
            clear q0 q1 q2 q3 q4 q5
            refine (check_any T nm pf lk md sz w6 HN.out HP.out HK.out HTB.out).mono ?_; rintro e w7 ⟨rfl, b7⟩
            rw [HCK.out]
            have R7 := Lib.hid (R6.out.below b7 L6.out); have L7 : Hid (g5 < w7.heap.size) := Nat.lt_of_lt_of_le L6.out b7.size; have H7 := Lib.hid (H6.out.below b7 H6.out.lt); have B7 := Lib.hid (B6.out.trans (b7.mono B6.out.size))
            clear b7
            go_wp2_with fail
            refine (dec_any (some ⟨g5, 0, none⟩) 512 c5 _ w7 (.of_row R7.out L7.out) YL.out YB.out CC5.out CM5.out).mono ?_; rintro e w8 ⟨rfl, b8⟩
            rw [NE.out.1, NE.out.2]
            have R8 := Lib.hid (R7.out.below b8 L7.out); have L8 : Hid (g5 < w8.heap.size) := Nat.lt_of_lt_of_le L7.out b8.size; have H8 := Lib.hid (H7.out.below b8 H7.out.lt); have B8 := Lib.hid (B7.out.trans (b8.mono B7.out.size))
            clear b8
            go_wp2_with (first | (refine wpList_alloc_obj rfl 23 rfl hd0 HZ1.out ?_; intro w9 h b; have Hw9 := Lib.hid h; have Bw9 := Lib.hid b; clear h b) | (refine wpList_store_obj rfl 23 _ _ rfl w8.heap.size rfl hd0 hd0 rfl 23 Hw9.out HS1.out rfl (OC.out _ _ _ _ _ _) ?_; intro wa h t; have Hwa := Lib.hid h; have Twa := Lib.hid t; clear h t))
            have b9 : Below w8.heap.size w8 wa := Bw9.out.trans (Twa.out.below (Nat.le_refl _))
            have Ra := Lib.hid (R8.out.below b9 L8.out); have La : Hid (g5 < wa.heap.size) := Nat.lt_of_lt_of_le L8.out b9.size; have Ha := Lib.hid (H8.out.below b9 H8.out.lt); have Ba := Lib.hid (B8.out.trans (b9.mono B8.out.size))
            clear b9
            refine (Chk.rseal_okB (some ⟨g5, 0, none⟩) c5 _ wa YL.out (.of_row Ra.out La.out) CC5.out).mono ?_; rintro e wb ⟨sb, sc, rfl, hrb, hlb, bb, sc1, sc2⟩
            have Rb := Lib.hid hrb; have Lb := Lib.hid hlb; have Hb := Lib.hid (Ha.out.below bb Ha.out.lt); have Bb := Lib.hid (Ba.out.trans (bb.mono Ba.out.size))
            have SC1 := Lib.hid sc1; have SC2 := Lib.hid sc2
            clear hrb hlb bb sc1 sc2
            go_wp2_with fail
            refine (dec_any (some ⟨sb, 0, none⟩) 512 sc _ wb (.of_row Rb.out Lb.out) ZL.out ZB.out SC1.out SC2.out).mono ?_; rintro e wc ⟨rfl, bc⟩
            have Hc := Lib.hid (Hb.out.below bc Hb.out.lt); have Bc := Lib.hid (Bb.out.trans (bc.mono Bb.out.size))
            clear bc
            rcases CS.out with ⟨hE, hi6⟩ | hE | ⟨hE, hi6⟩
            · have hD : dH (sealZ (X.set i v)) = hd0 := by unfold dH; rw [if_neg (by rw [hE]; decide)]
              have hi7 : ((i : Int) == 156) = true := by simp; omega
              rw [hE, hD]
              clear hE hi6 hD
              go_wp2_with (first | (refine wpList_alloc_obj rfl 23 rfl hd0 HZ1.out ?_; intro wd h b; have Hwd := Lib.hid h; have Bwd := Lib.hid b; clear h b) | (refine wpList_store_obj rfl 23 _ _ rfl wc.heap.size rfl hd0 hd0 rfl 23 Hwd.out HS1.out rfl (OC.out _ _ _ _ _ _) ?_; intro we h t; have Hwe := Lib.hid h; have Twe := Lib.hid t; clear h t))
              have Be := Lib.hid (Bc.out.trans ((Bwd.out.trans (Twe.out.below (Nat.le_refl _))).mono Bc.out.size))
              refine (GO.out we Be.out).mono ?_; rintro e wf ⟨rfl, bf⟩
              have Bf := Lib.hid bf; clear bf
              go_wp2_with fail
              go_ret
              exact ⟨rfl, Bf.out⟩
            · obtain ⟨hl5, hsl, hkn, hok⟩ := dec_ok hE
              have hD := (de_good hl5 hsl hkn hok).2
              obtain ⟨T', hT'⟩ := named (dT (sealZ (X.set i v))); obtain ⟨nm', hnm'⟩ := named (dNm (sealZ (X.set i v))); obtain ⟨pf', hpf'⟩ := named (dPf (sealZ (X.set i v))); obtain ⟨lk', hlk'⟩ := named (dLk (sealZ (X.set i v))); obtain ⟨md', hmd'⟩ := named (dMd (sealZ (X.set i v))); obtain ⟨sz', hsz'⟩ := named (dSz (sealZ (X.set i v)))
              have hnq : ¬ (T' = T ∧ nm' = nm ∧ pf' = pf ∧ lk' = lk ∧ md' = md ∧ sz' = sz) := by
                rintro ⟨rfl, rfl, rfl, rfl, rfl, rfl⟩
                have := hok.2.2
                rw [← hT'.out, ← hnm'.out, ← hpf'.out, ← hlk'.out, ← hmd'.out, ← hsz'.out, ← hX.out] at this
                exact NS.out this.symm
              rw [hE, hD, ← hT'.out, ← hnm'.out, ← hpf'.out, ← hlk'.out, ← hmd'.out, ← hsz'.out]
              have hq : ∀ w : World, (Op.equalIn 10000 23 (.agg (hdV T' nm' pf' lk' md' sz').toArray) (.agg (hdV T nm pf lk md sz).toArray)).run Tryd.prog w = .ok false w := fun w => by
                rw [run_eqH 23 Tryd.underlying23 (by kernel_rfl), decide_eq_false hnq]
              clear hE hl5 hsl hkn hok hD hnq hT' hnm' hpf' hlk' hmd' hsz'
              go_wp2_with (first | (refine wpList_alloc_obj rfl 23 rfl hd0 HZ1.out ?_; intro wd h b; have Hwd := Lib.hid h; have Bwd := Lib.hid b; clear h b) | (refine wpList_store_obj rfl 23 _ _ rfl wc.heap.size rfl (hdV T' nm' pf' lk' md' sz') hd0 rfl 23 Hwd.out HS1.out rfl (OC.out _ _ _ _ _ _) ?_; intro we h t; have Hwe := Lib.hid h; have Twe := Lib.hid t; clear h t))
              have b9 : Below wc.heap.size wc we := Bwd.out.trans (Twe.out.below (Nat.le_refl _))
              have Be := Lib.hid (Bc.out.trans (b9.mono Bc.out.size)); have He := Lib.hid (Hc.out.below b9 Hc.out.lt)
              refine (alive_any we).mono ?_; rintro e wf ⟨rfl, bf⟩
              have Bf := Lib.hid (Be.out.trans (bf.mono Be.out.size))
              have d0 := (Hwe.out.below bf Hwe.out.lt).get 0 rfl; have d1 := (Hwe.out.below bf Hwe.out.lt).get 1 rfl; have d2 := (Hwe.out.below bf Hwe.out.lt).get 2 rfl; have d3 := (Hwe.out.below bf Hwe.out.lt).get 3 rfl; have d4 := (Hwe.out.below bf Hwe.out.lt).get 4 rfl; have d5 := (Hwe.out.below bf Hwe.out.lt).get 5 rfl
              have c0 := (He.out.below bf He.out.lt).get 0 rfl; have c1 := (He.out.below bf He.out.lt).get 1 rfl; have c2 := (He.out.below bf He.out.lt).get 2 rfl; have c3 := (He.out.below bf He.out.lt).get 3 rfl; have c4 := (He.out.below bf He.out.lt).get 4 rfl; have c5 := (He.out.below bf He.out.lt).get 5 rfl
              clear b9 bf
              go_wp2_with fail
              go_ret
              exact ⟨rfl, Bf.out⟩
            · have hD : dH (sealZ (X.set i v)) = hd0 := by unfold dH; rw [if_neg (by rw [hE]; decide)]
              have hi7 : ((i : Int) == 156) = false := by simp; omega
              rw [hE, hD]
              clear hE hi6 hD
              go_wp2_with (first | (refine wpList_alloc_obj rfl 23 rfl hd0 HZ1.out ?_; intro wd h b; have Hwd := Lib.hid h; have Bwd := Lib.hid b; clear h b) | (refine wpList_store_obj rfl 23 _ _ rfl wc.heap.size rfl hd0 hd0 rfl 23 Hwd.out HS1.out rfl (OC.out _ _ _ _ _ _) ?_; intro we h t; have Hwe := Lib.hid h; have Twe := Lib.hid t; clear h t))
              have Be := Lib.hid (Bc.out.trans ((Bwd.out.trans (Twe.out.below (Nat.le_refl _))).mono Bc.out.size))
              refine (GO.out we Be.out).mono ?_; rintro e wf ⟨rfl, bf⟩
              have Bf := Lib.hid bf; clear bf
              go_wp2_with fail
              go_ret
              exact ⟨rfl, Bf.out⟩
  · obtain ⟨E0, hE0⟩ := named (ckH T nm pf lk md sz)
    have hne0 : (E0 != 0) = true := by rw [hE0.out]; simp [hck]
    refine (enc_bad T nm pf lk md sz w1 HN.out HP.out HK.out HTB.out hck).mono ?_; rintro e w2 ⟨rfl, b2⟩
    rw [← hE0.out]
    have B2 := Lib.hid (B1.out.trans (b2.mono B1.out.size)); have H2 := Lib.hid (H1.out.below b2 H1.out.lt); clear b2 hck
    have c0 := H2.out.get 0 rfl; have c1 := H2.out.get 1 rfl; have c2 := H2.out.get 2 rfl; have c3 := H2.out.get 3 rfl; have c4 := H2.out.get 4 rfl; have c5 := H2.out.get 5 rfl
    go_wp2_with fail
    refine (large_any T nm pf lk md sz w2 HN.out HP.out HK.out).mono ?_; rintro e w3 ⟨LB, rfl, b3⟩
    have B3 := Lib.hid (B2.out.trans (b3.mono B2.out.size)); clear b3
    cases LB with
    | true =>
      go_wp2_with fail
      refine (GO.out w3 B3.out).mono ?_; rintro e w4 ⟨rfl, b4⟩
      have B4 := Lib.hid b4; clear b4
      go_wp2_with fail
      go_ret
      exact ⟨rfl, B4.out⟩
    | false =>
      go_wp2_with fail
      refine (GO.out w3 B3.out).mono ?_; rintro e w4 ⟨rfl, b4⟩
      have B4 := Lib.hid b4; clear b4
      go_wp2_with fail
      go_ret
      exact ⟨rfl, B4.out⟩
end Go.Proofs.YtbgmhdhfcckbbaaDoor
