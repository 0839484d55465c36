/-
  SourceIsolated, walked.
-/
import Derived.Test.YtdjfehjamlcceaaSrcUse
import Derived.Test.YtdjfehjamlcceaaStructArg
namespace Go.Proofs.Ytdjfehjamlcceaa
open Go.RowKit

set_option maxRecDepth 100000 in
set_option maxHeartbeats 8000000 in
theorem walk_SourceIsolated (a : Option Addr) (len cap : Nat) (zs : List Int) (ca : Option Addr) (cl cc : Nat) (cs : List Int) (F : Int) (w : World) (hz : ArgInts .u8 w a len cap zs) (hc : ArgInts .i64 w ca cl cc cs)
    (_ : (Lit.int .i64 F).wf = true) :
    Calls Try.prog 5 #[.slice a len cap, .agg #[.slice ca cl cc, .int .i64 F]] w fun e w' => e = .returned (.bool true) ∧ Below w.heap.size w w' := by
  have HB := Lib.hid hz.bytes; have HL := Lib.hid hz.1; have HC := Lib.hid hz.2.1; have HI := Lib.hid hc.inK; have HCL := Lib.hid hc.1
  clear hz hc
  by_cases h2000 : (2000 : Int) < len
  · go_enter Try.func5, Try.ntmps5
    go_wp2_with (first | (refine wpList_box_obj rfl 25 _ rfl [.slice ca cl cc, .int .i64 F] rfl ?_; intro w1 h1 b1; have H1 := Lib.hid h1; have B1 := Lib.hid b1; have c0 := h1.get 0 rfl; have c1 := h1.get 1 rfl; clear h1 b1))
    refine (alive_any _).mono ?_; rintro e w2 ⟨rfl, b2⟩
    go_wp2
    go_ret
    exact ⟨rfl, B1.out.trans (b2.mono B1.out.size)⟩
  · by_cases h300 : (300 : Int) < cl
    · go_enter Try.func5, Try.ntmps5
      go_wp2_with (first | (refine wpList_box_obj rfl 25 _ rfl [.slice ca cl cc, .int .i64 F] rfl ?_; intro w1 h1 b1; have H1 := Lib.hid h1; have B1 := Lib.hid b1; have c0 := h1.get 0 rfl; have c1 := h1.get 1 rfl; clear h1 b1))
      refine (alive_any _).mono ?_; rintro e w2 ⟨rfl, b2⟩
      go_wp2
      go_ret
      exact ⟨rfl, B1.out.trans (b2.mono B1.out.size)⟩
    · have he : (Try.prog.info? 5).map (·.size) = some 1 := by obtain ⟨i, h1, _, h2, _⟩ := u8T; simp [h1, h2]
      have HE1 := Lib.hid he; clear he
      have he : (Try.prog.info? 3).map (·.size) = some 1 := by obtain ⟨i, h1, _, h2, _⟩ := i64T; simp [h1, h2]
      have HE2 := Lib.hid he; clear he
      go_enter Try.func5, Try.ntmps5
      go_wp2_with (first | (refine wpList_box_obj rfl 25 _ rfl [.slice ca cl cc, .int .i64 F] rfl ?_; intro w1 h1 b1; have H1 := Lib.hid h1; have B1 := Lib.hid b1; have c0 := h1.get 0 rfl; have c1 := h1.get 1 rfl; clear h1 b1) | (refine wpList_lit_k rfl 22 5 .u8 rfl Try.underlying22 HE1.out ?_; intro w2 h2 b2; have O2 := Lib.hid h2; have B2 := Lib.hid b2; clear h2 b2) | (at_builtin; refine wpList_append_k rfl _ _ 22 rfl w1.heap.size 5 .u8 1 Try.underlying22 u8T _ 0 [] rfl O2.out a len cap zs rfl ((HB.out.below B1.out).below B2.out).inK HL.out (by unfold maxLen; omega) (by omega) B2.out.size ?_; intro v3 w3 h3 b3; rw [Nat.zero_add, List.nil_append] at h3; have O3 := Lib.hid h3; have B3 := Lib.hid (B2.out.trans b3); clear h3 b3; have c0 := H1.out.below B3.out H1.out.lt |>.get 0 rfl; have c1 := H1.out.below B3.out H1.out.lt |>.get 1 rfl) | (refine wpList_lit_k rfl 23 3 .i64 rfl Try.underlying23 HE2.out ?_; intro w4 h4 b4; have O4 := Lib.hid h4; have B4 := Lib.hid b4; clear h4 b4; have c0 := H1.out.below (B3.out.trans (B4.out.mono B3.out.size)) H1.out.lt |>.get 0 rfl; have c1 := H1.out.below (B3.out.trans (B4.out.mono B3.out.size)) H1.out.lt |>.get 1 rfl) | (at_builtin; refine wpList_append_k rfl _ _ 23 rfl w3.heap.size 3 .i64 8 Try.underlying23 i64T _ 0 [] rfl O4.out ca cl cc cs rfl (((HI.out.below B1.out).below B3.out).below B4.out) HCL.out (by unfold maxLen; omega) (by omega) B4.out.size ?_; intro v5 w5 h5 b5; rw [Nat.zero_add, List.nil_append] at h5; have O5 := Lib.hid h5; have B5 := Lib.hid (B4.out.trans b5); clear h5 b5; have c0 := H1.out.below (B3.out.trans (B5.out.mono B3.out.size)) H1.out.lt |>.get 0 rfl; have c1 := H1.out.below (B3.out.trans (B5.out.mono B3.out.size)) H1.out.lt |>.get 1 rfl))
      obtain ⟨ob, oc, rfl, ok, oc1, _, _, ox⟩ := own_any O3.out
      have o3 := own_keep O3.out B5.out (Nat.le_refl _)
      obtain ⟨pb, pc, rfl, pk, pc1, _, _, px⟩ := own_any O5.out
      have OR := Lib.hid o3; have OK := Lib.hid ((ok.below B5.out).bytes HB.out.bytes); have OC := Lib.hid oc1; have PK := Lib.hid pk; have PX := Lib.hid px; have OX := Lib.hid ox
      have G1 := Lib.hid B1.out.size; have G3 := Lib.hid B3.out.size; have G5 := Lib.hid B5.out.size; have LT := Lib.hid H1.out.lt
      have T5 := Lib.hid (B1.out.trans ((B3.out.trans (B5.out.mono B3.out.size)).mono B1.out.size))
      have HB5 := Lib.hid (((HB.out.below B1.out).below B3.out).below B5.out)
      have HI5 := Lib.hid (((HI.out.below B1.out).below B3.out).below B5.out)
      clear o3 ok oc1 pk px ox pc1
      obtain ⟨Z, hZ⟩ := named (zs.take (endN F len))
      obtain ⟨E, hE⟩ := named (endE F len)
      have L5 : w.heap.size < w5.heap.size := by have := G1.out; have := G3.out; have := G5.out; have := LT.out; omega
      have K0 : Hid (∀ w', Below w5.heap.size w5 w' → w'.cell? ⟨w.heap.size, 0, none⟩ = some (.slice ca cl cc) ∧ w'.cell? ⟨w.heap.size, 1, none⟩ = some (.int .i64 F)) := fun w' hb => ⟨(hb.cell (p := ⟨w.heap.size, 0, none⟩) L5).trans c0, (hb.cell (p := ⟨w.heap.size, 1, none⟩) L5).trans c1⟩
      clear L5 c0 c1
      have n6 : Hid (Calls Try.prog 11 #[.slice ob len oc, .agg #[.slice pb cl pc, .int .i64 F]] w5.drew fun e w' => ∃ s, e = .returned (.pointer (some ⟨s, 0, none⟩)) ∧ Src w' w5.heap.size w'.heap.size s Z E cs 0 0 ∧ Below w5.heap.size w5 w') := by
        refine (new_any ob len oc zs pb cl pc cs F w5.drew OK.out HL.out OC.out (by omega) PK.out HCL.out (by omega)).mono ?_
        rintro e w6 ⟨s, rfl, s6, b6⟩
        rw [← hZ.out, ← hE.out] at s6
        exact ⟨s, rfl, s6, (Below.refl _ _).drew.trans b6⟩
      have n7 : Hid (∀ w6, Below w5.heap.size w5 w6 → Calls Try.prog 11 #[.slice a len cap, .agg #[.slice ca cl cc, .int .i64 F]] w6 fun e w' => ∃ s, e = .returned (.pointer (some ⟨s, 0, none⟩)) ∧ Src w' w6.heap.size w'.heap.size s Z E cs 0 0 ∧ Below w6.heap.size w6 w') := by
        intro w6 b6
        refine (new_any a len cap zs ca cl cc cs F w6 (HB5.out.below b6) HL.out HC.out (by omega) (HI5.out.below b6) HCL.out (by omega)).mono ?_
        rintro e w7 ⟨s, rfl, s7, b7⟩
        rw [← hZ.out, ← hE.out] at s7
        exact ⟨s, rfl, s7, b7⟩
      go_region_held3 (fun w' => w'.cell? ⟨w.heap.size, 0, none⟩ = some (.slice ca cl cc) ∧ w'.cell? ⟨w.heap.size, 1, none⟩ = some (.int .i64 F)) (first | exact K0.out _ (Below.refl _ _).drew | exact K0.out _ B6.out | exact K0.out _ (B6.out.trans (B7.out.mono B6.out.size))) (first | (go_at_call_of 11 ob; refine n6.out.mono ?_; rintro e w6 ⟨s, rfl, s6, b6⟩; have S6 := Lib.hid s6; have B6 := Lib.hid b6; clear s6 b6) | (go_at_call_of 11 ca; refine (n7.out _ B6.out).mono ?_; rintro e w7 ⟨t, rfl, s7, b7⟩; have S7 := Lib.hid s7; have B7 := Lib.hid b7; clear s7 b7))
      have G6 := Lib.hid B6.out.size; have G7 := Lib.hid B7.out.size
      have S6' := Lib.hid (S6.out.below B7.out)
      have OR7 := Lib.hid (own_keep (own_keep OR.out B6.out (Nat.le_refl _)) B7.out (Nat.le_refl _))
      have OP7 := Lib.hid (own_keep (own_keep O5.out B6.out (Nat.le_refl _)) B7.out (Nat.le_refl _))
      have T7 := Lib.hid (T5.out.trans ((B6.out.trans (B7.out.mono B6.out.size)).mono T5.out.size))
      go_wp2_with fail
      go_loopw [9, 50] (fun _ i wr => ∃ (j : Nat) (ys : List Int), j ≤ len ∧ i = .int .i64 j ∧ ys.length = len ∧ Bytes ys ∧ wr.ownsRow w1.heap.size 5 1 (.slice ob len oc) len (ys.map (.int .u8)) ∧ wr.ownsRow w3.heap.size 3 1 (.slice pb cl pc) cl (cs.map (.int .i64)) ∧
        Src wr w5.heap.size w6.heap.size s Z E cs 0 0 ∧ Src wr w6.heap.size w7.heap.size t Z E cs 0 0 ∧ Below w.heap.size w wr) (fun _ i _ => len - (intOf i).toNat)
      case atStart => exact ⟨0, zs, Nat.zero_le _, rfl, HL.out, HB.out.bytes, OR7.out, OP7.out, S6'.out, S7.out, T7.out⟩
      case round =>
        obtain ⟨j, ys, hj, rfl, hyl, hyb, hown, hownp, hs, ht, hbel⟩ := hrel
        have YL := Lib.hid hyl; have YB := Lib.hid hyb; have OW := Lib.hid hown; have OP := Lib.hid hownp; have SS := Lib.hid hs; have ST := Lib.hid ht; have BR := Lib.hid hbel
        clear hyl hyb hown hownp hs ht hbel
        by_cases hlt : j < len
        · obtain ⟨g, cap', hv, hbg⟩ := own_shape OW.out (by omega)
          simp only [Value.slice.injEq, true_and] at hv
          obtain ⟨rfl, rfl⟩ := hv
          obtain ⟨d, hd⟩ := named (ys.getD j 0)
          obtain ⟨v, hv⟩ := xor_bd d
          have hxor := hv.out.1
          have hcell : wr.cell? ⟨g, j, none⟩ = some (.int .u8 d) := by
            rw [OW.out.cellAt j (by omega), List.getElem?_map, List.getElem?_eq_getElem (by rw [YL.out]; exact hlt), hd.out, List.getD_eq_getElem?_getD, List.getElem?_eq_getElem (by rw [YL.out]; exact hlt)]; rfl
          have hfz := OW.out.frozenAt j
          have hlt' : (j : Int) < len := by omega
          have hgx := OX.out _ rfl
          have hg3 : g < w3.heap.size := hgx.2.1
          have hg1 : w1.heap.size ≤ g := hgx.1
          have GX := Lib.hid (show w1.heap.size ≤ g ∧ g < w3.heap.size from ⟨hg1, hg3⟩)
          clear hgx hg3 hg1
          go_wp2
          go_roundw
          case rel =>
            have hgx := GX.out; have g1 := G1.out; have g3 := G3.out; have g5 := G5.out; have g6 := G6.out
            have ho : Out g (g + 1) wr (wr.setCell ⟨g, j, none⟩ (.int .u8 v)) := (Out.refl g (g + 1) wr).setCell (Nat.le_refl _) (Nat.lt_succ_self _) _
            exact ⟨j + 1, ys.set j v, by omega, by go_num, by rw [List.length_set]; exact YL.out, YB.out.set j hv.out.2, own_store OW.out j v, own_out OP.out ho (by omega), SS.out.out ho (.inr (by omega)), ST.out.out ho (.inr (by omega)), BR.out.setCell (by show w.heap.size ≤ g; omega) _⟩
          case measure => simp [intOf]; omega
        · obtain rfl : len = j := by omega
          have OP' := Lib.hid OP.out
          go_wp2_with fail
          go_loopw [10, 62] (fun _ i wr => ∃ (q : Nat) (ps : List Int), q ≤ cl ∧ i = .int .i64 q ∧ ps.length = cl ∧ wr.ownsRow w3.heap.size 3 1 (.slice pb cl pc) cl (ps.map (.int .i64)) ∧
            Src wr w5.heap.size w6.heap.size s Z E cs 0 0 ∧ Src wr w6.heap.size w7.heap.size t Z E cs 0 0 ∧ Below w.heap.size w wr) (fun _ i _ => cl - (intOf i).toNat)
          case atStart => exact ⟨0, cs, Nat.zero_le _, rfl, HCL.out, OP.out, SS.out, ST.out, BR.out⟩
          case round =>
            clear OW OP OP' SS ST BR YL YB
            obtain ⟨q, ps, hq, rfl, hpl, hownp, hs, ht, hbel⟩ := hrel
            have PL := Lib.hid hpl; have OP := Lib.hid hownp; have SS := Lib.hid hs; have ST := Lib.hid ht; have BR := Lib.hid hbel
            clear hpl hownp hs ht hbel
            by_cases hlq : q < cl
            · obtain ⟨g, cap', hv, hbg⟩ := own_shape OP.out (by omega)
              simp only [Value.slice.injEq, true_and] at hv
              obtain ⟨rfl, rfl⟩ := hv
              have hcell : wr.cell? ⟨g, q, none⟩ = some (.int .i64 (ps.getD q 0)) := by
                rw [OP.out.cellAt q (by omega), List.getElem?_map, List.getElem?_eq_getElem (by rw [PL.out]; exact hlq), List.getD_eq_getElem?_getD, List.getElem?_eq_getElem (by rw [PL.out]; exact hlq)]; rfl
              have hfz := OP.out.frozenAt q
              have hlq' : (q : Int) < cl := by omega
              have hgx := PX.out _ rfl
              have GX := Lib.hid (show w3.heap.size ≤ g ∧ g < w5.heap.size from ⟨hgx.1, hgx.2.1⟩)
              clear hgx
              go_wp2
              go_roundw
              case rel =>
                have hgx := GX.out; have g1 := G1.out; have g3 := G3.out; have g6 := G6.out
                have ho : Out g (g + 1) wr (wr.setCell ⟨g, q, none⟩ (.int .i64 1)) := (Out.refl g (g + 1) wr).setCell (Nat.le_refl _) (Nat.lt_succ_self _) _
                have hst := (OP.out.stored q (.int .i64 1)).1
                rw [← List.map_set] at hst
                exact ⟨q + 1, ps.set q 1, by omega, by go_num, by rw [List.length_set]; exact PL.out, hst, SS.out.out ho (.inr (by omega)), ST.out.out ho (.inr (by omega)), BR.out.setCell (by show w.heap.size ≤ g; omega) _⟩
              case measure => simp [intOf]; omega
            · obtain rfl : cl = q := by omega
              clear OP PL
              go_wp2_with fail
              go_loopw [72] (fun i wr => ∃ j o r : Nat, j ≤ len + 2 ∧ i = .int .i64 j ∧ Src wr w5.heap.size w6.heap.size s Z E cs o r ∧ Src wr w6.heap.size w7.heap.size t Z E cs o r ∧ Below w.heap.size w wr) (fun i _ => len + 2 - (intOf i).toNat)
              case atStart => exact ⟨0, 0, 0, Nat.zero_le _, rfl, SS.out, ST.out, BR.out⟩
              case round =>
                clear SS ST BR
                obtain ⟨j, o, r, hj, rfl, hs, ht, hbel⟩ := hrel
                have SS := Lib.hid hs; have ST := Lib.hid ht; have BR := Lib.hid hbel
                clear hs ht hbel
                by_cases hlj : j < len + 2
                · have hlj' : (j : Int) < (len : Int) + 2 := by omega
                  obtain ⟨B, hB⟩ := named (readB Z cs o r 7)
                  obtain ⟨Ev, hEv⟩ := named (readE Z E o 7)
                  obtain ⟨o', ho'⟩ := named (readO Z cs o r 7)
                  obtain ⟨r', hr'⟩ := named (readR Z o r 7)
                  obtain ⟨SB, hSB⟩ := named (strOfNums B)
                  obtain ⟨nB, hnB⟩ := named B.length
                  have ZL : Z.length ≤ len := by rw [hZ.out, List.length_take]; have := HL.out; omega
                  have BY : Hid (Bytes B) := by show Bytes _; rw [hB.out]; exact readB_bytes SS.out.bytes.1 _ _ _ _
                  have NB : Hid (nB ≤ len) := by show _ ≤ _; rw [hnB.out, hB.out]; exact Nat.le_trans (readB_len _ _ _ _ _) ZL
                  clear ZL
                  go_wp2_with fail
                  refine (read_any 7 wr SS.out).mono ?_; rintro e w8 ⟨v8, rfl, o8, s8, u8⟩
                  rw [← hB.out, ← hnB.out] at o8; rw [← ho'.out, ← hr'.out] at s8; rw [← hEv.out]
                  have S8 := Lib.hid s8; have U8 := Lib.hid u8; have O8 := Lib.hid o8
                  have T8 := Lib.hid (ST.out.out u8 (.inr (Nat.le_refl _)))
                  obtain ⟨a8, c8, rfl, _⟩ := own_any o8
                  clear s8 u8 o8
                  go_wp2_with fail
                  refine (read_any 7 w8 T8.out).mono ?_; rintro e w9 ⟨v9, rfl, o9, s9, u9⟩
                  rw [← hB.out, ← hnB.out] at o9; rw [← ho'.out, ← hr'.out] at s9; rw [← hEv.out]
                  have T9 := Lib.hid s9; have U9 := Lib.hid u9
                  have S9 := Lib.hid (S8.out.out u9 (.inl (Nat.le_refl _)))
                  have X9 := Lib.hid (own_out O8.out u9 ST.out.size.1)
                  obtain ⟨a9, c9, rfl, k9, _⟩ := own_any o9
                  obtain ⟨_, _, hv, k8, _, _, _, x8⟩ := own_any X9.out
                  simp only [Value.slice.injEq, true_and] at hv
                  obtain ⟨rfl, rfl⟩ := hv
                  have X8 := Lib.hid x8
                  have q1 := run_str_in (P := Try.prog) Try.underlying22 Try.underlying5 Try.underlying9 (k8.bytes BY.out) nB c8 hnB.out.symm
                  have q2 := run_str_in (P := Try.prog) Try.underlying22 Try.underlying5 Try.underlying9 (k9.bytes BY.out) nB c9 hnB.out.symm
                  rw [← hSB.out] at q1 q2
                  have BR9 := Lib.hid ((BR.out.trans (U8.out.below (by have := G1.out; have := G3.out; have := G5.out; omega) BR.out.size)).trans (U9.out.below (by have := G1.out; have := G3.out; have := G5.out; have := G6.out; omega) (by have := BR.out.size; have := U8.out.size; omega)))
                  clear s9 u9 o9 k9 k8 x8
                  go_wp2_with fail
                  go_loopw [15, 96] (fun _ i wx => ∃ (q : Nat) (ys : List Int), q ≤ nB ∧ i = .int .i64 q ∧ ys.length = nB ∧ Bytes ys ∧ wx.ownsRow wr.heap.size 5 1 (.slice a8 nB c8) nB (ys.map (.int .u8)) ∧
                    Src wx w5.heap.size w6.heap.size s Z E cs o' r' ∧ Src wx w6.heap.size w7.heap.size t Z E cs o' r' ∧ Below w.heap.size w wx) (fun _ i _ => nB - (intOf i).toNat)
                  case atStart => exact ⟨0, B, Nat.zero_le _, rfl, hnB.out.symm, BY.out, X9.out, S9.out, T9.out, BR9.out⟩
                  case round =>
                    clear q1 q2
                    obtain ⟨q, ys, hq, rfl, hyl, hyb, hown, hs, ht, hbel⟩ := hrel
                    have YL := Lib.hid hyl; have YB := Lib.hid hyb; have OX := Lib.hid hown; have SX := Lib.hid hs; have TX := Lib.hid ht; have BX := Lib.hid hbel
                    clear hyl hyb hown hs ht hbel
                    by_cases hlq : q < nB
                    · obtain ⟨g, cap', hv, hbg⟩ := own_shape OX.out (by omega)
                      simp only [Value.slice.injEq, true_and] at hv
                      obtain ⟨rfl, rfl⟩ := hv
                      obtain ⟨d, hd⟩ := named (ys.getD q 0)
                      obtain ⟨v, hv⟩ := xor_bd d
                      have hxor := hv.out.1
                      have hcell := OX.out.cellAt q (by omega)
                      rw [List.getElem?_map, List.getElem?_eq_getElem (by rw [YL.out]; exact hlq)] at hcell
                      have hd' := hd.out
                      rw [List.getD_eq_getElem?_getD, List.getElem?_eq_getElem (by rw [YL.out]; exact hlq)] at hd'
                      simp only [Option.getD_some] at hd'
                      simp only [Option.map_some] at hcell
                      rw [← hd'] at hcell
                      have hfz := OX.out.frozenAt q
                      have hlq' : (q : Int) < nB := by omega
                      have hnl : nB ≤ 2000 := by have := NB.out; omega
                      have GX := Lib.hid hbg
                      clear hd' hbg
                      go_wp2
                      go_roundw
                      case rel =>
                        have hgx := GX.out; have g1 := G1.out; have g3 := G3.out; have g5 := G5.out; have g6 := G6.out; have g7 := G7.out; have z1 := ST.out.size.1; have z0 := BR.out.size
                        have ho : Out g (g + 1) wr (wr.setCell ⟨g, q, none⟩ (.int .u8 v)) := (Out.refl g (g + 1) wr).setCell (Nat.le_refl _) (Nat.lt_succ_self _) _
                        exact ⟨q + 1, ys.set q v, by omega, by go_num, by rw [List.length_set]; exact YL.out, YB.out.set q hv.out.2, own_store OX.out q v, SX.out.out ho (.inl (by omega)), TX.out.out ho (.inl (by omega)), BX.out.setCell (by show w.heap.size ≤ g; omega) _⟩
                      case measure => simp [intOf]; omega
                    · obtain rfl : nB = q := by omega
                      go_wp2_with fail
                      go_roundw
                      case rel => exact ⟨j + 1, o', r', by omega, by go_num, SX.out, TX.out, BX.out⟩
                      case measure => simp [intOf]; omega
                · obtain rfl : j = len + 2 := by omega
                  go_wp2_with fail
                  refine (alive_any _).mono ?_; rintro e w8 ⟨rfl, b8⟩
                  go_wp2
                  go_ret
                  exact ⟨rfl, BR.out.trans (b8.mono BR.out.size)⟩
end Go.Proofs.Ytdjfehjamlcceaa
