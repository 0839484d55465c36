/-
  ChecksumFieldIrrelevant, walked.
-/
import Derived.Test.YtpickfkfciegeaaChkRef
import Derived.Test.YtpickfkfciegeaaArrArg
namespace Go.Proofs.Ytpickfkfciegeaa
open Go.RowKit

theorem fldT : ArrT Try.prog 40 5 8 := ⟨Try.underlying40, by kernel_rfl, Try.underlying5, Try.info5⟩

set_option maxRecDepth 100000 in
set_option maxHeartbeats 4000000 in
theorem walk_ChecksumFieldIrrelevant (a : Option Addr) (len cap : Nat) (zs ys : List Int) (w : World) (h : ArgInts .u8 w a len cap zs) (hyl : ys.length = 8) (hyw : ∀ z ∈ ys, (Lit.int .u8 z).wf = true) :
    Calls Try.prog 6 #[.slice a len cap, .agg (arr ys)] w fun e w' => e = .returned (.bool true) ∧ Below w.heap.size w w' := by
  have hm : len ≤ maxLen := Nat.le_trans h.2.1 h.2.2.1
  have hz := Lib.hid h.1
  have hb := Lib.hid h.bytes
  have HY : Hid (Bytes ys) := Bytes.of_wf hyw
  have YL := Lib.hid hyl
  clear h hyl hyw
  unfold maxLen at hm
  have HT := Lib.hid hdrT
  have FT := Lib.hid fldT
  by_cases hl : (2000 : Int) < len
  · go_enter Try.func6, Try.ntmps6
    go_wp2_with (refine wpList_box_arr rfl 40 _ rfl ys rfl HY.out ?_; intro w0 h0 b0; have B0 := Lib.hid b0; clear h0 b0)
    refine (alive_any _).mono ?_; rintro e w1 ⟨rfl, hb1⟩
    have B1 := Lib.hid hb1; clear hb1
    go_wp2
    go_ret
    exact ⟨rfl, belT B0.out B1.out⟩
  · obtain ⟨X, hX⟩ := named (blkZ zs)
    have HL : Hid (X.length = 512) := by show _ = _; rw [hX.out]; exact blk_length zs
    have HZ : Hid (Bytes X) := by show Bytes _; rw [hX.out]; exact blk_bytes hb.out.bytes
    obtain ⟨i0, HI⟩ := info_u8 Try.info5
    obtain ⟨Y, hY⟩ := named (lay X 148 ys)
    have L2 : Hid (Y.length = 512) := by show _ = _; rw [hY.out, lay_length _ _ _ (by rw [HL.out, YL.out]; decide), HL.out]
    have Z2 : Hid (Bytes Y) := by show Bytes _; rw [hY.out]; exact lay_bytes _ HZ.out HY.out
    obtain ⟨m, hmm⟩ := named (sumZ X)
    have M2 : Hid (sumZ Y = m) := by show _ = _; rw [hY.out, sumZ_lay X ys HL.out YL.out]; exact hmm.out.symm
    have S2 : Hid (sealZ Y = sealZ X) := by show _ = _; rw [hY.out, sealZ_lay X ys HL.out YL.out]
    obtain ⟨S, hS⟩ := named (strOfNums (sealZ X))
    go_enter Try.func6, Try.ntmps6
    go_wp2_with (refine wpList_box_arr rfl 40 _ rfl ys rfl HY.out ?_; intro w0 h0 b0; have H0 := Lib.hid h0; have B0 := Lib.hid b0; clear h0 b0)
    refine (block_any a len cap zs _ hz.out (hb.out.below B0.out)).mono ?_; rintro e w1 ⟨rfl, h1, b1⟩
    rw [← hX.out] at h1
    have H1 := Lib.hid h1; have B1 := Lib.hid b1; clear h1 b1
    have F1 := Lib.hid (H0.out.below B1.out H0.out.lt)
    have G01 := Lib.hid B1.out.size
    have LF := Lib.hid H0.out.lt
    go_wp2_with (first | (refine wpList_lit_none rfl 22 5 rfl Try.underlying22 HT.out.elem ?_; intro w3 h3 b3; have O3 := Lib.hid h3; have B3 := Lib.hid b3; clear h3 b3) | (at_builtin; refine wpList_append_in rfl _ _ 22 rfl w1.heap.size 5 i0 Try.underlying22 HI (.slice (some ⟨w1.heap.size, 0, none⟩) 0 0) 0 [] rfl O3.out (some ⟨w0.heap.size, 0, none⟩) 512 512 X rfl (H1.out.bytes.below B3.out) HL.out (by decide) B3.out.size ?_; intro v4 w4 h4 b4; rw [Nat.zero_add, List.nil_append] at h4; obtain ⟨g4, c4, L, rfl, gb4, gl4, hg4, hlen4, ht4, cc4, cm4⟩ := own_cells h4 (by decide); have B4 := Lib.hid (B3.out.trans b4); have G4 := Lib.hid hg4; have T4 := Lib.hid ht4; have GB4 := Lib.hid gb4; have GL4 := Lib.hid gl4; have LL4 := Lib.hid hlen4; have CC4 := Lib.hid cc4; clear h4 b4 gb4 gl4 hg4 ht4 cm4 hlen4))
    have F4 : Hid (RowAt w4 w.heap.size 0 ys) := (F1.out.below B4.out (Nat.lt_of_lt_of_le LF.out G01.out)).row
    obtain ⟨CS, hCS⟩ := named (ys.map (Value.int .u8))
    have CL : Hid (CS.length = Nat.min 8 8) := by show _ = _; rw [hCS.out, List.length_map, YL.out]; rfl
    have CL8 : Hid (CS.length = 8) := CL
    have CP : Hid (0 < CS.length → (some (⟨g4, 148, none⟩ : Addr)) = some ⟨g4, 148, none⟩ ∧ ∃ ad, (some (⟨w.heap.size, 0, none⟩ : Addr)) = some ad ∧ ∀ j v, CS[j]? = some v → w4.drew.cell? (ad.add j) = some v) := by
      intro _
      refine ⟨rfl, _, rfl, fun j v hj => ?_⟩
      rw [hCS.out] at hj
      exact F4.out.news j v hj
    have CF : Hid (148 + CS.length ≤ L.length) := by show _ ≤ _; rw [LL4.out, CL8.out]; have := CC4.out; omega
    have CO : Hid (∀ v ∈ CS, v.oneCell' = true) := by show ∀ v ∈ CS, _; rw [hCS.out]; exact one_map _ _
    have k1 : (156 : Int) ≤ (c4 : Int) := by have := CC4.out; omega
    have k2 : ¬ c4 = 148 := by have := CC4.out; omega
    go_region_law ((refine step_copy_splice rfl (.tmp 25) (.tmp 26) 22 22 rfl 5 Try.underlying22 HT.out.elem (some ⟨g4, 148, none⟩) (some ⟨w.heap.size, 0, none⟩) 8 (c4 - 148) 8 8 (by simp [Act.eval, Act.put]) (by simp [Act.eval, Act.put]) g4 148 L 5 G4.out CS CL.out CP.out CF.out CO.out w1.heap.size w1 B4.out.drew GB4.out ?_; intro w5 hg5 hb5))
    have B5 := Lib.hid hb5
    have r5 : RowAt w5 g4 0 Y := by
      have h5 := hg5.out
      have ht := splice_take L X ys 148 512 T4.out HL.out (by rw [YL.out]; decide)
      rw [← hCS.out, ← hY.out] at ht
      exact .of_cells h5 ht L2.out Z2.out
    have l5 : g4 < w5.heap.size := by
      rcases Nat.lt_or_ge g4 w5.heap.size with hl | hl
      · exact hl
      · have h5 := hg5.out; rw [Array.getElem?_eq_none hl] at h5; cases h5
    have Y5 : Hid (BytesIn w5 (some ⟨g4, 0, none⟩) Y) := .of_row r5 l5
    have X5 : Hid (BytesIn w5 (some ⟨w0.heap.size, 0, none⟩) X) := H1.out.bytes.below B5.out
    clear hg5 hb5 r5 l5 k1 k2
    go_wp2_with fail
    refine (sum_ok _ 512 X _ HL.out X5.out HZ.out).mono ?_; rintro e w6 ⟨rfl, b6⟩
    have B6 := Lib.hid b6; clear b6
    rw [← hmm.out]
    have X6 := Lib.hid (X5.out.below B6.out); have Y6 := Lib.hid (Y5.out.below B6.out)
    go_wp2_with fail
    refine (sum_ok _ c4 Y _ L2.out Y6.out Z2.out).mono ?_; rintro e w7 ⟨rfl, b7⟩
    have B7 := Lib.hid b7; clear b7
    rw [M2.out]
    have X7 := Lib.hid (X6.out.below B7.out); have Y7 := Lib.hid (Y6.out.below B7.out)
    go_wp2_with fail
    refine (seal_ok _ 512 X _ HL.out X7.out HZ.out).mono ?_; rintro e w8 ⟨g8, rfl, h8, _, b8⟩
    have B8 := Lib.hid b8; have H8 := Lib.hid h8; clear b8 h8
    have Y8 := Lib.hid (Y7.out.below B8.out)
    go_wp2_with fail
    refine (seal_ok _ c4 Y _ L2.out Y8.out Z2.out).mono ?_; rintro e w9 ⟨g9, rfl, h9, _, b9⟩
    rw [S2.out] at h9
    have B9 := Lib.hid b9; have H9 := Lib.hid h9; clear b9 h9
    go_wp2_with fail
    refine (alive_any _).mono ?_; rintro e w10 ⟨rfl, b10⟩
    have B10 := Lib.hid b10; clear b10
    have hc1 := run_str_of (P := Try.prog) (w := w10) Try.underlying22 Try.underlying5 Try.underlying9 ((H8.out.below B9.out H8.out.lt).below B10.out (Nat.lt_of_lt_of_le H8.out.lt B9.out.size)).row 512 512 (seal_length HL.out)
    have hc2 := run_str_of (P := Try.prog) (w := w10) Try.underlying22 Try.underlying5 Try.underlying9 (H9.out.below B10.out H9.out.lt).row 512 512 (seal_length HL.out)
    rw [← hS.out] at hc1 hc2
    go_wp2
    go_ret
    exact ⟨rfl, belT B0.out (belT B1.out (belT B5.out (belT B6.out (belT B7.out (belT B8.out (belT B9.out B10.out))))))⟩

end Go.Proofs.Ytpickfkfciegeaa
