/-
  Walks of layer 3: the methods of a header, convert, Sum, Seal, Verify.
-/
import Derived.Test.YtbgmhdhfcckbbaaDoorRows
import Derived.Test.YtbgmhdhfcckbbaaDoorChkMath
import Derived.Test.YtbgmhdhfcckbbaaDoorOctFormat
namespace Go.Proofs.YtbgmhdhfcckbbaaDoor.Chk
open Go.RowKit
open Oct

theorem hdrT : ArrT Tryd.prog 66 5 512 := ⟨Tryd.underlying66, by kernel_rfl, Tryd.underlying5, Tryd.info5⟩
theorem sp8_str : numsOf { data := #[32, 32, 32, 32, 32, 32, 32, 32] } = sp8 := by decide

set_option maxHeartbeats 1000000 in
theorem hsum_any (zs : List Int) (w : World) (hl : zs.length = 512) (hb : Bytes zs) :
    Calls Tryd.prog 61 #[.agg (arr zs)] w fun e w' => e = .returned (.int .i64 (sumZ zs)) ∧ Below w.heap.size w w' := by
  have HL := Lib.hid hl; clear hl
  have HB := Lib.hid hb; clear hb
  have HT := Lib.hid hdrT
  go_enter Tryd.func61, Tryd.ntmps61
  go_wp2_with (first | (refine wpList_box_arr rfl 66 _ rfl zs rfl HB.out ?_; intro w1 h1 b1; have H1 := Lib.hid h1; clear h1) | (refine wpList_copy_arr_str rfl _ _ 26 9 rfl 5 Tryd.underlying26 HT.out.elem w.heap.size 148 364 364 rfl _ rfl 66 zs H1.out (by decide) (by rw [HL.out]; decide) ?_; intro w2 h2 t2; have H2 := Lib.hid h2; have T2 := Lib.hid t2; clear h2 t2) | (refine wpList_load_arr rfl 66 5 512 HT.out _ rfl w.heap.size 0 rfl (blankZ zs) H2.out.row (blank_length HL.out) ?_))
  have hbl := blank_bytes HB.out
  have BD := Lib.hid (take_sum_bd hbl)
  have HN := Lib.hid (blank_length HL.out)
  have B2 := Lib.hid ((b1).trans (T2.out.below (Nat.le_refl _)))
  have HZ := Lib.hid hbl; clear hbl b1
  go_loop [3, 9] (fun n i => ∃ j : Nat, j ≤ 512 ∧ i = .int .i64 j ∧ n = .int .i64 ((blankZ zs).take j).sum) (fun _ i => 512 - (intOf i).toNat)
  case atStart => exact ⟨0, Nat.zero_le _, rfl, rfl⟩
  case round =>
    obtain ⟨j, hj, rfl, rfl⟩ := hrel
    obtain ⟨d0, d1⟩ := BD.out j
    by_cases hlt : j < 512
    · have hix := run_index_arr (w := w2) HT.out (blankZ zs) HN.out j hlt
      obtain ⟨c, hc⟩ := named ((blankZ zs).getD j 0)
      have hcb := HZ.out.getD j
      rw [← hc.out] at hix hcb
      obtain ⟨c0, c1⟩ := hcb
      obtain ⟨S, hS⟩ := named ((blankZ zs).take j).sum
      rw [← hS.out] at d0 d1 ⊢
      have HS : Hid (((blankZ zs).take (j + 1)).sum = S + c) := by
        show _ = _; rw [sum_take_succ (by rw [HN.out]; exact hlt), hS.out, hc.out]
      have hlt' : (j : Int) < 512 := by omega
      go_wp2
      go_round
      case rel => exact ⟨j + 1, by omega, by go_num, by rw [HS.out]⟩
      case measure => simp [intOf]; omega
    · obtain rfl : j = 512 := by omega
      go_wp2
      go_ret
      exact ⟨ret_int (by rw [List.take_of_length_le (by rw [HN.out]; exact Nat.le_refl _)]; rfl), B2.out⟩

set_option maxHeartbeats 1000000 in
theorem hseal_any (zs : List Int) (w : World) (hl : zs.length = 512) (hb : Bytes zs) :
    Calls Tryd.prog 33 #[.agg (arr zs)] w fun e w' => e = .returned (.agg (arr (sealZ zs))) ∧ Below w.heap.size w w' := by
  have HL := Lib.hid hl; clear hl
  have HB := Lib.hid hb; clear hb
  have HT := Lib.hid hdrT
  go_enter Tryd.func33, Tryd.ntmps33
  go_wp2_with (first | (refine wpList_box_arr rfl 66 _ rfl zs rfl HB.out ?_; intro w1 h1 b1; have H1 := Lib.hid h1; clear h1; have B1 := Lib.hid b1; clear b1) | (refine wpList_alloc_arr rfl 66 5 512 HT.out rfl ?_; intro w2 h2 b2; have H2 := Lib.hid h2; have B2 := Lib.hid b2; clear h2 b2) | (refine wpList_load_arr rfl 66 5 512 HT.out _ rfl w.heap.size 0 rfl zs (H1.out.below B2.out H1.out.lt).row HL.out ?_))
  refine (hsum_any zs _ HL.out HB.out).mono ?_; rintro e w3 ⟨rfl, b3⟩
  have B3 := Lib.hid b3; clear b3
  obtain ⟨n, hn⟩ := named (sumZ zs)
  have FN : Hid (0 ≤ n ∧ n ≤ mx 6) := by show _ ∧ _; rw [hn.out]; exact sumZ_fits HB.out HL.out
  rw [← hn.out]
  go_wp2_with fail
  refine (fmt_ok n 7 6 _ (by decide) (by decide) (by decide) FN.out.1 FN.out.2).mono ?_; rintro e w4 ⟨rfl, h4, b4⟩
  have H4 := Lib.hid h4; clear h4
  have B4 := Lib.hid b4; clear b4
  have G01 : Hid (w.heap.size < w1.heap.size) := H1.out.lt
  have G12 : Hid (w1.heap.size < w2.heap.size) := H2.out.lt
  have G23 := Lib.hid B3.out.size
  have G34 : Hid (w3.heap.size < w4.heap.size) := (own_lt H4.out).2
  have A0 : Hid (ArrAt w4 w.heap.size 66 zs) := ((H1.out.below B2.out G01.out).below B3.out (Nat.lt_trans G01.out G12.out)).below B4.out (Nat.lt_of_lt_of_le (Nat.lt_trans G01.out G12.out) G23.out)
  have A1 : Hid (ArrAt w4 w1.heap.size 66 (zeros 512)) := (H2.out.below B3.out G12.out).below B4.out (Nat.lt_of_lt_of_le G12.out G23.out)
  have D4 : Hid (RowAt w4 w3.heap.size 0 (fld 6 n)) := RowAt.of_own H4.out (fld_bd 6 n)
  have N1 : Hid (w1.heap.size ≠ w.heap.size) := by have := G01.out; show _ ≠ _; omega
  have N2 : Hid (w3.heap.size ≠ w.heap.size) := by have := G01.out; have := G12.out; have := G23.out; show _ ≠ _; omega
  go_wp2_with (first | (refine wpList_copy_arr_str rfl _ _ 26 9 rfl 5 Tryd.underlying26 HT.out.elem w.heap.size 148 364 364 rfl _ rfl 66 zs A0.out (by decide) (by rw [HL.out]; decide) ?_; intro w5 h5 t5; have H5 := Lib.hid h5; have T5 := Lib.hid t5; clear h5 t5) | (refine wpList_copy_arr rfl _ _ 26 26 rfl 5 Tryd.underlying26 HT.out.elem w.heap.size 148 364 364 rfl (some ⟨w3.heap.size, 0, none⟩) 7 7 rfl (fld 6 n) (.of_row (D4.out.turned T5.out N2.out) (by rw [T5.out.size]; exact G34.out)) (fld_length _ _) 66 (blankZ zs) H5.out (by rw [blank_length HL.out]; decide) ?_; intro w6 h6 t6; have H6 := Lib.hid h6; have T6 := Lib.hid t6; clear h6 t6) | (refine wpList_load_arr rfl 66 5 512 HT.out _ rfl w.heap.size 0 rfl (sealZ zs) (by have := H6.out; rw [hn.out, List.take_of_length_le (by rw [fld_length]; decide), seal_two zs HL.out] at this; exact this.row) (seal_length HL.out) ?_) | (refine wpList_store_arr rfl 66 5 512 HT.out _ _ rfl w1.heap.size rfl (sealZ zs) rfl (seal_bytes HB.out) (seal_length HL.out) 66 (zeros 512) ((A1.out.turned T5.out N1.out).turned T6.out N1.out) (zeros_length _) ?_; intro w7 h7 t7; have H7 := Lib.hid h7; have T7 := Lib.hid t7; clear h7 t7))
  have L0 := Nat.le_of_lt G01.out
  have L1 := Nat.le_of_lt G12.out
  exact bodyPost_ret (results_arr Tryd.results33 HT.out _ w1.heap.size rfl _ (sealZ zs) H7.out (seal_length HL.out)) rfl ⟨rfl,
    B1.out.trans ((B2.out.mono L0).trans ((B3.out.mono (Nat.le_trans L0 L1)).trans ((B4.out.mono (Nat.le_trans (Nat.le_trans L0 L1) G23.out)).trans ((T5.out.below (Nat.le_refl _)).trans ((T6.out.below (Nat.le_refl _)).trans (T7.out.below L0))))))⟩

set_option maxHeartbeats 1000000 in
theorem conv_ok (a : Option Addr) (cap : Nat) (zs : List Int) (w : World) (hl : zs.length = 512) (hb : BytesIn w a zs) :
    Calls Tryd.prog 32 #[.slice a 512 cap] w fun e w' => e = .returned (.tuple #[.agg (arr zs), .int .i64 0]) ∧ Below w.heap.size w w' := by
  obtain ⟨b, off, rfl, hlt, hr⟩ : ∃ b off, a = some ⟨b, off, none⟩ ∧ b < w.heap.size ∧ RowAt w b off zs := by
    rcases hb with hb | hb
    · rw [hb] at hl; cases hl
    · exact hb
  have HL := Lib.hid hl; clear hl hb
  have HR := Lib.hid hr; clear hr
  have HLT := Lib.hid hlt; clear hlt
  have HT := Lib.hid hdrT
  have ha := fun w => run_arrayAt (w := w) HT.out (some ⟨b, off, none⟩) 512 cap (Nat.le_refl _)
  go_enter Tryd.func32, Tryd.ntmps32
  go_wp2_with (first | (refine wpList_alloc_arr rfl 66 5 512 HT.out rfl ?_; intro w1 h1 b1; have H1 := Lib.hid h1; have B1 := Lib.hid b1; clear h1 b1) | (refine wpList_load_arr rfl 66 5 512 HT.out _ rfl b off rfl zs (HR.out.below B1.out HLT.out) HL.out ?_) | (refine wpList_store_arr rfl 66 5 512 HT.out _ _ rfl w.heap.size rfl zs rfl HR.out.2 HL.out 66 (zeros 512) H1.out (zeros_length _) ?_; intro w2 h2 t2; have H2 := Lib.hid h2; have T2 := Lib.hid t2; clear h2 t2))
  exact bodyPost_ret (results_arr_tmp Tryd.results32 HT.out _ w.heap.size rfl _ zs H2.out HL.out) rfl ⟨rfl, B1.out.trans (T2.out.below (Nat.le_refl _))⟩

set_option maxHeartbeats 1000000 in
theorem conv_bad (a : Option Addr) (len cap : Nat) (w : World) (hl : ¬ len = 512) :
    Calls Tryd.prog 32 #[.slice a len cap] w fun e w' => e = .returned (.tuple #[.agg (arr (zeros 512)), .int .i64 2]) ∧ Below w.heap.size w w' := by
  have h2 : ((len : Int) == 512) = false := by simp; omega
  have h3 : ((len : Int) != 512) = true := by simp; omega
  have HT := Lib.hid hdrT
  go_enter Tryd.func32, Tryd.ntmps32
  go_wp2_with (first | (refine wpList_alloc_arr rfl 66 5 512 HT.out rfl ?_; intro w1 h1 b1; have H1 := Lib.hid h1; have B1 := Lib.hid b1; clear h1 b1) | (refine wpList_build_arr rfl 66 5 512 HT.out rfl ?_) | (refine wpList_store_arr rfl 66 5 512 HT.out _ _ rfl w.heap.size rfl (zeros 512) rfl (zeros_bytes _) (zeros_length _) 66 (zeros 512) H1.out (zeros_length _) ?_; intro w2 h2 t2; have H2 := Lib.hid h2; have T2 := Lib.hid t2; clear h2 t2))
  exact bodyPost_ret (results_arr_tmp Tryd.results32 HT.out _ w.heap.size rfl _ (zeros 512) H2.out (zeros_length _)) rfl ⟨rfl, B1.out.trans (T2.out.below (Nat.le_refl _))⟩

end Go.Proofs.YtbgmhdhfcckbbaaDoor.Chk
