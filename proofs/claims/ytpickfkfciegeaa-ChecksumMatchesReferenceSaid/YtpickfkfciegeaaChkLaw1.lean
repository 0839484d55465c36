/-
  ChecksumMatchesReference, walked.
-/
import Derived.Test.YtpickfkfciegeaaChkRef
namespace Go.Proofs.Ytpickfkfciegeaa
open Go.RowKit

theorem ver_of (zs : List Int) : ∃ v : Int, (zs = sealZ zs ∧ v = 0) ∨ (¬ zs = sealZ zs ∧ v = 9) := by
  by_cases h : zs = sealZ zs
  · exact ⟨0, .inl ⟨h, rfl⟩⟩
  · exact ⟨9, .inr ⟨h, rfl⟩⟩
set_option maxHeartbeats 4000000 in
theorem walk_ChecksumMatchesReference (a : Option Addr) (len cap : Nat) (zs : List Int) (w : World) (h : ArgInts .u8 w a len cap zs) :
    Calls Try.prog 3 #[.slice a len cap] w fun e w' => e = .returned (.bool true) ∧ Below w.heap.size w w' := by
  have hlc := Lib.hid h.2.1
  have HM := Lib.hid h.2.2.1
  have hm : len ≤ maxLen := Nat.le_trans h.2.1 h.2.2.1
  have hz := Lib.hid h.1
  have hb := Lib.hid h.bytes
  clear h
  unfold maxLen at hm
  by_cases hl : (2000 : Int) < len
  · go_enter Try.func3, Try.ntmps3
    go_wp2_with fail
    refine (alive_any _).mono ?_; rintro e w1 ⟨rfl, hb1⟩
    go_wp2
    go_ret
    exact ⟨rfl, hb1⟩
  · have hn := fun w => run_convert_bytes_nil (P := Try.prog) w 22 5 Try.underlying22 Try.underlying5 0 0 9 Try.underlying9
    go_enter Try.func3, Try.ntmps3
    go_wp2_with fail
    refine (block_any a len cap zs _ hz.out hb.out).mono ?_; rintro e w1 ⟨rfl, h1, b1⟩
    have H1 := Lib.hid h1; have B1 := Lib.hid b1; clear h1 b1
    go_wp2_with (refine wpList_lit_two rfl 25 22 _ _ rfl Try.underlying25 (.slice none 0 0) (by kernel_rfl) (.slice a len cap) (.slice (some ⟨w.heap.size, 0, none⟩) 512 512) rfl rfl rfl rfl rfl ?_; intro w2 h2 b2; have H2 := Lib.hid h2; have B2 := Lib.hid b2; clear h2 b2)
    have G2 : Hid (w1.heap.size < w2.heap.size) := by
      show _ < _
      rcases Nat.lt_or_ge w1.heap.size w2.heap.size with hl | hl
      · exact hl
      · have := H2.out; rw [Array.getElem?_eq_none hl] at this; cases this
    have B02 := Lib.hid (belT B1.out B2.out)
    go_loopw [22] (fun i wr => ∃ j : Nat, j ≤ 2 ∧ i = .int .i64 j ∧ Below w2.heap.size w2 wr) (fun i _ => 2 - (intOf i).toNat)
    case atStart => exact ⟨0, by omega, rfl, Below.refl _ _⟩
    case round =>
      obtain ⟨j, hj, rfl, hbel⟩ := hrel
      have BR := Lib.hid hbel; clear hbel
      by_cases hlt : j < 2
      · obtain ⟨a', len', cap', zs', hcell, hl', hb', hc', hm'⟩ : ∃ a' len' cap' zs', wr.cell? ⟨w1.heap.size, j, none⟩ = some (.slice a' len' cap') ∧ zs'.length = len' ∧ BytesIn wr a' zs' ∧ len' ≤ cap' ∧ len' ≤ maxLen := by
          have hcl : ∀ k, wr.cell? ⟨w1.heap.size, k, none⟩ = #[Value.slice a len cap, .slice (some ⟨w.heap.size, 0, none⟩) 512 512][k]? := fun k =>
            cell_of_row wr _ k _ _ _ ((BR.out.block _ G2.out).trans H2.out)
          rcases (by omega : j = 0 ∨ j = 1) with rfl | rfl
          · exact ⟨a, len, cap, zs, hcl 0, hz.out, (hb.out.below B02.out).below BR.out, hlc.out, by unfold maxLen; omega⟩
          · exact ⟨_, 512, 512, blkZ zs, hcl 1, blk_length _, (H1.out.bytes.below B2.out).below BR.out, Nat.le_refl _, by unfold maxLen; omega⟩
        have HB := Lib.hid hb'; have HL := Lib.hid hl'; have HC := Lib.hid hc'
        have HZ := Lib.hid hb'.bytes
        clear hb' hl' hc'
        unfold maxLen at hm'
        have hlt' : (j : Int) < 2 := by omega
        by_cases h5 : len' = 512
        · subst h5
          obtain ⟨n, hnn⟩ := named (sumZ zs')
          obtain ⟨S, hS⟩ := named (strOfNums (sealZ zs'))
          obtain ⟨v, hv⟩ := ver_of zs'
          have HV := Lib.hid hv; clear hv
          go_wp2_with fail
          refine (sum_ok a' cap' zs' _ HL.out HB.out HZ.out).mono ?_; rintro e w3 ⟨rfl, b3⟩
          have B3 := Lib.hid b3; clear b3
          have HB3 := Lib.hid (HB.out.below B3.out)
          rw [← hnn.out]
          go_wp2_with fail
          refine (rsum_ok a' cap' zs' _ HL.out HB3.out).mono ?_; rintro e w4 ⟨rfl, rfl⟩
          rw [← hnn.out]
          go_wp2_with fail
          refine (seal_ok a' cap' zs' _ HL.out HB3.out HZ.out).mono ?_; rintro e w5 ⟨g5, rfl, h5, _, b5⟩
          have B5 := Lib.hid b5; have H5 := Lib.hid h5; clear b5 h5
          have HB5 := Lib.hid (HB3.out.below B5.out)
          go_wp2_with fail
          refine (rseal_ok a' cap' zs' _ HL.out HB5.out HC.out).mono ?_; rintro e w6 ⟨g6, c6, rfl, r6, l6, b6⟩
          have B6 := Lib.hid b6; have R6 := Lib.hid r6; clear b6 r6 l6
          have HB6 := Lib.hid (HB5.out.below B6.out)
          have hc1 := run_str_of (P := Try.prog) (w := w6) Try.underlying22 Try.underlying5 Try.underlying9 (H5.out.below B6.out H5.out.lt).row 512 512 (seal_length HL.out)
          have hc2 := run_str_of (P := Try.prog) (w := w6) Try.underlying22 Try.underlying5 Try.underlying9 R6.out 512 c6 (seal_length HL.out)
          rw [← hS.out] at hc1 hc2
          go_wp2_with fail
          refine (ver_ok a' cap' zs' _ v HL.out HB6.out HZ.out HV.out).mono ?_; rintro e w7 ⟨rfl, b7⟩
          have B7 := Lib.hid b7; clear b7
          have HB7 := Lib.hid (HB6.out.below B7.out)
          go_wp2_with fail
          refine (rver_ok a' cap' zs' _ v HL.out HB7.out HZ.out HC.out HV.out).mono ?_; rintro e w8 ⟨rfl, b8⟩
          have B8 := Lib.hid b8; clear b8
          go_wp2
          go_roundw
          case rel => exact ⟨j + 1, by omega, by go_num, belT BR.out (belT B3.out (belT B5.out (belT B6.out (belT B7.out B8.out))))⟩
          case measure => simp [intOf]; omega
        · have H5 := Lib.hid h5; clear h5
          go_wp2_with fail
          refine (sum_bad a' len' cap' _ H5.out).mono ?_; rintro e w3 ⟨rfl, b3⟩
          have B3 := Lib.hid b3; clear b3
          go_wp2_with fail
          refine (rsum_bad a' len' cap' _ H5.out).mono ?_; rintro e w4 ⟨rfl, rfl⟩
          go_wp2_with fail
          refine (seal_bad a' len' cap' _ H5.out).mono ?_; rintro e w5 ⟨rfl, b5⟩
          have B5 := Lib.hid b5; clear b5
          go_wp2_with fail
          refine (rseal_bad a' len' cap' _ H5.out).mono ?_; rintro e w6 ⟨rfl, rfl⟩
          go_wp2_with fail
          refine (ver_bad a' len' cap' _ H5.out).mono ?_; rintro e w7 ⟨rfl, b7⟩
          have B7 := Lib.hid b7; clear b7
          go_wp2_with fail
          refine (rver_bad a' len' cap' _ H5.out).mono ?_; rintro e w8 ⟨rfl, rfl⟩
          go_wp2
          go_roundw
          case rel => exact ⟨j + 1, by omega, by go_num, belT BR.out (belT B3.out (belT B5.out B7.out))⟩
          case measure => simp [intOf]; omega
      · obtain rfl : j = 2 := by omega
        go_wp2_with fail
        refine (alive_any _).mono ?_; rintro e w9 ⟨rfl, b9⟩
        have B9 := Lib.hid b9; clear b9
        go_wp2
        go_ret
        exact ⟨rfl, belT B02.out (belT BR.out B9.out)⟩

end Go.Proofs.Ytpickfkfciegeaa
