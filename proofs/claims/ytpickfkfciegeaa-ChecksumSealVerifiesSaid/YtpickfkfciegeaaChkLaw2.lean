/-
  ChecksumSealVerifies, walked.
-/
import Derived.Test.YtpickfkfciegeaaChkRef
import Derived.Deep.RegionWith
namespace Go.Proofs.Ytpickfkfciegeaa
open Go.RowKit

set_option maxHeartbeats 4000000 in
theorem walk_ChecksumSealVerifies (a : Option Addr) (len cap : Nat) (zs : List Int) (w : World) (h : ArgInts .u8 w a len cap zs) :
    Calls Try.prog 4 #[.slice a len cap] w fun e w' => e = .returned (.bool true) ∧ Below w.heap.size w w' := by
  have hlc := Lib.hid h.2.1
  have HM := Lib.hid h.2.2.1
  have hm : len ≤ maxLen := Nat.le_trans h.2.1 h.2.2.1
  have hz := Lib.hid h.1
  have hb := Lib.hid h.bytes
  clear h
  unfold maxLen at hm
  by_cases hl : (2000 : Int) < len
  · go_enter Try.func4, Try.ntmps4
    go_wp2_with fail
    refine (alive_any _).mono ?_; rintro e w1 ⟨rfl, hb1⟩
    go_wp2
    go_ret
    exact ⟨rfl, hb1⟩
  · obtain ⟨X, hX⟩ := named (blkZ zs)
    have HL : Hid (X.length = 512) := by show _ = _; rw [hX.out]; exact blk_length zs
    have HZ : Hid (Bytes X) := by show Bytes _; rw [hX.out]; exact blk_bytes hb.out.bytes
    obtain ⟨F, hF⟩ := named (strOfNums X)
    go_enter Try.func4, Try.ntmps4
    go_wp2_with fail
    refine (block_any a len cap zs _ hz.out hb.out).mono ?_; rintro e w1 ⟨rfl, h1, b1⟩
    rw [← hX.out] at h1
    have H1 := Lib.hid h1; have B1 := Lib.hid b1; clear h1 b1
    go_wp2_with fail
    refine (seal_ok _ 512 X _ HL.out H1.out.bytes HZ.out).mono ?_; rintro e w2 ⟨g2, rfl, h2, _, b2⟩
    have H2 := Lib.hid h2; have B2 := Lib.hid b2; clear h2 b2
    have B02 := Lib.hid (belT B1.out B2.out)
    have HB2 : Hid (BytesIn w2.drew a zs) := hb.out.below B02.out.drew
    have X2 : Hid (BytesIn w2.drew (some ⟨w.heap.size, 0, none⟩) X) := H1.out.bytes.below B2.out.drew
    have S2 : Hid (BytesIn w2.drew (some ⟨g2, 0, none⟩) (sealZ X)) := H2.out.bytes
    have hcx := run_str_in (P := Try.prog) Try.underlying22 Try.underlying5 Try.underlying9 X2.out 512 512 HL.out
    rw [← hF.out] at hcx
    go_wp2_with fail
    go_region_with (first | (go_at_call 9; refine (block_any a len cap zs _ hz.out HB2.out).mono ?_; rintro e w3 ⟨rfl, h3, b3⟩; rw [← hX.out] at h3; change ArrAt w3 w2.heap.size 5 X at h3; have hcx3 := run_str_in (P := Try.prog) Try.underlying22 Try.underlying5 Try.underlying9 (X2.out.below b3) 512 512 HL.out; have hcb3 := run_str_in (P := Try.prog) Try.underlying22 Try.underlying5 Try.underlying9 h3.bytes 512 512 HL.out; rw [← hF.out] at hcx3 hcb3; have H3 := Lib.hid h3; have B3 := Lib.hid b3; clear h3 b3; have S3 := Lib.hid (S2.out.below B3.out)) | (go_at_call 14; refine (ver_ok _ 512 (sealZ X) _ 0 (seal_length HL.out) S3.out (seal_bytes HZ.out) (.inl ⟨(sealZ_sealZ X HL.out).symm, rfl⟩)).mono ?_; rintro e w4 ⟨rfl, b4⟩; have B4 := Lib.hid b4; clear b4))
    all_goals
      have S4 := Lib.hid (S3.out.below B4.out)
      have B24 : Hid (Below w2.heap.size w2 w4) := by
        have h3 : Below w2.heap.size w2 w3 := (Below.refl w2.heap.size w2).drew.trans B3.out
        exact belT h3 B4.out
      go_wp2_with fail
      refine (seal_ok _ 512 (sealZ X) _ (seal_length HL.out) S4.out (seal_bytes HZ.out)).mono ?_; rintro e w5 ⟨g5, rfl, h5, n5, b5⟩
      have H5 := Lib.hid h5; have N5 := Lib.hid n5; have B5 := Lib.hid b5; clear h5 n5 b5
      go_wp2_with fail
      go_loopw [42] (fun i wr => ∃ j : Nat, j ≤ 512 ∧ i = .int .i64 j ∧ (∃ ys : List Int, ys.length = 512 ∧ ArrAt wr g5 43 ys) ∧ Below w4.heap.size w4 wr) (fun i _ => 512 - (intOf i).toNat)
      case atStart => exact ⟨0, by omega, rfl, ⟨_, seal_length (seal_length HL.out), H5.out⟩, B5.out⟩
      case round =>
        obtain ⟨j, hj, rfl, ⟨ys, hyl, hya⟩, hbel⟩ := hrel
        have YL := Lib.hid hyl; have YA := Lib.hid hya; have BR := Lib.hid hbel; clear hyl hya hbel
        by_cases hlt : j < 512
        · obtain ⟨d, hd, d0, d1, hcj⟩ := YA.out.row.get0 j (by rw [YL.out]; exact hlt)
          have hfz := YA.out.frozen j
          have hlt' : (j : Int) < 512 := by omega
          clear hd
          by_cases h255 : d < 255
          · have d2 : d + 1 ≤ 255 := by omega
            go_wp2
            go_roundw
            case rel => exact ⟨j + 1, by omega, by go_num, ⟨_, by rw [List.length_set]; exact YL.out, YA.out.set j ⟨by omega, d2⟩⟩, BR.out.setCell N5.out _⟩
            case measure => simp [intOf]; omega
          · obtain rfl : d = 255 := by omega
            go_wp2
            go_roundw
            case rel => exact ⟨j + 1, by omega, by go_num, ⟨_, by rw [List.length_set]; exact YL.out, YA.out.set j (by decide)⟩, BR.out.setCell N5.out _⟩
            case measure => simp [intOf]; omega
        · obtain rfl : j = 512 := by omega
          have SR := Lib.hid (S4.out.below BR.out)
          go_wp2_with fail
          refine (alive_any _).mono ?_; rintro e w9 ⟨rfl, b9⟩
          have B9 := Lib.hid b9; clear b9
          go_wp2_with fail
          refine (ver_ok _ 512 (sealZ X) _ 0 (seal_length HL.out) (SR.out.below B9.out) (seal_bytes HZ.out) (.inl ⟨(sealZ_sealZ X HL.out).symm, rfl⟩)).mono ?_; rintro e w10 ⟨rfl, b10⟩
          have B10 := Lib.hid b10; clear b10
          go_wp2
          go_ret
          exact ⟨rfl, belT B02.out (belT B24.out (belT BR.out (belT B9.out B10.out)))⟩

end Go.Proofs.Ytpickfkfciegeaa
