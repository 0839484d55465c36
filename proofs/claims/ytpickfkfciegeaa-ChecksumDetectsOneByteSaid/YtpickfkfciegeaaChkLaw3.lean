/-
  ChecksumDetectsOneByte, walked.
-/
import Derived.Test.YtpickfkfciegeaaChkRef
import Derived.Laws.BitsAllLaws
namespace Go.Proofs.Ytpickfkfciegeaa
open Go.RowKit

set_option maxHeartbeats 4000000 in
theorem walk_ChecksumDetectsOneByte (a : Option Addr) (len cap : Nat) (zs : List Int) (at_ by_ : Int) (w : World) (h : ArgInts .u8 w a len cap zs) (hat : (Lit.int .u16 at_).wf = true) (hby : (Lit.int .u8 by_).wf = true) :
    Calls Try.prog 5 #[.slice a len cap, .int .u16 at_, .int .u8 by_] w fun e w' => e = .returned (.bool true) ∧ Below w.heap.size w w' := by
  have hlc := Lib.hid h.2.1
  have HM := Lib.hid h.2.2.1
  have hm : len ≤ maxLen := Nat.le_trans h.2.1 h.2.2.1
  have hz := Lib.hid h.1
  have hb := Lib.hid h.bytes
  clear h
  unfold maxLen at hm
  obtain ⟨b0, b1⟩ := bounds_u8 hby
  have hat' : 0 ≤ at_ ∧ at_ ≤ 65535 := bounds_u16 hat
  obtain ⟨a0, a1⟩ := hat'
  clear hat hby
  by_cases hl : (2000 : Int) < len
  · go_enter Try.func5, Try.ntmps5
    go_wp2_with fail
    refine (alive_any _).mono ?_; rintro e w1 ⟨rfl, hb1⟩
    go_wp2
    go_ret
    exact ⟨rfl, hb1⟩
  by_cases hy : by_ = 0
  · subst hy
    go_enter Try.func5, Try.ntmps5
    go_wp2_with fail
    refine (alive_any _).mono ?_; rintro e w1 ⟨rfl, hb1⟩
    go_wp2
    go_ret
    exact ⟨rfl, hb1⟩
  · obtain ⟨X, hX⟩ := named (sealZ (blkZ zs))
    have HL : Hid (X.length = 512) := by show _ = _; rw [hX.out]; exact seal_length (blk_length zs)
    have HZ : Hid (Bytes X) := by show Bytes _; rw [hX.out]; exact seal_bytes (blk_bytes hb.out.bytes)
    have HS : Hid (sealZ X = X) := by show _ = _; rw [hX.out]; exact sealZ_sealZ _ (blk_length zs)
    have hy1 : (by_ == 0) = false := by simpa using hy
    obtain ⟨i, hi, hi2⟩ : ∃ i : Nat, at_ % 512 = i ∧ i < 512 := ⟨(at_ % 512).toNat, by omega⟩
    have HT := Lib.hid hdrT
    obtain ⟨i0, HI⟩ := info_u8 Try.info5
    obtain ⟨d, hd⟩ := named (X.getD i 0)
    have hdb : 0 ≤ d ∧ d ≤ 255 := by rw [hd.out]; exact HZ.out.getD i
    obtain ⟨v, hv⟩ := named ((d.toNat ^^^ by_.toNat : Nat) : Int)
    have HV : Hid ((0 ≤ v ∧ v ≤ 255) ∧ v ≠ d) := by show _ ∧ _; rw [hv.out]; exact xor_byte d by_ hdb ⟨b0, b1⟩ hy
    have hxor : bits .xor .u8 d by_ = v := by rw [u8_xor d by_ hdb.1 (by omega) b0 (by omega)]; exact hv.out.symm
    obtain ⟨d0, d1⟩ := hdb
    go_enter Try.func5, Try.ntmps5
    go_wp2_with fail
    refine (block_any a len cap zs _ hz.out hb.out).mono ?_; rintro e w1 ⟨rfl, h1, b1⟩
    have H1 := Lib.hid h1; have B1 := Lib.hid b1; clear h1 b1
    go_wp2_with fail
    refine (seal_ok _ 512 (blkZ zs) _ (blk_length zs) H1.out.bytes (blk_bytes hb.out.bytes)).mono ?_; rintro e w2 ⟨g2, rfl, h2, _, b2⟩
    rw [← hX.out] at h2
    have H2 := Lib.hid h2; have B2 := Lib.hid b2; clear h2 b2
    have B02 := Lib.hid (belT B1.out B2.out)
    go_wp2_with (first | (refine wpList_lit_none rfl 22 5 rfl Try.underlying22 HT.out.elem ?_; intro w3 h3 b3; have O3 := Lib.hid h3; have B3 := Lib.hid b3; clear h3 b3) | (at_builtin; refine wpList_append_in rfl _ _ 22 rfl w2.heap.size 5 i0 Try.underlying22 HI (.slice (some ⟨w2.heap.size, 0, none⟩) 0 0) 0 [] rfl O3.out (some ⟨g2, 0, none⟩) 512 512 X rfl (H2.out.bytes.below B3.out) HL.out (by decide) B3.out.size ?_; intro v4 w4 h4 b4; rw [Nat.zero_add, List.nil_append] at h4; obtain ⟨g4, c4, rfl, gb4, gl4, r4, cc4, cm4⟩ := own_form h4 (by decide) HZ.out; have O4 := Lib.hid h4; have B4 := Lib.hid (B3.out.trans b4); have hcell := r4.cell0 i (by rw [HL.out]; exact hi2); rw [← hd.out] at hcell; have hfz := h4.frozenAt i; have GB4 := Lib.hid gb4; have GL4 := Lib.hid gl4; have R4 := Lib.hid r4; have CC4 := Lib.hid cc4; clear h4 b4 gb4 gl4 r4 cc4 cm4))
    have r5 : RowAt (w4.setCell ⟨g4, i, none⟩ (.int .u8 v)) g4 0 (X.set i v) := by
      have o5 := (O4.out.stored i (.int .u8 v)).1
      rw [← List.map_set] at o5
      exact .of_own o5 (HZ.out.set i HV.out.1)
    have R5 : Hid (BytesIn (w4.setCell ⟨g4, i, none⟩ (.int .u8 v)) (some ⟨g4, 0, none⟩) (X.set i v)) := .of_row r5 (by simpa [World.setCell] using GL4.out)
    have B5 : Hid (Below w2.heap.size w2 (w4.setCell ⟨g4, i, none⟩ (.int .u8 v))) := B4.out.setCell GB4.out _
    have NE : Hid (¬ X.set i v = sealZ (X.set i v)) := fun e => seal_one X i v HL.out HZ.out HS.out hi2 HV.out.1 (by rw [← hd.out]; exact HV.out.2) e.symm
    clear r5 hcell hfz
    refine (alive_any _).mono ?_; rintro e w6 ⟨rfl, b6⟩
    have B6 := Lib.hid b6; clear b6
    go_wp2_with fail
    refine (ver_ok _ _ (X.set i v) _ 9 (by rw [List.length_set]; exact HL.out) (R5.out.below B6.out) (HZ.out.set i HV.out.1) (.inr ⟨NE.out, rfl⟩)).mono ?_; rintro e w7 ⟨rfl, b7⟩
    have B7 := Lib.hid b7; clear b7
    go_wp2
    go_ret
    exact ⟨rfl, belT B02.out (belT B5.out (belT B6.out B7.out))⟩

end Go.Proofs.Ytpickfkfciegeaa
