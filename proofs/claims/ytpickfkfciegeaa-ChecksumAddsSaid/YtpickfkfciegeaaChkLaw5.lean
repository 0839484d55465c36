/-
  ChecksumAdds, walked.
-/
import Derived.Test.YtpickfkfciegeaaChkRef
namespace Go.Proofs.Ytpickfkfciegeaa
open Go.RowKit

set_option maxRecDepth 100000 in
set_option maxHeartbeats 4000000 in
theorem adds_lo (a : Option Addr) (len cap : Nat) (zs : List Int) (at_ by_ : Int) (w : World) (hm : len ≤ 2000) (hz : Hid (zs.length = len)) (hb : Hid (BytesIn w a zs)) (b0 : 0 ≤ by_) (b1 : by_ ≤ 255) (a0 : 0 ≤ at_) (a1 : at_ ≤ 65535)
    (j : Nat) (hj : at_ % 512 = j) (h1 : j < 148) (c D : Int) (hc : Hid (c = (blkZ zs).getD j 0)) (c0 : 0 ≤ c) (c1 : c ≤ 255) (hD : (by_ ≤ 255 - c ∧ D = by_) ∨ (¬ by_ ≤ 255 - c ∧ D = 255 - c)) (hk : Hid (j < 512 ∧ (j < 148 ∨ 156 ≤ j))) :
    Calls Try.prog 7 #[.slice a len cap, .int .u16 at_, .int .u8 by_] w fun e w' => e = .returned (.bool true) ∧ Below w.heap.size w w' := by
  obtain ⟨X, hX⟩ := named (blkZ zs)
  have HL : Hid (X.length = 512) := by show _ = _; rw [hX.out]; exact blk_length zs
  have HZ : Hid (Bytes X) := by show Bytes _; rw [hX.out]; exact blk_bytes hb.out.bytes
  rw [← hX.out] at hc
  have HT := Lib.hid hdrT
  obtain ⟨i0, HI⟩ := info_u8 Try.info5
  have hl : ¬ (2000 : Int) < len := by omega
  have D0 : 0 ≤ D ∧ c + D ≤ 255 := by omega
  obtain ⟨m, hmm⟩ := named (sumZ X)
  have HS : Hid (sumZ (X.set j (c + D)) = m + D) := by
    show _ = _; rw [sumZ_set X j (c + D) HL.out hk.out.1 hk.out.2, ← hc.out, ← hmm.out]; omega
  have HY : Hid (Bytes (X.set j (c + D))) := HZ.out.set _ (by omega)
  have m0 := sumZ_bd HZ.out HL.out
  have m1 := sumZ_bd HY.out (by rw [List.length_set]; exact HL.out)
  rw [HS.out] at m1
  rw [← hmm.out] at m0
  obtain ⟨m2, m3⟩ := m0
  obtain ⟨m4, m5⟩ := m1
  obtain ⟨D0, D1⟩ := D0
  rcases hD with ⟨hD, rfl⟩ | ⟨hD, rfl⟩
  · go_enter Try.func7, Try.ntmps7
    go_wp2_with fail
    refine (block_any a len cap zs _ hz.out hb.out).mono ?_; rintro e w1 ⟨rfl, h1, b1⟩
    rw [← hX.out] at h1
    have H1 := Lib.hid h1; have B1 := Lib.hid b1; clear h1 b1
    go_wp2_with (first | (refine wpList_lit_none rfl 22 5 rfl Try.underlying22 HT.out.elem ?_; intro w3 h3 b3; have O3 := Lib.hid h3; have B3 := Lib.hid b3; clear h3 b3) | (at_builtin; refine wpList_append_in rfl _ _ 22 rfl w1.heap.size 5 i0 Try.underlying22 HI (.slice (some ⟨w1.heap.size, 0, none⟩) 0 0) 0 [] rfl O3.out (some ⟨w.heap.size, 0, none⟩) 512 512 X rfl (H1.out.bytes.below B3.out) HL.out (by decide) B3.out.size ?_; intro v4 w4 h4 b4; rw [Nat.zero_add, List.nil_append] at h4; obtain ⟨g4, c4, rfl, gb4, gl4, r4, cc4, cm4⟩ := own_form h4 (by decide) HZ.out; have O4 := Lib.hid h4; have B4 := Lib.hid (B3.out.trans b4); have hcell := r4.cell0 j (by rw [HL.out]; exact hk.out.1); rw [← hc.out] at hcell; have hfz := h4.frozenAt j; have GB4 := Lib.hid gb4; have GL4 := Lib.hid gl4; have CC4 := Lib.hid cc4; clear h4 b4 gb4 gl4 r4 cc4 cm4))
    clear hcell hfz
    obtain ⟨wy, hwy⟩ : ∃ wy, w4.setCell ⟨g4, j, none⟩ (.int .u8 (c + D)) = wy := ⟨_, rfl⟩
    have R5 : Hid (BytesIn wy (some ⟨g4, 0, none⟩) (X.set j (c + D))) := by
      have o5 := (O4.out.stored j (.int .u8 (c + D))).1
      rw [← List.map_set, hwy] at o5
      exact .of_own o5 HY.out
    have B5 : Hid (Below w1.heap.size w1 wy) := by show Below _ _ _; rw [← hwy]; exact B4.out.setCell GB4.out _
    rw [hwy]
    clear hwy
    refine (sum_ok _ 512 X _ HL.out (H1.out.bytes.below B5.out) HZ.out).mono ?_; rintro e w6 ⟨rfl, b6⟩
    have B6 := Lib.hid b6; clear b6
    rw [← hmm.out]
    go_wp2_with fail
    refine (sum_ok _ c4 (X.set j (c + D)) _ (by rw [List.length_set]; exact HL.out) (R5.out.below B6.out) HY.out).mono ?_; rintro e w7 ⟨rfl, b7⟩
    have B7 := Lib.hid b7; clear b7
    rw [HS.out]
    go_wp2_with fail
    refine (alive_any _).mono ?_; rintro e w8 ⟨rfl, b8⟩
    have B8 := Lib.hid b8; clear b8
    go_wp2
    go_ret
    exact ⟨rfl, belT B1.out (belT B5.out (belT B6.out (belT B7.out B8.out)))⟩
  · go_enter Try.func7, Try.ntmps7
    go_wp2_with fail
    refine (block_any a len cap zs _ hz.out hb.out).mono ?_; rintro e w1 ⟨rfl, h1, b1⟩
    rw [← hX.out] at h1
    have H1 := Lib.hid h1; have B1 := Lib.hid b1; clear h1 b1
    go_wp2_with (first | (refine wpList_lit_none rfl 22 5 rfl Try.underlying22 HT.out.elem ?_; intro w3 h3 b3; have O3 := Lib.hid h3; have B3 := Lib.hid b3; clear h3 b3) | (at_builtin; refine wpList_append_in rfl _ _ 22 rfl w1.heap.size 5 i0 Try.underlying22 HI (.slice (some ⟨w1.heap.size, 0, none⟩) 0 0) 0 [] rfl O3.out (some ⟨w.heap.size, 0, none⟩) 512 512 X rfl (H1.out.bytes.below B3.out) HL.out (by decide) B3.out.size ?_; intro v4 w4 h4 b4; rw [Nat.zero_add, List.nil_append] at h4; obtain ⟨g4, c4, rfl, gb4, gl4, r4, cc4, cm4⟩ := own_form h4 (by decide) HZ.out; have O4 := Lib.hid h4; have B4 := Lib.hid (B3.out.trans b4); have hcell := r4.cell0 j (by rw [HL.out]; exact hk.out.1); rw [← hc.out] at hcell; have hfz := h4.frozenAt j; have GB4 := Lib.hid gb4; have GL4 := Lib.hid gl4; have CC4 := Lib.hid cc4; clear h4 b4 gb4 gl4 r4 cc4 cm4))
    clear hcell hfz
    obtain ⟨wy, hwy⟩ : ∃ wy, w4.setCell ⟨g4, j, none⟩ (.int .u8 (c + (255 - c))) = wy := ⟨_, rfl⟩
    have R5 : Hid (BytesIn wy (some ⟨g4, 0, none⟩) (X.set j (c + (255 - c)))) := by
      have o5 := (O4.out.stored j (.int .u8 (c + (255 - c)))).1
      rw [← List.map_set, hwy] at o5
      exact .of_own o5 HY.out
    have B5 : Hid (Below w1.heap.size w1 wy) := by show Below _ _ _; rw [← hwy]; exact B4.out.setCell GB4.out _
    rw [hwy]
    clear hwy
    refine (sum_ok _ 512 X _ HL.out (H1.out.bytes.below B5.out) HZ.out).mono ?_; rintro e w6 ⟨rfl, b6⟩
    have B6 := Lib.hid b6; clear b6
    rw [← hmm.out]
    go_wp2_with fail
    refine (sum_ok _ c4 (X.set j (c + (255 - c))) _ (by rw [List.length_set]; exact HL.out) (R5.out.below B6.out) HY.out).mono ?_; rintro e w7 ⟨rfl, b7⟩
    have B7 := Lib.hid b7; clear b7
    rw [HS.out]
    go_wp2_with fail
    refine (alive_any _).mono ?_; rintro e w8 ⟨rfl, b8⟩
    have B8 := Lib.hid b8; clear b8
    go_wp2
    go_ret
    exact ⟨rfl, belT B1.out (belT B5.out (belT B6.out (belT B7.out B8.out)))⟩

set_option maxRecDepth 100000 in
set_option maxHeartbeats 4000000 in
theorem adds_hi (a : Option Addr) (len cap : Nat) (zs : List Int) (at_ by_ : Int) (w : World) (hm : len ≤ 2000) (hz : Hid (zs.length = len)) (hb : Hid (BytesIn w a zs)) (b0 : 0 ≤ by_) (b1 : by_ ≤ 255) (a0 : 0 ≤ at_) (a1 : at_ ≤ 65535)
    (j : Nat) (hj : at_ % 512 = j) (h1 : 156 ≤ j) (c D : Int) (hc : Hid (c = (blkZ zs).getD j 0)) (c0 : 0 ≤ c) (c1 : c ≤ 255) (hD : (by_ ≤ 255 - c ∧ D = by_) ∨ (¬ by_ ≤ 255 - c ∧ D = 255 - c)) (hk : Hid (j < 512 ∧ (j < 148 ∨ 156 ≤ j))) :
    Calls Try.prog 7 #[.slice a len cap, .int .u16 at_, .int .u8 by_] w fun e w' => e = .returned (.bool true) ∧ Below w.heap.size w w' := by
  obtain ⟨X, hX⟩ := named (blkZ zs)
  have HL : Hid (X.length = 512) := by show _ = _; rw [hX.out]; exact blk_length zs
  have HZ : Hid (Bytes X) := by show Bytes _; rw [hX.out]; exact blk_bytes hb.out.bytes
  rw [← hX.out] at hc
  have HT := Lib.hid hdrT
  obtain ⟨i0, HI⟩ := info_u8 Try.info5
  have hl : ¬ (2000 : Int) < len := by omega
  have D0 : 0 ≤ D ∧ c + D ≤ 255 := by omega
  obtain ⟨m, hmm⟩ := named (sumZ X)
  have HS : Hid (sumZ (X.set j (c + D)) = m + D) := by
    show _ = _; rw [sumZ_set X j (c + D) HL.out hk.out.1 hk.out.2, ← hc.out, ← hmm.out]; omega
  have HY : Hid (Bytes (X.set j (c + D))) := HZ.out.set _ (by omega)
  have m0 := sumZ_bd HZ.out HL.out
  have m1 := sumZ_bd HY.out (by rw [List.length_set]; exact HL.out)
  rw [HS.out] at m1
  rw [← hmm.out] at m0
  obtain ⟨m2, m3⟩ := m0
  obtain ⟨m4, m5⟩ := m1
  obtain ⟨D0, D1⟩ := D0
  rcases hD with ⟨hD, rfl⟩ | ⟨hD, rfl⟩
  · go_enter Try.func7, Try.ntmps7
    go_wp2_with fail
    refine (block_any a len cap zs _ hz.out hb.out).mono ?_; rintro e w1 ⟨rfl, h1, b1⟩
    rw [← hX.out] at h1
    have H1 := Lib.hid h1; have B1 := Lib.hid b1; clear h1 b1
    go_wp2_with (first | (refine wpList_lit_none rfl 22 5 rfl Try.underlying22 HT.out.elem ?_; intro w3 h3 b3; have O3 := Lib.hid h3; have B3 := Lib.hid b3; clear h3 b3) | (at_builtin; refine wpList_append_in rfl _ _ 22 rfl w1.heap.size 5 i0 Try.underlying22 HI (.slice (some ⟨w1.heap.size, 0, none⟩) 0 0) 0 [] rfl O3.out (some ⟨w.heap.size, 0, none⟩) 512 512 X rfl (H1.out.bytes.below B3.out) HL.out (by decide) B3.out.size ?_; intro v4 w4 h4 b4; rw [Nat.zero_add, List.nil_append] at h4; obtain ⟨g4, c4, rfl, gb4, gl4, r4, cc4, cm4⟩ := own_form h4 (by decide) HZ.out; have O4 := Lib.hid h4; have B4 := Lib.hid (B3.out.trans b4); have hcell := r4.cell0 j (by rw [HL.out]; exact hk.out.1); rw [← hc.out] at hcell; have hfz := h4.frozenAt j; have GB4 := Lib.hid gb4; have GL4 := Lib.hid gl4; have CC4 := Lib.hid cc4; clear h4 b4 gb4 gl4 r4 cc4 cm4))
    clear hcell hfz
    obtain ⟨wy, hwy⟩ : ∃ wy, w4.setCell ⟨g4, j, none⟩ (.int .u8 (c + D)) = wy := ⟨_, rfl⟩
    have R5 : Hid (BytesIn wy (some ⟨g4, 0, none⟩) (X.set j (c + D))) := by
      have o5 := (O4.out.stored j (.int .u8 (c + D))).1
      rw [← List.map_set, hwy] at o5
      exact .of_own o5 HY.out
    have B5 : Hid (Below w1.heap.size w1 wy) := by show Below _ _ _; rw [← hwy]; exact B4.out.setCell GB4.out _
    rw [hwy]
    clear hwy
    refine (sum_ok _ 512 X _ HL.out (H1.out.bytes.below B5.out) HZ.out).mono ?_; rintro e w6 ⟨rfl, b6⟩
    have B6 := Lib.hid b6; clear b6
    rw [← hmm.out]
    go_wp2_with fail
    refine (sum_ok _ c4 (X.set j (c + D)) _ (by rw [List.length_set]; exact HL.out) (R5.out.below B6.out) HY.out).mono ?_; rintro e w7 ⟨rfl, b7⟩
    have B7 := Lib.hid b7; clear b7
    rw [HS.out]
    go_wp2_with fail
    refine (alive_any _).mono ?_; rintro e w8 ⟨rfl, b8⟩
    have B8 := Lib.hid b8; clear b8
    go_wp2
    go_ret
    exact ⟨rfl, belT B1.out (belT B5.out (belT B6.out (belT B7.out B8.out)))⟩
  · go_enter Try.func7, Try.ntmps7
    go_wp2_with fail
    refine (block_any a len cap zs _ hz.out hb.out).mono ?_; rintro e w1 ⟨rfl, h1, b1⟩
    rw [← hX.out] at h1
    have H1 := Lib.hid h1; have B1 := Lib.hid b1; clear h1 b1
    go_wp2_with (first | (refine wpList_lit_none rfl 22 5 rfl Try.underlying22 HT.out.elem ?_; intro w3 h3 b3; have O3 := Lib.hid h3; have B3 := Lib.hid b3; clear h3 b3) | (at_builtin; refine wpList_append_in rfl _ _ 22 rfl w1.heap.size 5 i0 Try.underlying22 HI (.slice (some ⟨w1.heap.size, 0, none⟩) 0 0) 0 [] rfl O3.out (some ⟨w.heap.size, 0, none⟩) 512 512 X rfl (H1.out.bytes.below B3.out) HL.out (by decide) B3.out.size ?_; intro v4 w4 h4 b4; rw [Nat.zero_add, List.nil_append] at h4; obtain ⟨g4, c4, rfl, gb4, gl4, r4, cc4, cm4⟩ := own_form h4 (by decide) HZ.out; have O4 := Lib.hid h4; have B4 := Lib.hid (B3.out.trans b4); have hcell := r4.cell0 j (by rw [HL.out]; exact hk.out.1); rw [← hc.out] at hcell; have hfz := h4.frozenAt j; have GB4 := Lib.hid gb4; have GL4 := Lib.hid gl4; have CC4 := Lib.hid cc4; clear h4 b4 gb4 gl4 r4 cc4 cm4))
    clear hcell hfz
    obtain ⟨wy, hwy⟩ : ∃ wy, w4.setCell ⟨g4, j, none⟩ (.int .u8 (c + (255 - c))) = wy := ⟨_, rfl⟩
    have R5 : Hid (BytesIn wy (some ⟨g4, 0, none⟩) (X.set j (c + (255 - c)))) := by
      have o5 := (O4.out.stored j (.int .u8 (c + (255 - c)))).1
      rw [← List.map_set, hwy] at o5
      exact .of_own o5 HY.out
    have B5 : Hid (Below w1.heap.size w1 wy) := by show Below _ _ _; rw [← hwy]; exact B4.out.setCell GB4.out _
    rw [hwy]
    clear hwy
    refine (sum_ok _ 512 X _ HL.out (H1.out.bytes.below B5.out) HZ.out).mono ?_; rintro e w6 ⟨rfl, b6⟩
    have B6 := Lib.hid b6; clear b6
    rw [← hmm.out]
    go_wp2_with fail
    refine (sum_ok _ c4 (X.set j (c + (255 - c))) _ (by rw [List.length_set]; exact HL.out) (R5.out.below B6.out) HY.out).mono ?_; rintro e w7 ⟨rfl, b7⟩
    have B7 := Lib.hid b7; clear b7
    rw [HS.out]
    go_wp2_with fail
    refine (alive_any _).mono ?_; rintro e w8 ⟨rfl, b8⟩
    have B8 := Lib.hid b8; clear b8
    go_wp2
    go_ret
    exact ⟨rfl, belT B1.out (belT B5.out (belT B6.out (belT B7.out B8.out)))⟩

set_option maxRecDepth 100000 in
set_option maxHeartbeats 4000000 in
theorem adds_mid (a : Option Addr) (len cap : Nat) (zs : List Int) (at_ by_ : Int) (w : World) (hm : len ≤ 2000) (hz : Hid (zs.length = len)) (hb : Hid (BytesIn w a zs)) (b0 : 0 ≤ by_) (b1 : by_ ≤ 255) (a0 : 0 ≤ at_) (a1 : at_ ≤ 65535)
    (j : Nat) (hj : at_ % 512 = j) (h1 : 148 ≤ j) (h2 : j < 156) (c D : Int) (hc : Hid (c = (blkZ zs).getD 0 0)) (c0 : 0 ≤ c) (c1 : c ≤ 255) (hD : (by_ ≤ 255 - c ∧ D = by_) ∨ (¬ by_ ≤ 255 - c ∧ D = 255 - c)) (hk : Hid (0 < 512 ∧ (0 < 148 ∨ 156 ≤ 0))) :
    Calls Try.prog 7 #[.slice a len cap, .int .u16 at_, .int .u8 by_] w fun e w' => e = .returned (.bool true) ∧ Below w.heap.size w w' := by
  obtain ⟨X, hX⟩ := named (blkZ zs)
  have HL : Hid (X.length = 512) := by show _ = _; rw [hX.out]; exact blk_length zs
  have HZ : Hid (Bytes X) := by show Bytes _; rw [hX.out]; exact blk_bytes hb.out.bytes
  rw [← hX.out] at hc
  have HT := Lib.hid hdrT
  obtain ⟨i0, HI⟩ := info_u8 Try.info5
  have hl : ¬ (2000 : Int) < len := by omega
  have D0 : 0 ≤ D ∧ c + D ≤ 255 := by omega
  obtain ⟨m, hmm⟩ := named (sumZ X)
  have HS : Hid (sumZ (X.set 0 (c + D)) = m + D) := by
    show _ = _; rw [sumZ_set X 0 (c + D) HL.out hk.out.1 hk.out.2, ← hc.out, ← hmm.out]; omega
  have HY : Hid (Bytes (X.set 0 (c + D))) := HZ.out.set _ (by omega)
  have m0 := sumZ_bd HZ.out HL.out
  have m1 := sumZ_bd HY.out (by rw [List.length_set]; exact HL.out)
  rw [HS.out] at m1
  rw [← hmm.out] at m0
  obtain ⟨m2, m3⟩ := m0
  obtain ⟨m4, m5⟩ := m1
  obtain ⟨D0, D1⟩ := D0
  rcases hD with ⟨hD, rfl⟩ | ⟨hD, rfl⟩
  · go_enter Try.func7, Try.ntmps7
    go_wp2_with fail
    refine (block_any a len cap zs _ hz.out hb.out).mono ?_; rintro e w1 ⟨rfl, h1, b1⟩
    rw [← hX.out] at h1
    have H1 := Lib.hid h1; have B1 := Lib.hid b1; clear h1 b1
    go_wp2_with (first | (refine wpList_lit_none rfl 22 5 rfl Try.underlying22 HT.out.elem ?_; intro w3 h3 b3; have O3 := Lib.hid h3; have B3 := Lib.hid b3; clear h3 b3) | (at_builtin; refine wpList_append_in rfl _ _ 22 rfl w1.heap.size 5 i0 Try.underlying22 HI (.slice (some ⟨w1.heap.size, 0, none⟩) 0 0) 0 [] rfl O3.out (some ⟨w.heap.size, 0, none⟩) 512 512 X rfl (H1.out.bytes.below B3.out) HL.out (by decide) B3.out.size ?_; intro v4 w4 h4 b4; rw [Nat.zero_add, List.nil_append] at h4; obtain ⟨g4, c4, rfl, gb4, gl4, r4, cc4, cm4⟩ := own_form h4 (by decide) HZ.out; have O4 := Lib.hid h4; have B4 := Lib.hid (B3.out.trans b4); have hcell := r4.cell0 0 (by rw [HL.out]; exact hk.out.1); rw [← hc.out] at hcell; have hfz := h4.frozenAt 0; have GB4 := Lib.hid gb4; have GL4 := Lib.hid gl4; have CC4 := Lib.hid cc4; clear h4 b4 gb4 gl4 r4 cc4 cm4))
    clear hcell hfz
    obtain ⟨wy, hwy⟩ : ∃ wy, w4.setCell ⟨g4, 0, none⟩ (.int .u8 (c + D)) = wy := ⟨_, rfl⟩
    have R5 : Hid (BytesIn wy (some ⟨g4, 0, none⟩) (X.set 0 (c + D))) := by
      have o5 := (O4.out.stored 0 (.int .u8 (c + D))).1
      rw [← List.map_set, hwy] at o5
      exact .of_own o5 HY.out
    have B5 : Hid (Below w1.heap.size w1 wy) := by show Below _ _ _; rw [← hwy]; exact B4.out.setCell GB4.out _
    rw [hwy]
    clear hwy
    refine (sum_ok _ 512 X _ HL.out (H1.out.bytes.below B5.out) HZ.out).mono ?_; rintro e w6 ⟨rfl, b6⟩
    have B6 := Lib.hid b6; clear b6
    rw [← hmm.out]
    go_wp2_with fail
    refine (sum_ok _ c4 (X.set 0 (c + D)) _ (by rw [List.length_set]; exact HL.out) (R5.out.below B6.out) HY.out).mono ?_; rintro e w7 ⟨rfl, b7⟩
    have B7 := Lib.hid b7; clear b7
    rw [HS.out]
    go_wp2_with fail
    refine (alive_any _).mono ?_; rintro e w8 ⟨rfl, b8⟩
    have B8 := Lib.hid b8; clear b8
    go_wp2
    go_ret
    exact ⟨rfl, belT B1.out (belT B5.out (belT B6.out (belT B7.out B8.out)))⟩
  · go_enter Try.func7, Try.ntmps7
    go_wp2_with fail
    refine (block_any a len cap zs _ hz.out hb.out).mono ?_; rintro e w1 ⟨rfl, h1, b1⟩
    rw [← hX.out] at h1
    have H1 := Lib.hid h1; have B1 := Lib.hid b1; clear h1 b1
    go_wp2_with (first | (refine wpList_lit_none rfl 22 5 rfl Try.underlying22 HT.out.elem ?_; intro w3 h3 b3; have O3 := Lib.hid h3; have B3 := Lib.hid b3; clear h3 b3) | (at_builtin; refine wpList_append_in rfl _ _ 22 rfl w1.heap.size 5 i0 Try.underlying22 HI (.slice (some ⟨w1.heap.size, 0, none⟩) 0 0) 0 [] rfl O3.out (some ⟨w.heap.size, 0, none⟩) 512 512 X rfl (H1.out.bytes.below B3.out) HL.out (by decide) B3.out.size ?_; intro v4 w4 h4 b4; rw [Nat.zero_add, List.nil_append] at h4; obtain ⟨g4, c4, rfl, gb4, gl4, r4, cc4, cm4⟩ := own_form h4 (by decide) HZ.out; have O4 := Lib.hid h4; have B4 := Lib.hid (B3.out.trans b4); have hcell := r4.cell0 0 (by rw [HL.out]; exact hk.out.1); rw [← hc.out] at hcell; have hfz := h4.frozenAt 0; have GB4 := Lib.hid gb4; have GL4 := Lib.hid gl4; have CC4 := Lib.hid cc4; clear h4 b4 gb4 gl4 r4 cc4 cm4))
    clear hcell hfz
    obtain ⟨wy, hwy⟩ : ∃ wy, w4.setCell ⟨g4, 0, none⟩ (.int .u8 (c + (255 - c))) = wy := ⟨_, rfl⟩
    have R5 : Hid (BytesIn wy (some ⟨g4, 0, none⟩) (X.set 0 (c + (255 - c)))) := by
      have o5 := (O4.out.stored 0 (.int .u8 (c + (255 - c)))).1
      rw [← List.map_set, hwy] at o5
      exact .of_own o5 HY.out
    have B5 : Hid (Below w1.heap.size w1 wy) := by show Below _ _ _; rw [← hwy]; exact B4.out.setCell GB4.out _
    rw [hwy]
    clear hwy
    refine (sum_ok _ 512 X _ HL.out (H1.out.bytes.below B5.out) HZ.out).mono ?_; rintro e w6 ⟨rfl, b6⟩
    have B6 := Lib.hid b6; clear b6
    rw [← hmm.out]
    go_wp2_with fail
    refine (sum_ok _ c4 (X.set 0 (c + (255 - c))) _ (by rw [List.length_set]; exact HL.out) (R5.out.below B6.out) HY.out).mono ?_; rintro e w7 ⟨rfl, b7⟩
    have B7 := Lib.hid b7; clear b7
    rw [HS.out]
    go_wp2_with fail
    refine (alive_any _).mono ?_; rintro e w8 ⟨rfl, b8⟩
    have B8 := Lib.hid b8; clear b8
    go_wp2
    go_ret
    exact ⟨rfl, belT B1.out (belT B5.out (belT B6.out (belT B7.out B8.out)))⟩


theorem min_d (b c : Int) : ∃ D, (b ≤ 255 - c ∧ D = b) ∨ (¬ b ≤ 255 - c ∧ D = 255 - c) := by
  by_cases h : b ≤ 255 - c
  · exact ⟨b, .inl ⟨h, rfl⟩⟩
  · exact ⟨255 - c, .inr ⟨h, rfl⟩⟩

set_option maxRecDepth 100000 in
set_option maxHeartbeats 4000000 in
theorem walk_ChecksumAdds (a : Option Addr) (len cap : Nat) (zs : List Int) (at_ by_ : Int) (w : World) (h : ArgInts .u8 w a len cap zs) (hat : (Lit.int .u16 at_).wf = true) (hby : (Lit.int .u8 by_).wf = true) :
    Calls Try.prog 7 #[.slice a len cap, .int .u16 at_, .int .u8 by_] w fun e w' => e = .returned (.bool true) ∧ Below w.heap.size w w' := by
  have hm : len ≤ maxLen := Nat.le_trans h.2.1 h.2.2.1
  have hz := Lib.hid h.1
  have hb := Lib.hid h.bytes
  clear h
  unfold maxLen at hm
  obtain ⟨b0, b1⟩ := bounds_u8 hby
  have hat' : 0 ≤ at_ ∧ at_ ≤ 65535 := bounds_u16 hat
  obtain ⟨a0, a1⟩ := hat'
  clear hat hby
  by_cases hl : (2000 : Int) < len
  · go_enter Try.func7, Try.ntmps7
    go_wp2_with fail
    refine (alive_any _).mono ?_; rintro e w1 ⟨rfl, hb1⟩
    go_wp2
    go_ret
    exact ⟨rfl, hb1⟩
  · obtain ⟨j, hj, hj2⟩ : ∃ j : Nat, at_ % 512 = j ∧ j < 512 := ⟨(at_ % 512).toNat, by omega⟩
    have hbz := blk_bytes hb.out.bytes
    by_cases h1 : j < 148
    · obtain ⟨D, hD⟩ := min_d by_ ((blkZ zs).getD j 0)
      exact adds_lo a len cap zs at_ by_ w (by omega) hz hb b0 b1 a0 a1 j hj h1 _ D (Eq.refl _) (hbz.getD j).1 (hbz.getD j).2 hD ⟨hj2, .inl h1⟩
    · by_cases h2 : j < 156
      · obtain ⟨D, hD⟩ := min_d by_ ((blkZ zs).getD 0 0)
        exact adds_mid a len cap zs at_ by_ w (by omega) hz hb b0 b1 a0 a1 j hj (by omega) h2 _ D (Eq.refl _) (hbz.getD 0).1 (hbz.getD 0).2 hD ⟨by decide, .inl (by decide)⟩
      · obtain ⟨D, hD⟩ := min_d by_ ((blkZ zs).getD j 0)
        exact adds_hi a len cap zs at_ by_ w (by omega) hz hb b0 b1 a0 a1 j hj (by omega) _ D (Eq.refl _) (hbz.getD j).1 (hbz.getD j).2 hD ⟨hj2, .inr (by omega)⟩

end Go.Proofs.Ytpickfkfciegeaa
