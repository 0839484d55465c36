/-
  UstarEncodeMatchesReference, walked.
-/
import Derived.Test.YtbgmhdhfcckbbaaDoorUstLawFns
import Derived.Test.YtbgmhdhfcckbbaaDoorUstOf
import Derived.Test.YtbgmhdhfcckbbaaDoorUstRefE
namespace Go.Proofs.YtbgmhdhfcckbbaaDoor
open Go.RowKit
open Ust

set_option maxRecDepth 100000 in
set_option maxHeartbeats 8000000 in
theorem walk_UstarEncodeMatchesReference (T : Int) (nm pf lk : ByteArray) (md sz : Int) (w : World) (hT : (Lit.int .u8 T).wf = true) (hn : nm.size ≤ maxLen) (hp : pf.size ≤ maxLen) (hk : lk.size ≤ maxLen) (_ : (Lit.int .i64 md).wf = true) (_ : (Lit.int .i64 sz).wf = true) :
    Calls Tryd.prog 3 #[.agg #[.int .u8 T, .string nm, .string pf, .string lk, .int .i64 md, .int .i64 sz]] w fun e w' => e = .returned (.bool true) ∧ Below w.heap.size w w' := by
  have HN := Lib.hid hn; have HP := Lib.hid hp; have HK := Lib.hid hk; have HTB := Lib.hid (bounds_u8 hT)
  clear hn hp hk hT
  go_enter Tryd.func3, Tryd.ntmps3
  go_wp2_with (first | (refine wpList_box_obj rfl 23 _ rfl (hdV T nm pf lk md sz) rfl ?_; intro w1 h1 b1; have H1 := Lib.hid h1; have B1 := Lib.hid b1; have c0 := h1.get 0 rfl; have c1 := h1.get 1 rfl; have c2 := h1.get 2 rfl; have c3 := h1.get 3 rfl; have c4 := h1.get 4 rfl; have c5 := h1.get 5 rfl; clear h1 b1))
  clear c0 c1 c2 c3 c4 c5
  refine (large_any T nm pf lk md sz w1 HN.out HP.out HK.out).mono ?_; rintro e w2 ⟨LB, rfl, b2⟩
  have B2 := Lib.hid (B1.out.trans (b2.mono B1.out.size)); have H2 := Lib.hid (H1.out.below b2 H1.out.lt); clear b2
  cases LB with
  | true =>
    go_wp2_with fail
    refine (alive_any w2).mono ?_; rintro e w3 ⟨rfl, b3⟩
    have B3 := Lib.hid (B2.out.trans (b3.mono B2.out.size)); clear b3
    go_wp2_with fail
    go_ret
    exact ⟨rfl, B3.out⟩
  | false =>
    have c0 := H2.out.get 0 rfl; have c1 := H2.out.get 1 rfl; have c2 := H2.out.get 2 rfl; have c3 := H2.out.get 3 rfl; have c4 := H2.out.get 4 rfl; have c5 := H2.out.get 5 rfl
    go_wp2_with fail
    clear c0 c1 c2 c3 c4 c5
    by_cases hck : ckH T nm pf lk md sz = 0
    · have HCK := Lib.hid hck
      refine (enc_ok T nm pf lk md sz w2 HN.out HP.out HK.out hck).mono ?_; rintro e w3 ⟨xb, xc, rfl, hr3, _, hlt3, _, _, b3⟩
      have B3 := Lib.hid (B2.out.trans (b3.mono B2.out.size)); have H3 := Lib.hid (H2.out.below b3 H2.out.lt); have R3 := Lib.hid hr3; have L3 := Lib.hid hlt3
      clear hr3 hlt3 b3 hck
      have c0 := H3.out.get 0 rfl; have c1 := H3.out.get 1 rfl; have c2 := H3.out.get 2 rfl; have c3 := H3.out.get 3 rfl; have c4 := H3.out.get 4 rfl; have c5 := H3.out.get 5 rfl
      go_wp2_with fail
      clear c0 c1 c2 c3 c4 c5
      refine (of_any T nm pf lk md sz w3).mono ?_; rintro e w4 ⟨rfl, b4⟩
      have B4 := Lib.hid (B3.out.trans (b4.mono B3.out.size)); have H4 := Lib.hid (H3.out.below b4 H3.out.lt); have R4 := Lib.hid (R3.out.below b4 L3.out); have L4 : Hid (xb < w4.heap.size) := Nat.lt_of_lt_of_le L3.out b4.size
      clear b4
      go_wp2_with fail
      refine (renc_ok T nm pf lk md sz w4 HN.out HP.out HK.out HCK.out).mono ?_; rintro e w5 ⟨yb, yc, rfl, hr5, hlt5, b5⟩
      have B5 := Lib.hid (B4.out.trans (b5.mono B4.out.size)); have H5 := Lib.hid (H4.out.below b5 H4.out.lt); have R5 := Lib.hid (R4.out.below b5 L4.out); have L5 : Hid (xb < w5.heap.size) := Nat.lt_of_lt_of_le L4.out b5.size; have Q5 := Lib.hid hr5; have M5 := Lib.hid hlt5
      clear b5 hr5 hlt5
      go_wp2_with fail
      refine (alive_any w5).mono ?_; rintro e w6 ⟨rfl, b6⟩
      have B6 := Lib.hid (B5.out.trans (b6.mono B5.out.size)); have H6 := Lib.hid (H5.out.below b6 H5.out.lt)
      have hc1 := run_str_of (P := Tryd.prog) (w := w6) Tryd.underlying26 Tryd.underlying5 Tryd.underlying9 (R5.out.below b6 L5.out) 512 xc (enc_length HCK.out)
      have hc2 := run_str_of (P := Tryd.prog) (w := w6) Tryd.underlying26 Tryd.underlying5 Tryd.underlying9 (Q5.out.below b6 M5.out) 512 yc (enc_length HCK.out)
      obtain ⟨SZ, hSZ⟩ := named (strOfNums (encH T nm pf lk md sz))
      rw [← hSZ.out] at hc1 hc2
      clear b6
      have c0 := H6.out.get 0 rfl; have c1 := H6.out.get 1 rfl; have c2 := H6.out.get 2 rfl; have c3 := H6.out.get 3 rfl; have c4 := H6.out.get 4 rfl; have c5 := H6.out.get 5 rfl
      go_wp2_with fail
      refine (check_any T nm pf lk md sz w6 HN.out HP.out HK.out HTB.out).mono ?_; rintro e w7 ⟨rfl, b7⟩
      rw [HCK.out]
      have B7 := Lib.hid (B6.out.trans (b7.mono B6.out.size)); clear b7
      go_wp2_with fail
      go_ret
      exact ⟨rfl, B7.out⟩
    · obtain ⟨E, hE⟩ := named (ckH T nm pf lk md sz)
      have HCK := Lib.hid hck
      refine (enc_bad T nm pf lk md sz w2 HN.out HP.out HK.out HTB.out hck).mono ?_; rintro e w3 ⟨rfl, b3⟩
      rw [← hE.out]
      have B3 := Lib.hid (B2.out.trans (b3.mono B2.out.size)); have H3 := Lib.hid (H2.out.below b3 H2.out.lt)
      clear b3 hck
      have c0 := H3.out.get 0 rfl; have c1 := H3.out.get 1 rfl; have c2 := H3.out.get 2 rfl; have c3 := H3.out.get 3 rfl; have c4 := H3.out.get 4 rfl; have c5 := H3.out.get 5 rfl
      go_wp2_with fail
      clear c0 c1 c2 c3 c4 c5
      refine (of_any T nm pf lk md sz w3).mono ?_; rintro e w4 ⟨rfl, b4⟩
      have B4 := Lib.hid (B3.out.trans (b4.mono B3.out.size)); have H4 := Lib.hid (H3.out.below b4 H3.out.lt)
      clear b4
      go_wp2_with fail
      refine (renc_bad T nm pf lk md sz w4 HN.out HP.out HK.out HCK.out).mono ?_; rintro e w5 ⟨rfl, b5⟩
      rw [← hE.out]
      have B5 := Lib.hid (B4.out.trans (b5.mono B4.out.size)); have H5 := Lib.hid (H4.out.below b5 H4.out.lt)
      clear b5
      go_wp2_with fail
      refine (alive_any w5).mono ?_; rintro e w6 ⟨rfl, b6⟩
      have B6 := Lib.hid (B5.out.trans (b6.mono B5.out.size)); have H6 := Lib.hid (H5.out.below b6 H5.out.lt)
      have hn0 := fun w => run_convert_bytes_nil (P := Tryd.prog) w 26 5 Tryd.underlying26 Tryd.underlying5 0 0 9 Tryd.underlying9
      clear b6
      have c0 := H6.out.get 0 rfl; have c1 := H6.out.get 1 rfl; have c2 := H6.out.get 2 rfl; have c3 := H6.out.get 3 rfl; have c4 := H6.out.get 4 rfl; have c5 := H6.out.get 5 rfl
      go_wp2_with fail
      refine (check_any T nm pf lk md sz w6 HN.out HP.out HK.out HTB.out).mono ?_; rintro e w7 ⟨rfl, b7⟩
      rw [← hE.out]
      have B7 := Lib.hid (B6.out.trans (b7.mono B6.out.size)); clear b7
      go_wp2_with fail
      go_ret
      exact ⟨rfl, B7.out⟩
end Go.Proofs.YtbgmhdhfcckbbaaDoor
