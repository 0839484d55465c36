/-
  CstringWidths, walked.
-/
import Derived.Test.YtbchehpjimgapaaCstStr
import Derived.Test.YtbchehpjimgapaaRegion
namespace Go.Proofs.Ytbchehpjimgapaa
open Go.RowKit

theorem nul_dec (s : ByteArray) : decide (0 ≤ Lib.indexByte s.data.toList 0) = decide ((0 : Int) ∈ numsOf s) := by
  have := idx_str s
  by_cases h : (0 : Int) ∈ numsOf s
  · rw [decide_eq_true h, decide_eq_true (this.2 h)]
  · rw [decide_eq_false h, decide_eq_false (fun h' => h (this.1 h'))]

set_option maxHeartbeats 1000000 in
theorem has_nul (s : ByteArray) (w : World) (b : Bool) (h : decide ((0 : Int) ∈ numsOf s) = b) :
    Calls Try.prog 10 #[.string s, .string ⟨#[0]⟩] w fun e w' => e = .returned (.bool b) ∧ w = w' := by
  have := Try.strings_Contains_one s 0 w
  rw [nul_dec, h] at this
  exact this.mono fun _ _ h => ⟨h.1, h.2.symm⟩

set_option maxHeartbeats 1000000 in
theorem walk_CstringWidths (s : ByteArray) (a b : Int) (w : World) (_ : s.size ≤ maxLen) (ha : (Lit.int .u8 a).wf = true) (hb : (Lit.int .u8 b).wf = true) :
    Calls Try.prog 4 #[.string s, .int .u8 a, .int .u8 b] w fun e w' => e = .returned (.bool true) ∧ Below w.heap.size w w' := by
  obtain ⟨ha0, ha1⟩ := bounds_u8 ha
  obtain ⟨hb0, hb1⟩ := bounds_u8 hb
  clear ha hb
  by_cases hz : (0 : Int) ∈ numsOf s
  · have HZ := Lib.hid (decide_eq_true hz); clear hz
    go_enter Try.func4, Try.ntmps4
    go_wp2_with fail
    refine (has_nul _ _ _ HZ.out).mono ?_; rintro e w1 ⟨rfl, rfl⟩
    go_wp2_with fail
    refine (alive_any _).mono ?_; rintro e w3 ⟨rfl, hb3⟩
    go_wp2
    go_ret
    exact ⟨rfl, hb3⟩
  · have HZ := Lib.hid (decide_eq_false hz)
    by_cases hl : (300 : Int) < s.size
    · go_enter Try.func4, Try.ntmps4
      go_wp2_with fail
      refine (has_nul _ _ _ HZ.out).mono ?_; rintro e w1 ⟨rfl, rfl⟩
      go_wp2_with fail
      refine (alive_any _).mono ?_; rintro e w3 ⟨rfl, hb3⟩
      go_wp2
      go_ret
      exact ⟨rfl, hb3⟩
    · clear hz
      go_enter Try.func4, Try.ntmps4
      go_wp2_with fail
      refine (has_nul _ _ _ HZ.out).mono ?_; rintro e w1 ⟨rfl, rfl⟩
      go_wp2_with fail
      obtain ⟨V, hV⟩ : ∃ V : Nat, 1 + min a b = V := ⟨(1 + min a b).toNat, by omega⟩
      obtain ⟨W, hW⟩ : ∃ W : Nat, 1 + max a b = W := ⟨(1 + max a b).toNat, by omega⟩
      have hv1 : (1 : Int) ≤ V := by omega
      have hvw : (V : Int) ≤ W := by omega
      have hw1 : (W : Int) ≤ 256 := by omega
      rw [hV, hW]
      clear hV hW
      have hfree : (0 : Int) ∉ numsOf s := of_decide_eq_false HZ.out
      have hce : ∀ wd : Int, ceF (numsOf s) wd = if wd < 1 ∨ 256 < wd then 2 else if wd < s.size then 7 else 0 := by
        intro wd; unfold ceF; rw [if_neg hfree, numsOf_length]
      have HCE := Lib.hid hce; clear hce hfree
      by_cases h1 : (s.size : Int) ≤ V
      · have e1 : Hid (ceF (numsOf s) V = 0) := by show _ = _; rw [HCE.out, if_neg (by omega), if_neg (by omega)]
        have e2 : Hid (ceF (numsOf s) W = 0) := by show _ = _; rw [HCE.out, if_neg (by omega), if_neg (by omega)]
        refine (fits_is _ _ _ true (by rw [e1.out]; rfl)).mono ?_; rintro e w4 ⟨rfl, rfl⟩
        go_wp2_with fail
        refine (fits_is _ _ _ true (by rw [e1.out]; rfl)).mono ?_; rintro e w4 ⟨rfl, rfl⟩
        go_wp2_with fail
        refine (fits_is _ _ _ true (by rw [e2.out]; rfl)).mono ?_; rintro e w4 ⟨rfl, rfl⟩
        go_wp2_with fail
        refine (fmt_ok _ V _ e1.out).mono ?_; rintro e w1 ⟨b1, c1, rfl, hrow1, hlt1, hb1⟩
        have H1 := Lib.hid hrow1; clear hrow1
        go_wp2_with fail
        refine (fmt_ok _ W _ e2.out).mono ?_; rintro e w2 ⟨b2, c2, rfl, hrow2, hlt2, hb2⟩
        have H2 := Lib.hid hrow2; clear hrow2
        obtain ⟨F1, HF1⟩ := named (strOfNums (fldS (numsOf s) V))
        obtain ⟨F2, HF2⟩ := named (strOfNums (fldS (numsOf s) W))
        obtain ⟨R, HR⟩ := named (strOfNums (List.replicate ((W : Int) - V).toNat 0))
        have hA : F1 ++ R = F2 := by
          rw [HF1.out, HF2.out, HR.out, strOfNums_app]
          unfold fldS
          rw [List.append_assoc, List.replicate_append_replicate, numsOf_length]
          congr 3; omega
        have hF1 : F1.size ≤ 256 := by rw [HF1.out, strOfNums_size, fld_len e1.out]; omega
        have hR : R.size ≤ 256 := by rw [HR.out, strOfNums_size, List.length_replicate]; omega
        have hb12 : Below w.heap.size w w2 := hb1.trans (hb2.mono hb1.size)
        have hc1 : ∀ q : Of (fun w' => Below w2.heap.size w2 w'), (convert 23 9 (.slice (some ⟨b1, 0, none⟩) V c1)).run Try.prog q.w = .ok (.string F1) q.w := fun q => by
          rw [HF1.out]; exact run_str_of (P := Try.prog) Try.underlying23 Try.underlying5 Try.underlying9 ((H1.out.below hb2 hlt1).below q.h (Nat.lt_of_lt_of_le hlt1 hb2.size)) V c1 (fld_len e1.out)
        have hc2 : ∀ q : Of (fun w' => Below w2.heap.size w2 w'), (convert 23 9 (.slice (some ⟨b2, 0, none⟩) W c2)).run Try.prog q.w = .ok (.string F2) q.w := fun q => by
          rw [HF2.out]; exact run_str_of (P := Try.prog) Try.underlying23 Try.underlying5 Try.underlying9 (H2.out.below q.h hlt2) W c2 (fld_len e2.out)
        go_wp2_with fail
        refine wp_region_class (S := fun w' => Below w2.heap.size w2 w') (by kernel_rfl) (by kernel_rfl) (Below.refl _ _).drew ?_
        intro hne
        repeat (go_big_quiet_step (first | (go_at_call 6; exact Calls.in_class (alive_any _) fun w' hb q => q.trans (hb.mono q.size)) | (go_at_call 11; exact Calls.in_class (v := .string R) (by rw [HR.out]; exact rep_nul _ _ (by omega) (by omega)) fun w' hb q => q.trans (hb.mono q.size))))
        refine wpQuiet_nil ?_
        rintro wq ⟨q, rfl⟩
        go_wp2
        go_ret
        exact ⟨rfl, hb12.trans (q.h.mono hb12.size)⟩
      · have e1 : Hid (ceF (numsOf s) V = 7) := by show _ = _; rw [HCE.out, if_neg (by omega), if_pos (by omega)]
        have h1' : (V : Int) < s.size := by omega
        refine (fits_is _ _ _ false (by rw [e1.out]; rfl)).mono ?_; rintro e w4 ⟨rfl, rfl⟩
        go_wp2_with fail
        refine (fits_is _ _ _ false (by rw [e1.out]; rfl)).mono ?_; rintro e w4 ⟨rfl, rfl⟩
        go_wp2_with fail
        refine (fmt_err _ _ _ 7 e1.out rfl).mono ?_; rintro e w2 ⟨rfl, rfl⟩
        go_wp2_with fail
        by_cases h2 : (s.size : Int) ≤ W
        · have e2 : Hid (ceF (numsOf s) W = 0) := by show _ = _; rw [HCE.out, if_neg (by omega), if_neg (by omega)]
          refine (fmt_ok _ W _ e2.out).mono ?_; rintro e w2 ⟨b, cp, rfl, hrow, hlt, hb2⟩
          have HR := Lib.hid hrow; clear hrow
          go_wp2_with fail
          refine wp_region_class (S := fun w' => Below w.heap.size w w') (by kernel_rfl) (by kernel_rfl) hb2.drew ?_
          intro hne
          repeat (go_big_quiet_step ((go_at_call 6; exact Calls.in_class (alive_any _) fun w' hb q => q.trans (hb.mono q.size))))
          refine wpQuiet_nil ?_
          rintro wq ⟨q, rfl⟩
          go_wp2
          go_ret
          exact ⟨rfl, q.h⟩
        · have e2 : Hid (ceF (numsOf s) W = 7) := by show _ = _; rw [HCE.out, if_neg (by omega), if_pos (by omega)]
          refine (fmt_err _ _ _ 7 e2.out rfl).mono ?_; rintro e w2 ⟨rfl, rfl⟩
          have hb2 := Below.refl w.heap.size w
          go_wp2_with fail
          refine wp_region_class (S := fun w' => Below w.heap.size w w') (by kernel_rfl) (by kernel_rfl) hb2.drew ?_
          intro hne
          repeat (go_big_quiet_step ((go_at_call 6; exact Calls.in_class (alive_any _) fun w' hb q => q.trans (hb.mono q.size))))
          refine wpQuiet_nil ?_
          rintro wq ⟨q, rfl⟩
          go_wp2
          go_ret
          exact ⟨rfl, q.h⟩

end Go.Proofs.Ytbchehpjimgapaa
