/-
  CstringMaximalWidth, walked.
-/
import Derived.Test.YtbchehpjimgapaaCstStr
namespace Go.Proofs.Ytbchehpjimgapaa
open Go.RowKit

set_option maxHeartbeats 1000000 in
theorem walk_CstringMaximalWidth (n : Int) (w : World) (hn : (Lit.int .u16 n).wf = true) :
    Calls Try.prog 5 #[.int .u16 n] w fun e w' => e = .returned (.bool true) ∧ Below w.heap.size w w' := by
  have hn' : 0 ≤ n ∧ n ≤ 65535 := by simpa [Lit.wf, IntKind.min, IntKind.max, IntKind.signed, IntKind.bits] using hn
  obtain ⟨hn0, hn1⟩ := hn'
  clear hn
  obtain ⟨c, HC⟩ : ∃ c : Nat, Hid (n % 300 = c) := ⟨(n % 300).toNat, by show _ = _; omega⟩
  have hc : c < 300 := by have := HC.out; omega
  obtain ⟨S, HS⟩ := named (⟨(Lib.repeatL [120] c).toArray⟩ : ByteArray)
  have HN : Hid (numsOf S = List.replicate c 120) := by show _ = _; rw [HS.out]; exact nums_rep 120 c
  have hsz : S.size = c := by rw [← numsOf_length, HN.out]; simp
  have hfree : (0 : Int) ∉ numsOf S := by rw [HN.out, List.mem_replicate]; omega
  have HF := Lib.hid hfree; clear hfree
  have hce : ∀ wd : Int, ceF (numsOf S) wd = if wd < 1 ∨ 256 < wd then 2 else if wd < c then 7 else 0 := by
    intro wd; unfold ceF; rw [if_neg HF.out, numsOf_length, hsz]
  have HCE := Lib.hid hce; clear hce
  have e2 : Hid ((ceF (numsOf S) 257 == 0) = false) := by show _ = _; rw [HCE.out, if_pos (by omega)]; rfl
  by_cases h0 : c = 0
  · subst h0
    have e1 : Hid (ceF (numsOf S) 0 = 2) := by show _ = _; rw [HCE.out, if_pos (by omega)]
    have e3 : Hid ((ceF (numsOf S) 256 == 0) = true) := by show _ = _; rw [HCE.out, if_neg (by omega)]; rfl
    go_enter Try.func5, Try.ntmps5
    go_wp2_with fail
    rw [HC.out]
    refine (Try.strings_Repeat ⟨#[120]⟩ 0 _ (by omega) (by show 1 * 0 ≤ _; omega)).mono ?_; rintro e w1 ⟨rfl, hb1⟩
    rw [show (⟨#[120]⟩ : ByteArray).data.toList = [120] from rfl, ← HS.out]
    go_wp2_with fail
    refine (fmt_err _ _ _ 2 e1.out rfl).mono ?_; rintro e w2 ⟨rfl, rfl⟩
    go_wp2_with fail
    refine (alive_any _).mono ?_; rintro e w3 ⟨rfl, hb3⟩
    go_wp2_with fail
    refine (fits_is _ _ _ _ e2.out).mono ?_; rintro e w4 ⟨rfl, rfl⟩
    go_wp2_with fail
    refine (fits_is _ _ _ _ e3.out).mono ?_; rintro e w4 ⟨rfl, rfl⟩
    go_wp2
    go_ret
    exact ⟨rfl, hb1.trans (hb3.mono hb1.size)⟩
  by_cases hr : 256 < c
  · have e1 : Hid (ceF (numsOf S) c = 2) := by show _ = _; rw [HCE.out, if_pos (by omega)]
    have e3 : Hid ((ceF (numsOf S) 256 == 0) = false) := by show _ = _; rw [HCE.out, if_neg (by omega), if_pos (by omega)]; rfl
    have h1 : (256 : Int) < c := by omega
    have h4 : ((c : Int) == 0) = false := by simp; omega
    go_enter Try.func5, Try.ntmps5
    go_wp2_with fail
    rw [HC.out]
    refine (Try.strings_Repeat ⟨#[120]⟩ c _ (by omega) (by show 1 * c ≤ _; omega)).mono ?_; rintro e w1 ⟨rfl, hb1⟩
    rw [show (⟨#[120]⟩ : ByteArray).data.toList = [120] from rfl, ← HS.out]
    go_wp2_with fail
    refine (fmt_err _ _ _ 2 e1.out rfl).mono ?_; rintro e w2 ⟨rfl, rfl⟩
    go_wp2_with fail
    refine (alive_any _).mono ?_; rintro e w3 ⟨rfl, hb3⟩
    go_wp2_with fail
    refine (fits_is _ _ _ _ e2.out).mono ?_; rintro e w4 ⟨rfl, rfl⟩
    go_wp2_with fail
    refine (fits_is _ _ _ _ e3.out).mono ?_; rintro e w4 ⟨rfl, rfl⟩
    go_wp2
    go_ret
    exact ⟨rfl, hb1.trans (hb3.mono hb1.size)⟩
  have e1 : Hid (ceF (numsOf S) c = 0) := by show _ = _; rw [HCE.out, if_neg (by omega), if_neg (by omega)]
  have e3 : Hid ((ceF (numsOf S) 256 == 0) = true) := by show _ = _; rw [HCE.out, if_neg (by omega), if_neg (by omega)]; rfl
  have h1 : ¬ (256 : Int) < c := by omega
  have efl : Hid (strOfNums (fldS (numsOf S) c) = S) := by
    show _ = _
    have : fldS (numsOf S) c = numsOf S := by unfold fldS; rw [numsOf_length, hsz, Nat.sub_self]; simp
    rw [this, strOfNums_numsOf]
  by_cases h2 : c = 1
  · subst h2
    have e4 : Hid (ceF (numsOf S) 0 = 2) := by show _ = _; rw [HCE.out, if_pos (by omega)]
    go_enter Try.func5, Try.ntmps5
    go_wp2_with fail
    rw [HC.out]
    refine (Try.strings_Repeat ⟨#[120]⟩ 1 _ (by omega) (by show 1 * 1 ≤ _; omega)).mono ?_; rintro e w1 ⟨rfl, hb1⟩
    rw [show (⟨#[120]⟩ : ByteArray).data.toList = [120] from rfl, ← HS.out]
    go_wp2_with fail
    refine (fmt_ok _ 1 _ e1.out).mono ?_; rintro e w2 ⟨b, cp, rfl, hrow, hlt, hb2⟩
    have HR := Lib.hid hrow; clear hrow
    go_wp2_with fail
    refine (fmt_err _ _ _ 2 e4.out rfl).mono ?_; rintro e w4 ⟨rfl, rfl⟩
    go_wp2_with fail
    refine (alive_any _).mono ?_; rintro e w3 ⟨rfl, hb3⟩
    have hcv := run_str_of (P := Try.prog) Try.underlying23 Try.underlying5 Try.underlying9 (HR.out.below hb3 hlt) 1 cp (fld_len e1.out)
    rw [efl.out] at hcv
    go_wp2_with fail
    refine (fits_is _ _ _ _ e3.out).mono ?_; rintro e w4 ⟨rfl, rfl⟩
    go_wp2
    go_ret
    exact ⟨rfl, hb1.trans ((hb2.mono hb1.size).trans (hb3.mono (Nat.le_trans hb1.size hb2.size)))⟩
  · have e4 : Hid (ceF (numsOf S) ((c : Int) - 1) = 7) := by show _ = _; rw [HCE.out, if_neg (by omega), if_pos (by omega)]
    have h3 : (1 : Int) < c := by omega
    have h4 : ((c : Int) == 0) = false := by simp; omega
    go_enter Try.func5, Try.ntmps5
    go_wp2_with fail
    rw [HC.out]
    refine (Try.strings_Repeat ⟨#[120]⟩ c _ (by omega) (by show 1 * c ≤ _; omega)).mono ?_; rintro e w1 ⟨rfl, hb1⟩
    rw [show (⟨#[120]⟩ : ByteArray).data.toList = [120] from rfl, ← HS.out]
    go_wp2_with fail
    refine (fmt_ok _ c _ e1.out).mono ?_; rintro e w2 ⟨b, cp, rfl, hrow, hlt, hb2⟩
    have HR := Lib.hid hrow; clear hrow
    go_wp2_with fail
    refine (fmt_err _ _ _ 7 e4.out rfl).mono ?_; rintro e w4 ⟨rfl, rfl⟩
    go_wp2_with fail
    refine (alive_any _).mono ?_; rintro e w3 ⟨rfl, hb3⟩
    have hcv := run_str_of (P := Try.prog) Try.underlying23 Try.underlying5 Try.underlying9 (HR.out.below hb3 hlt) c cp (fld_len e1.out)
    rw [efl.out] at hcv
    go_wp2_with fail
    refine (fits_is _ _ _ _ e3.out).mono ?_; rintro e w4 ⟨rfl, rfl⟩
    go_wp2
    go_ret
    exact ⟨rfl, hb1.trans ((hb2.mono hb1.size).trans (hb3.mono (Nat.le_trans hb1.size hb2.size)))⟩

end Go.Proofs.Ytbchehpjimgapaa
