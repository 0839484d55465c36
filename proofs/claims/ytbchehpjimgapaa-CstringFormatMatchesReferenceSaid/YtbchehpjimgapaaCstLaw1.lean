/-
  CstringFormatMatchesReference, walked.
-/
import Derived.Test.YtbchehpjimgapaaCstAlive
import Derived.Test.YtbchehpjimgapaaCstRefF
namespace Go.Proofs.Ytbchehpjimgapaa
open Go.RowKit

/-- the reference's Format where the program's answers an error -/
theorem rfmt_err (s : ByteArray) (wd : Int) (w : World) (hs : s.size ≤ maxLen) (h : (ceF (numsOf s) wd != 0) = true) :
    Calls Try.prog 8 #[.string s, .int .i64 wd] w fun e w' => e = .returned (.tuple #[.slice none 0 0, .int .i64 (ceF (numsOf s) wd)]) ∧ w = w' := by
  have hl := numsOf_length s
  by_cases h1 : wd < 1 ∨ 256 < wd
  · have he : ceF (numsOf s) wd = 2 := by unfold ceF; rw [if_pos h1]
    rw [he]; exact rfmt_width s wd w h1
  · by_cases h2 : (0 : Int) ∈ numsOf s
    · have he : ceF (numsOf s) wd = 6 := by unfold ceF; rw [if_neg h1, if_pos h2]
      rw [he]; exact rfmt_nul s wd w (by omega) (by omega) hs h2
    · by_cases h3 : wd < s.size
      · have he : ceF (numsOf s) wd = 7 := by unfold ceF; rw [if_neg h1, if_neg h2, if_pos (by omega)]
        rw [he]; exact rfmt_long s wd w (by omega) (by omega) hs h2 h3
      · have he : ceF (numsOf s) wd = 0 := by unfold ceF; rw [if_neg h1, if_neg h2, if_neg (by omega)]
        rw [he] at h; simp at h

theorem rfmt_good (s : ByteArray) (k : Nat) (w : World) (h : ceF (numsOf s) k = 0) :
    Calls Try.prog 8 #[.string s, .int .i64 k] w (RetBytes (fldS (numsOf s) k) k 0 w) := by
  obtain ⟨h1, h2, h3, h4⟩ := ceF_zero.1 h
  rw [numsOf_length] at h4
  exact rfmt_ok s k w h1 h2 h3 (by omega)

theorem fld_len {s : ByteArray} {k : Nat} (h : ceF (numsOf s) k = 0) : (fldS (numsOf s) k).length = k := fldS_length _ _ (by have := (ceF_zero.1 h).2.2.2; omega)

set_option maxHeartbeats 1000000 in
theorem walk_CstringFormatMatchesReference (s : ByteArray) (wd : Int) (w : World) (hs : s.size ≤ maxLen) (_ : (Lit.int .i64 wd).wf = true) :
    Calls Try.prog 3 #[.string s, .int .i64 wd] w fun e w' => e = .returned (.bool true) ∧ Below w.heap.size w w' := by
  have HM := Lib.hid hs
  unfold maxLen at hs
  by_cases hl : (2000 : Int) < s.size
  · go_enter Try.func3, Try.ntmps3
    go_wp2_with fail
    refine (alive_any _).mono ?_; rintro e w1 ⟨rfl, hb⟩
    go_wp2
    go_ret
    exact ⟨rfl, hb⟩
  · by_cases he : ceF (numsOf s) wd = 0
    · obtain ⟨h1, h2, _, _⟩ := ceF_zero.1 he
      obtain ⟨k, rfl⟩ : ∃ k : Nat, wd = k := ⟨wd.toNat, by omega⟩
      have HE := Lib.hid he; clear he
      go_enter Try.func3, Try.ntmps3
      go_wp2_with fail
      refine (fmt_ok _ _ _ HE.out).mono ?_; rintro e w1 ⟨b1, c1, rfl, hrow1, hlt1, hb1⟩
      have H1 := Lib.hid hrow1; clear hrow1
      go_wp2_with fail
      refine (rfmt_good _ _ _ HE.out).mono ?_; rintro e w2 ⟨b2, c2, rfl, hrow2, hlt2, hb2⟩
      have H2 := Lib.hid hrow2; clear hrow2
      go_wp2_with fail
      refine (alive_any _).mono ?_; rintro e w3 ⟨rfl, hb3⟩
      have hc1 := run_str_of (P := Try.prog) Try.underlying23 Try.underlying5 Try.underlying9 ((H1.out.below hb2 hlt1).below hb3 (Nat.lt_of_lt_of_le hlt1 hb2.size)) k c1 (fld_len HE.out)
      have hc2 := run_str_of (P := Try.prog) Try.underlying23 Try.underlying5 Try.underlying9 (H2.out.below hb3 hlt2) k c2 (fld_len HE.out)
      go_wp2_with fail
      refine (fits_any _ _ _).mono ?_; rintro e w4 ⟨rfl, rfl⟩
      rw [HE.out]
      go_wp2
      go_ret
      exact ⟨rfl, hb1.trans ((hb2.mono hb1.size).trans (hb3.mono (Nat.le_trans hb1.size hb2.size)))⟩
    · obtain ⟨E, HE⟩ := named (ceF (numsOf s) wd)
      have hE : (ceF (numsOf s) wd != 0) = true := by simpa using he
      have hE1 : (E == 0) = false := by rw [HE.out]; simpa using he
      have H := Lib.hid hE; clear hE he
      have hn := fun w => run_convert_bytes_nil (P := Try.prog) w 23 5 Try.underlying23 Try.underlying5 0 0 9 Try.underlying9
      go_enter Try.func3, Try.ntmps3
      go_wp2_with fail
      refine (fmt_bad _ _ _ H.out).mono ?_; rintro e w1 ⟨rfl, rfl⟩
      rw [← HE.out]
      go_wp2_with fail
      refine (rfmt_err _ _ _ HM.out H.out).mono ?_; rintro e w2 ⟨rfl, rfl⟩
      rw [← HE.out]
      go_wp2_with fail
      refine (alive_any _).mono ?_; rintro e w3 ⟨rfl, hb3⟩
      go_wp2_with fail
      refine (fits_any _ _ _).mono ?_; rintro e w4 ⟨rfl, rfl⟩
      rw [← HE.out]
      go_wp2
      go_ret
      exact ⟨rfl, hb3⟩

end Go.Proofs.Ytbchehpjimgapaa
