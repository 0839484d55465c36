/-
  OctalFormatMatchesReference, walked.
-/
import Derived.Test.YtbhcjdjgmaapjaaOctAlive
namespace Go.Proofs.Ytbhcjdjgmaapjaa
open Go.RowKit

set_option maxHeartbeats 1000000 in
theorem walk_OctalFormatMatchesReference (n wd : Int) (w : World) (_ : (Lit.int .i64 n).wf = true) (_ : (Lit.int .i64 wd).wf = true) :
    Calls Try.prog 3 #[.int .i64 n, .int .i64 wd] w fun e w' => e = .returned (.bool true) ∧ Below w.heap.size w w' := by
  have hn := fun w => run_convert_bytes_nil (P := Try.prog) w 22 5 Try.underlying22 Try.underlying5 0 0 9 Try.underlying9
  by_cases h : wd < 2 ∨ 22 < wd
  · have H := Lib.hid h; clear h
    go_enter Try.func3, Try.ntmps3
    go_wp2_with (first | (go_at_call 10; refine (fmt_bad _ _ _ H.out).mono ?_; rintro e w1 ⟨rfl, rfl⟩) | (go_at_call 11; refine (rfmt_bad _ _ _ H.out).mono ?_; rintro e w1 ⟨rfl, rfl⟩) | (go_at_call 13; refine (max_bad _ _ H.out).mono ?_; rintro e w1 ⟨rfl, rfl⟩) | (go_at_call 14; refine (rmax_bad _ _ H.out).mono ?_; rintro e w1 ⟨rfl, rfl⟩) | (go_at_call 12; refine (alive_any _).mono ?_; rintro e w1 ⟨rfl, hb⟩))
    go_ret
    exact ⟨rfl, hb⟩
  · obtain ⟨k, hk⟩ : ∃ k : Nat, Hid (wd = (k : Int) + 1 ∧ 1 ≤ k ∧ k ≤ 21) := ⟨(wd - 1).toNat, by show _ ∧ _ ∧ _; omega⟩
    clear h
    by_cases h : n < 0 ∨ mx k < n
    · have H := Lib.hid h; clear h
      go_enter Try.func3, Try.ntmps3
      go_wp2_with (first | (go_at_call 10; refine (fmt_range _ _ k _ hk.out.2.1 hk.out.2.2 hk.out.1 H.out).mono ?_; rintro e w1 ⟨rfl, rfl⟩) | (go_at_call 11; refine (rfmt_range _ _ k _ hk.out.2.1 hk.out.2.2 hk.out.1 H.out).mono ?_; rintro e w1 ⟨rfl, rfl⟩) | (go_at_call 13; refine (max_ok _ k _ hk.out.2.1 hk.out.2.2 hk.out.1).mono ?_; rintro e w1 ⟨rfl, rfl⟩) | (go_at_call 14; refine (rmax_ok _ k _ hk.out.2.1 hk.out.2.2 hk.out.1).mono ?_; rintro e w1 ⟨rfl, rfl⟩) | (go_at_call 12; refine (alive_any _).mono ?_; rintro e w1 ⟨rfl, hb⟩))
      go_ret
      exact ⟨rfl, hb⟩
    · have H : Hid (0 ≤ n ∧ n ≤ mx k) := by show _ ∧ _; omega
      clear h
      go_enter Try.func3, Try.ntmps3
      go_wp2_with (first | (go_at_call 10; refine (fmt_ok _ _ k _ hk.out.2.1 hk.out.2.2 hk.out.1 H.out.1 H.out.2).mono ?_; rintro e w1 ⟨rfl, hown1, hb1⟩) | (go_at_call 11; refine (rfmt_ok _ _ k _ hk.out.2.1 hk.out.2.2 hk.out.1 H.out.1 H.out.2).mono ?_; rintro e w2 ⟨b, c, rfl, hrow2, hlt2, hb2⟩) | (go_at_call 13; refine (max_ok _ k _ hk.out.2.1 hk.out.2.2 hk.out.1).mono ?_; rintro e w4 ⟨rfl, rfl⟩) | (go_at_call 14; refine (rmax_ok _ k _ hk.out.2.1 hk.out.2.2 hk.out.1).mono ?_; rintro e w5 ⟨rfl, rfl⟩) | (go_at_call 12; refine (alive_any _).mono ?_; rintro e w3 ⟨rfl, hb3⟩; have hc2 := run_str_of (P := Try.prog) Try.underlying22 Try.underlying5 Try.underlying9 (hrow2.below hb3 hlt2) (k + 1) c (fld_length _ _); have hc1 := run_str_of (P := Try.prog) Try.underlying22 Try.underlying5 Try.underlying9 (((RowAt.of_own hown1 (fld_bd k n)).below hb2 (own_lt hown1).2).below hb3 (Nat.lt_of_lt_of_le (own_lt hown1).2 hb2.size)) (k + 1) (k + 1) (fld_length _ _); have HX := Lib.hid hown1; have HY := Lib.hid hrow2; clear hown1 hrow2))
      go_ret
      exact ⟨rfl, hb1.trans ((hb2.mono hb1.size).trans (hb3.mono (Nat.le_trans hb1.size hb2.size)))⟩

end Go.Proofs.Ytbhcjdjgmaapjaa
