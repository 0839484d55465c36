/-
  OctalMaxIsTight, walked.
-/
import Derived.Test.YtbhcjdjgmaapjaaOctAlive
namespace Go.Proofs.Ytbhcjdjgmaapjaa
open Go.RowKit

theorem mx_7 {k : Nat} (h : 1 ≤ k) : 7 ≤ mx k := by
  have := mx_mono h
  have e : mx 1 = 7 := by decide
  omega

/-- a wider field has one zero more -/
theorem fld_wide (k : Nat) (n : Int) (h0 : 0 ≤ n) (hm : n ≤ mx k) : fld (k + 1) n = 48 :: fld k n := by
  have hz : sh n k = 0 := by unfold sh; exact Int.ediv_eq_zero_of_lt h0 (by unfold mx at hm; omega)
  unfold fld
  rw [oct, hz]
  rfl

theorem strOfNums_zero (l : List Int) : ({ data := #[48] } : ByteArray) ++ strOfNums l = strOfNums (48 :: l) := strOfNums_one 48 l

theorem width_k (n : Int) (h : (Lit.int .u8 n).wf = true) : ∃ k : Nat, Hid (n % 21 = (k : Int) - 1 ∧ 1 ≤ k ∧ k ≤ 21) ∧ 0 ≤ n ∧ n ≤ 255 := by
  have := bounds_u8 h
  exact ⟨(n % 21 + 1).toNat, by show _ ∧ _ ∧ _; omega, this⟩

set_option maxHeartbeats 2000000 in
theorem mt_last (wu n : Int) (w : World) (k : Nat) (hk : Hid (wu % 21 = (k : Int) - 1 ∧ 1 ≤ k ∧ k ≤ 21)) (b0 : 0 ≤ wu) (b1 : wu ≤ 255) (hl : ¬ k < 21) :
    Calls Try.prog 6 #[.int .u8 wu, .int .i64 n] w fun e w' => e = .returned (.bool true) ∧ Below w.heap.size w w' := by
  have h7 := mx_7 hk.out.2.1
  have h63 := mx_le hk.out.2.2
  have hlt : ¬ 2 + wu % 21 < 22 := by have := hk.out.1; omega
  go_enter Try.func6, Try.ntmps6
  go_wp2_with fail
  refine (max_ok _ k _ hk.out.2.1 hk.out.2.2 (by have := hk.out.1; omega)).mono ?_; rintro e w1 ⟨rfl, rfl⟩
  go_wp2_with fail
  refine (fmt_is _ _ k _ ⟨by have := hk.out.1; omega, hk.out.2.1, hk.out.2.2, by omega, Int.le_refl _⟩).mono ?_; rintro e w1 ⟨rfl, hown1, hb1⟩
  clear hown1
  go_wp2_with fail
  refine (alive_any _).mono ?_; rintro e w5 ⟨rfl, hb5⟩
  go_wp2
  go_ret
  exact ⟨rfl, hb1.trans (hb5.mono hb1.size)⟩

set_option maxHeartbeats 2000000 in
theorem mt_ok (wu n : Int) (w : World) (k : Nat) (hk : Hid (wu % 21 = (k : Int) - 1 ∧ 1 ≤ k ∧ k ≤ 21)) (b0 : 0 ≤ wu) (b1 : wu ≤ 255) (hl : Hid (k < 21)) (hn : Hid (0 ≤ n ∧ n ≤ mx k)) :
    Calls Try.prog 6 #[.int .u8 wu, .int .i64 n] w fun e w' => e = .returned (.bool true) ∧ Below w.heap.size w w' := by
  have h7 := mx_7 hk.out.2.1
  have h63 := mx_le hk.out.2.2
  have hlt : 2 + wu % 21 < 22 := by have := hk.out.1; have := hl.out; omega
  have h60 := mx_small hl.out
  go_enter Try.func6, Try.ntmps6
  go_wp2_with fail
  refine (max_ok _ k _ hk.out.2.1 hk.out.2.2 (by have := hk.out.1; omega)).mono ?_; rintro e w1 ⟨rfl, rfl⟩
  go_wp2_with fail
  refine (fmt_is _ _ k _ ⟨by have := hk.out.1; omega, hk.out.2.1, hk.out.2.2, by omega, Int.le_refl _⟩).mono ?_; rintro e w1 ⟨rfl, hown1, hb1⟩
  clear hown1
  go_wp2_with fail
  refine (fmt_range _ _ k _ hk.out.2.1 hk.out.2.2 (by have := hk.out.1; omega) (.inr (by omega))).mono ?_; rintro e w2 ⟨rfl, rfl⟩
  go_wp2_with fail
  refine (fmt_is _ _ (k + 1) _ ⟨by have := hk.out.1; omega, by omega, by have := hl.out; omega, hn.out.1, Int.le_trans hn.out.2 (mx_mono (Nat.le_succ k))⟩).mono ?_; rintro e w3 ⟨rfl, hown3, hb3⟩
  have H3 := Lib.hid hown3; clear hown3
  go_wp2_with fail
  refine (fmt_is _ _ k _ ⟨by have := hk.out.1; omega, hk.out.2.1, hk.out.2.2, hn.out.1, hn.out.2⟩).mono ?_; rintro e w4 ⟨rfl, hown4, hb4⟩
  have H4 := Lib.hid hown4; clear hown4
  have hc1 := run_str_in (P := Try.prog) Try.underlying22 Try.underlying5 Try.underlying9 ((BytesIn.of_own H3.out (fld_bd _ _)).below hb4) (k + 1 + 1) (k + 1 + 1) (fld_length _ _)
  have hc2 := run_str_in (P := Try.prog) Try.underlying22 Try.underlying5 Try.underlying9 (BytesIn.of_own H4.out (fld_bd _ _)) (k + 1) (k + 1) (fld_length _ _)
  rw [fld_wide k n hn.out.1 hn.out.2] at hc1
  obtain ⟨s, hs⟩ := named (strOfNums (fld k n))
  have hs2 : s.size ≤ 100 := by rw [hs.out, strOfNums_size, fld_length]; have := hk.out.2.2; omega
  rw [← hs.out] at hc2
  rw [← strOfNums_zero, ← hs.out] at hc1
  go_wp2_with fail
  refine (alive_any _).mono ?_; rintro e w5 ⟨rfl, hb5⟩
  go_wp2
  go_ret
  exact ⟨rfl, hb1.trans ((hb3.mono hb1.size).trans ((hb4.mono (Nat.le_trans hb1.size hb3.size)).trans (hb5.mono (Nat.le_trans hb1.size (Nat.le_trans hb3.size hb4.size)))))⟩

set_option maxHeartbeats 2000000 in
theorem mt_wide (wu n : Int) (w : World) (k : Nat) (hk : Hid (wu % 21 = (k : Int) - 1 ∧ 1 ≤ k ∧ k ≤ 21)) (b0 : 0 ≤ wu) (b1 : wu ≤ 255) (hl : Hid (k < 21)) (hn : Hid (¬ (0 ≤ n ∧ n ≤ mx k))) (hn2 : Hid (0 ≤ n ∧ n ≤ mx (k + 1))) :
    Calls Try.prog 6 #[.int .u8 wu, .int .i64 n] w fun e w' => e = .returned (.bool true) ∧ Below w.heap.size w w' := by
  have h7 := mx_7 hk.out.2.1
  have h63 := mx_le hk.out.2.2
  have hlt : 2 + wu % 21 < 22 := by have := hk.out.1; have := hl.out; omega
  have h60 := mx_small hl.out
  go_enter Try.func6, Try.ntmps6
  go_wp2_with fail
  refine (max_ok _ k _ hk.out.2.1 hk.out.2.2 (by have := hk.out.1; omega)).mono ?_; rintro e w1 ⟨rfl, rfl⟩
  go_wp2_with fail
  refine (fmt_is _ _ k _ ⟨by have := hk.out.1; omega, hk.out.2.1, hk.out.2.2, by omega, Int.le_refl _⟩).mono ?_; rintro e w1 ⟨rfl, hown1, hb1⟩
  clear hown1
  go_wp2_with fail
  refine (fmt_range _ _ k _ hk.out.2.1 hk.out.2.2 (by have := hk.out.1; omega) (.inr (by omega))).mono ?_; rintro e w2 ⟨rfl, rfl⟩
  go_wp2_with fail
  refine (fmt_is _ _ (k + 1) _ ⟨by have := hk.out.1; omega, by omega, by have := hl.out; omega, hn2.out.1, hn2.out.2⟩).mono ?_; rintro e w3 ⟨rfl, hown3, hb3⟩
  have H3 := Lib.hid hown3; clear hown3
  go_wp2_with fail
  refine (fmt_range _ _ k _ hk.out.2.1 hk.out.2.2 (by have := hk.out.1; omega) (by have := hn.out; omega)).mono ?_; rintro e w4 ⟨rfl, rfl⟩
  go_wp2_with fail
  refine (alive_any _).mono ?_; rintro e w5 ⟨rfl, hb5⟩
  go_wp2
  go_ret
  exact ⟨rfl, hb1.trans ((hb3.mono hb1.size).trans (hb5.mono (Nat.le_trans hb1.size hb3.size)))⟩

set_option maxHeartbeats 2000000 in
theorem mt_no (wu n : Int) (w : World) (k : Nat) (hk : Hid (wu % 21 = (k : Int) - 1 ∧ 1 ≤ k ∧ k ≤ 21)) (b0 : 0 ≤ wu) (b1 : wu ≤ 255) (hl : Hid (k < 21)) (hn : Hid (¬ (0 ≤ n ∧ n ≤ mx k))) (hn2 : Hid (¬ (0 ≤ n ∧ n ≤ mx (k + 1)))) :
    Calls Try.prog 6 #[.int .u8 wu, .int .i64 n] w fun e w' => e = .returned (.bool true) ∧ Below w.heap.size w w' := by
  have h7 := mx_7 hk.out.2.1
  have h63 := mx_le hk.out.2.2
  have hlt : 2 + wu % 21 < 22 := by have := hk.out.1; have := hl.out; omega
  have h60 := mx_small hl.out
  go_enter Try.func6, Try.ntmps6
  go_wp2_with fail
  refine (max_ok _ k _ hk.out.2.1 hk.out.2.2 (by have := hk.out.1; omega)).mono ?_; rintro e w1 ⟨rfl, rfl⟩
  go_wp2_with fail
  refine (fmt_is _ _ k _ ⟨by have := hk.out.1; omega, hk.out.2.1, hk.out.2.2, by omega, Int.le_refl _⟩).mono ?_; rintro e w1 ⟨rfl, hown1, hb1⟩
  clear hown1
  go_wp2_with fail
  refine (fmt_range _ _ k _ hk.out.2.1 hk.out.2.2 (by have := hk.out.1; omega) (.inr (by omega))).mono ?_; rintro e w2 ⟨rfl, rfl⟩
  go_wp2_with fail
  refine (fmt_range _ _ (k + 1) _ (by omega) (by have := hl.out; omega) (by have := hk.out.1; omega) (by have := hn2.out; omega)).mono ?_; rintro e w4 ⟨rfl, rfl⟩
  go_wp2_with fail
  refine (fmt_range _ _ k _ hk.out.2.1 hk.out.2.2 (by have := hk.out.1; omega) (by have := hn.out; omega)).mono ?_; rintro e w4 ⟨rfl, rfl⟩
  go_wp2_with fail
  refine (alive_any _).mono ?_; rintro e w5 ⟨rfl, hb5⟩
  go_wp2
  go_ret
  exact ⟨rfl, hb1.trans (hb5.mono hb1.size)⟩

theorem walk_OctalMaxIsTight (wu n : Int) (w : World) (hw : (Lit.int .u8 wu).wf = true) (_ : (Lit.int .i64 n).wf = true) :
    Calls Try.prog 6 #[.int .u8 wu, .int .i64 n] w fun e w' => e = .returned (.bool true) ∧ Below w.heap.size w w' := by
  obtain ⟨k, hk, b0, b1⟩ := width_k wu hw
  by_cases hl : k < 21
  · by_cases hn : 0 ≤ n ∧ n ≤ mx k
    · exact mt_ok wu n w k hk b0 b1 hl hn
    · by_cases hn2 : 0 ≤ n ∧ n ≤ mx (k + 1)
      · exact mt_wide wu n w k hk b0 b1 hl hn hn2
      · exact mt_no wu n w k hk b0 b1 hl hn hn2
  · exact mt_last wu n w k hk b0 b1 hl

end Go.Proofs.Ytbhcjdjgmaapjaa
