/-
  OctalDigits, walked.
-/
import Derived.Test.YtbhcjdjgmaapjaaOctLaw4
namespace Go.Proofs.Ytbhcjdjgmaapjaa
open Go.RowKit

/-- the digit at place i of the field, from its end -/
theorem fld_at (k : Nat) (n : Int) (j : Nat) (h : j < k) : (fld k n).getD (k - 1 - j) 0 = 48 + sh n j % 8 := by
  have hp : ∀ i, j < i → (oct i n)[i - 1 - j]? = some (48 + sh n j % 8) := by
    intro i hi
    induction i with
    | zero => omega
    | succ i ih =>
      rcases Nat.lt_or_ge j i with h | h
      · rw [oct, show i + 1 - 1 - j = (i - 1 - j) + 1 by omega, List.getElem?_cons_succ]
        exact ih h
      · obtain rfl : j = i := by omega
        rw [oct, show j + 1 - 1 - j = 0 by omega]
        rfl
  rw [List.getD_eq_getElem?_getD, fld, List.getElem?_append_left (by rw [oct_length]; omega), hp k h]
  rfl

set_option maxHeartbeats 2000000 in
theorem dg_neg (n wu : Int) (w : World) (k : Nat) (hk : Hid (wu % 21 = (k : Int) - 1 ∧ 1 ≤ k ∧ k ≤ 21)) (b0 : 0 ≤ wu) (b1 : wu ≤ 255) (hn : n < 0) :
    Calls Try.prog 8 #[.int .i64 n, .int .u8 wu] w fun e w' => e = .returned (.bool true) ∧ Below w.heap.size w w' := by
  go_enter Try.func8, Try.ntmps8
  go_wp2_with fail
  refine (fmt_range _ _ k _ hk.out.2.1 hk.out.2.2 (by have := hk.out.1; omega) (.inl hn)).mono ?_; rintro e w4 ⟨rfl, rfl⟩
  go_wp2_with fail
  refine (alive_any _).mono ?_; rintro e w5 ⟨rfl, hb5⟩
  go_wp2
  go_ret
  exact ⟨rfl, hb5⟩

set_option maxHeartbeats 2000000 in
theorem dg_big (n wu : Int) (w : World) (k : Nat) (hk : Hid (wu % 21 = (k : Int) - 1 ∧ 1 ≤ k ∧ k ≤ 21)) (b0 : 0 ≤ wu) (b1 : wu ≤ 255) (h0 : 0 ≤ n) (hn : mx k < n) :
    Calls Try.prog 8 #[.int .i64 n, .int .u8 wu] w fun e w' => e = .returned (.bool true) ∧ Below w.heap.size w w' := by
  go_enter Try.func8, Try.ntmps8
  go_wp2_with fail
  refine (fmt_range _ _ k _ hk.out.2.1 hk.out.2.2 (by have := hk.out.1; omega) (.inr hn)).mono ?_; rintro e w4 ⟨rfl, rfl⟩
  go_wp2_with fail
  refine (alive_any _).mono ?_; rintro e w5 ⟨rfl, hb5⟩
  go_wp2_with fail
  refine (max_ok _ k _ hk.out.2.1 hk.out.2.2 (by have := hk.out.1; omega)).mono ?_; rintro e w1 ⟨rfl, rfl⟩
  go_wp2
  go_ret
  exact ⟨rfl, hb5⟩

set_option maxHeartbeats 2000000 in
theorem dg_ok (n wu : Int) (w : World) (k : Nat) (hk : Hid (wu % 21 = (k : Int) - 1 ∧ 1 ≤ k ∧ k ≤ 21)) (b0 : 0 ≤ wu) (b1 : wu ≤ 255) (h0 : 0 ≤ n) (hn : Hid (n ≤ mx k)) :
    Calls Try.prog 8 #[.int .i64 n, .int .u8 wu] w fun e w' => e = .returned (.bool true) ∧ Below w.heap.size w w' := by
  have h63 := mx_le hk.out.2.2
  go_enter Try.func8, Try.ntmps8
  go_wp2_with fail
  refine (fmt_is _ _ k _ ⟨by have := hk.out.1; omega, hk.out.2.1, hk.out.2.2, h0, hn.out⟩).mono ?_; rintro e w1 ⟨rfl, hown1, hb1⟩
  have H1 := Lib.hid (RowAt.of_own hown1 (fld_bd k n)); clear hown1
  have e1 : ((k : Int) + 1 == 2 + wu % 21) = true := by have := hk.out.1; simp; omega
  have e2 : ((k : Int) + 1 != 2 + wu % 21) = false := by have := hk.out.1; simp; omega
  have hlast : w1.cell? ⟨w.heap.size, (2 + wu % 21).toNat - 1, none⟩ = some (.int .u8 0) := by
    obtain ⟨d, hd, _, _, hc⟩ := H1.out.get0 k (by rw [fld_length]; omega)
    rw [show (fld k n).getD k 0 = 0 by simp [fld, oct_length]] at hd
    rw [← hd, show (2 + wu % 21).toNat - 1 = k by have := hk.out.1; omega]; exact hc
  have hle : 2 + wu % 21 - 1 < ((k : Int) + 1) := by have := hk.out.1; omega
  have hge : 0 ≤ 2 + wu % 21 - 1 := by omega
  go_wp2
  clear hlast hle hge e1 e2
  go_loop [8, 9] (fun t i => ∃ c : Nat, c ≤ k ∧ i = .int .i64 ((c : Int) - 1) ∧ t = .int .i64 (sh n (k - c))) (fun _ i => (intOf i + 1).toNat)
  case atStart => exact ⟨k, Nat.le_refl _, by congr 1; have := hk.out.1; omega, by rw [Nat.sub_self, sh_zero]⟩
  case round =>
    obtain ⟨c, hc, rfl, rfl⟩ := hrel
    by_cases h0c : c = 0
    · subst h0c
      have hz : sh n k = 0 := by unfold sh; exact Int.ediv_eq_zero_of_lt h0 (by have := hn.out; unfold mx at this; omega)
      rw [Nat.sub_zero, hz]
      go_wp2_with fail
      refine (alive_any _).mono ?_; rintro e w5 ⟨rfl, hb5⟩
      go_wp2
      go_ret
      exact ⟨rfl, hb1.trans (hb5.mono hb1.size)⟩
    · obtain ⟨i, hi⟩ : ∃ i, c = i + 1 := ⟨c - 1, by omega⟩
      subst hi
      rw [show ((i + 1 : Nat) : Int) - 1 = (i : Int) by omega]
      obtain ⟨d, hd, d0, d1, hcell⟩ := H1.out.get0 i (by rw [fld_length]; omega)
      obtain ⟨j, hj⟩ : ∃ j, Hid (k - (i + 1) = j) := ⟨_, Eq.refl _⟩
      rw [hj.out]
      rw [show i = k - 1 - j by have := hj.out; omega, fld_at k n j (by have := hj.out; omega)] at hd
      subst hd
      have b3 := sh_nonneg h0 j
      have b4 := Int.le_trans (sh_le h0 j) hn.out
      have b5 := Int.le_trans b4 h63
      have HS := Lib.hid (sh_succ n j)
      have hlt : (i : Int) < (k : Int) + 1 := by omega
      have hi1 : (i : Int) ≤ 21 := by have := hk.out.2.2; omega
      clear b4
      go_wp2
      go_round
      case rel => exact ⟨i, by omega, rfl, by rw [show k - i = j + 1 by have := hj.out; omega, HS.out]⟩
      case measure => simp [intOf]

theorem walk_OctalDigits (n wu : Int) (w : World) (_ : (Lit.int .i64 n).wf = true) (hw : (Lit.int .u8 wu).wf = true) :
    Calls Try.prog 8 #[.int .i64 n, .int .u8 wu] w fun e w' => e = .returned (.bool true) ∧ Below w.heap.size w w' := by
  obtain ⟨k, hk, b0, b1⟩ := width_k wu hw
  by_cases h0 : n < 0
  · exact dg_neg n wu w k hk b0 b1 h0
  · by_cases h1 : mx k < n
    · exact dg_big n wu w k hk b0 b1 (by omega) h1
    · exact dg_ok n wu w k hk b0 b1 (by omega) (show n ≤ mx k by omega)

end Go.Proofs.Ytbhcjdjgmaapjaa
