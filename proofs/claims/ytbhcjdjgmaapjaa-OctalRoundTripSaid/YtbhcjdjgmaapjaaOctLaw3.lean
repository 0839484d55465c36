/-
  OctalRoundTrip, walked.
-/
import Derived.Test.YtbhcjdjgmaapjaaOctAlive
namespace Go.Proofs.Ytbhcjdjgmaapjaa
open Go.RowKit

theorem pz_fld (k : Nat) (n : Int) (h1 : 1 ≤ k) (h2 : k ≤ 21) (h0 : 0 ≤ n) (hm : n ≤ mx k) : pzV (fld k n) = n ∧ pzE (fld k n) = 0 := by
  have hl := fld_length k n
  have hok : pzOk (fld k n) := by
    unfold pzOk; rw [hl]
    refine ⟨by simp [fld, oct_length], ?_⟩
    rw [show (fld k n).take (k + 1 - 1) = oct k n by simp [fld, oct_length]]
    exact oct_bd k n
  unfold pzV pzE
  have hn : ¬ ((fld k n).length < 2 ∨ 22 < (fld k n).length) := by omega
  rw [if_neg hn, if_neg hn, if_pos hok, if_pos hok, hl, show (fld k n).take (k + 1 - 1) = oct k n by simp [fld, oct_length]]
  exact ⟨val_oct k n h0 hm, rfl⟩

theorem pz_back (zs : List Int) (h : pzE zs = 0) : ∃ k, zs.length = k + 1 ∧ 1 ≤ k ∧ k ≤ 21 ∧ 0 ≤ pzV zs ∧ pzV zs ≤ mx k ∧ fld k (pzV zs) = zs := by
  unfold pzE at h
  split at h
  · simp at h
  · split at h
    · rename_i h1 h2
      obtain ⟨k, hk⟩ : ∃ k, zs.length = k + 1 := ⟨zs.length - 1, by omega⟩
      refine ⟨k, hk, by omega, by omega, ?_⟩
      unfold pzV; rw [if_neg h1, if_pos h2, hk]
      obtain ⟨h3, h4⟩ := h2
      rw [hk] at h3 h4
      have hb := val_bd k (zs.take k) (by rw [List.length_take]; omega) h4
      refine ⟨hb.1, hb.2, ?_⟩
      have e : oct k (val (zs.take k)) = zs.take k := by
        have := oct_val (zs.take k) h4
        rwa [show (zs.take k).length = k by rw [List.length_take]; omega] at this
      unfold fld
      show oct k (val (zs.take (k + 1 - 1))) ++ [0] = zs
      rw [Nat.add_sub_cancel, e]
      have h5 : zs.getD k 0 = 0 := h3
      rw [← h5, ← take_snoc (by omega), ← hk, List.take_length]
    · simp at h

theorem parse_fld (a : Option Addr) (n wd : Int) (k c : Nat) (w : World) (h : BytesIn w a (fld k n)) (hf : FmtOk n wd k) :
    Calls Try.prog 15 #[.slice a (k + 1) c] w fun e w' => e = .returned (.tuple #[.int .i64 n, .int .i64 0]) ∧ w = w' := by
  have := parse_in a (k + 1) c (fld k n) w h (fld_length k n) (by have := hf.2.2.1; unfold maxLen; omega)
  obtain ⟨e1, e2⟩ := pz_fld k n hf.2.1 hf.2.2.1 hf.2.2.2.1 hf.2.2.2.2
  rw [e1, e2] at this
  exact this

set_option maxHeartbeats 2000000 in
theorem rt_ok_good (n wd : Int) (a : Option Addr) (len cap : Nat) (zs : List Int) (w : World) (hz : Hid (zs.length = len)) (hb : Hid (BytesIn w a zs)) (HM : Hid (len ≤ maxLen)) (hl : ¬ (1000 : Int) < len)
    (k : Nat) (hf : Hid (FmtOk n wd k)) (j : Nat) (hp : Hid (zs.length = j + 1 ∧ 1 ≤ j ∧ j ≤ 21 ∧ 0 ≤ pzV zs ∧ pzV zs ≤ mx j ∧ fld j (pzV zs) = zs)) (he : Hid (pzE zs = 0)) :
    Calls Try.prog 5 #[.int .i64 n, .int .i64 wd, .slice a len cap] w fun e w' => e = .returned (.bool true) ∧ Below w.heap.size w w' := by
  have hk1 : ((k : Int) + 1 == wd) = true := by have := hf.out.1; simp; omega
  have hk2 : ((k : Int) + 1 != wd) = false := by have := hf.out.1; simp; omega
  go_enter Try.func5, Try.ntmps5
  go_wp2_with fail
  refine (fmt_is _ _ k _ hf.out).mono ?_; rintro e w1 ⟨rfl, hown1, hb1⟩
  have H1 := Lib.hid hown1; clear hown1
  have hbs : Hid (BytesIn w1 a zs) := hb.out.below hb1
  go_wp2_with fail
  refine (parse_fld _ _ _ k _ _ (.of_own H1.out (fld_bd k n)) hf.out).mono ?_; rintro e w2 ⟨rfl, rfl⟩
  go_wp2_with fail
  refine (parse_in _ _ _ zs _ hbs.out hz.out HM.out).mono ?_; rintro e w3 ⟨rfl, rfl⟩
  rw [he.out]
  go_wp2_with fail
  refine (fmt_is _ _ j _ ⟨by rw [← hz.out, hp.out.1]; rfl, hp.out.2.1, hp.out.2.2.1, hp.out.2.2.2.1, hp.out.2.2.2.2.1⟩).mono ?_; rintro e w4 ⟨rfl, hown4, hb4⟩
  have H4 := Lib.hid hown4; clear hown4
  go_wp2_with fail
  refine (alive_any _).mono ?_; rintro e w5 ⟨rfl, hb5⟩
  have hc1 := run_str_in (P := Try.prog) Try.underlying22 Try.underlying5 Try.underlying9 ((hbs.out.below hb4).below hb5) len cap hz.out
  have hc2 := run_str_in (P := Try.prog) Try.underlying22 Try.underlying5 Try.underlying9 ((BytesIn.of_own H4.out (fld_bd _ _)).below hb5) (j + 1) (j + 1) (fld_length _ _)
  rw [hp.out.2.2.2.2.2] at hc2
  go_wp2
  go_ret
  exact ⟨rfl, (hb1).trans ((hb4.mono (hb1).size).trans (hb5.mono (Nat.le_trans (hb1).size hb4.size)))⟩

set_option maxHeartbeats 2000000 in
theorem rt_ok_bad (n wd : Int) (a : Option Addr) (len cap : Nat) (zs : List Int) (w : World) (hz : Hid (zs.length = len)) (hb : Hid (BytesIn w a zs)) (HM : Hid (len ≤ maxLen)) (hl : ¬ (1000 : Int) < len)
    (k : Nat) (hf : Hid (FmtOk n wd k)) (he : (pzE zs == 0) = false) (hv : Hid (pzV zs = 0)) :
    Calls Try.prog 5 #[.int .i64 n, .int .i64 wd, .slice a len cap] w fun e w' => e = .returned (.bool true) ∧ Below w.heap.size w w' := by
  have hk1 : ((k : Int) + 1 == wd) = true := by have := hf.out.1; simp; omega
  have hk2 : ((k : Int) + 1 != wd) = false := by have := hf.out.1; simp; omega
  have he2 : (pzE zs != 0) = true := by simpa using he
  go_enter Try.func5, Try.ntmps5
  go_wp2_with fail
  refine (fmt_is _ _ k _ hf.out).mono ?_; rintro e w1 ⟨rfl, hown1, hb1⟩
  have H1 := Lib.hid hown1; clear hown1
  have hbs : Hid (BytesIn w1 a zs) := hb.out.below hb1
  go_wp2_with fail
  refine (parse_fld _ _ _ k _ _ (.of_own H1.out (fld_bd k n)) hf.out).mono ?_; rintro e w2 ⟨rfl, rfl⟩
  go_wp2_with fail
  refine (parse_in _ _ _ zs _ hbs.out hz.out HM.out).mono ?_; rintro e w3 ⟨rfl, rfl⟩
  rw [hv.out]
  go_wp2_with fail
  refine (alive_any _).mono ?_; rintro e w5 ⟨rfl, hb5⟩
  go_wp2
  go_ret
  exact ⟨rfl, (hb1).trans (hb5.mono (hb1).size)⟩

set_option maxHeartbeats 2000000 in
theorem rt_err_good (n wd : Int) (a : Option Addr) (len cap : Nat) (zs : List Int) (w : World) (hz : Hid (zs.length = len)) (hb : Hid (BytesIn w a zs)) (HM : Hid (len ≤ maxLen)) (hl : ¬ (1000 : Int) < len)
    (hf : Hid (∀ k, ¬ FmtOk n wd k)) (j : Nat) (hp : Hid (zs.length = j + 1 ∧ 1 ≤ j ∧ j ≤ 21 ∧ 0 ≤ pzV zs ∧ pzV zs ≤ mx j ∧ fld j (pzV zs) = zs)) (he : Hid (pzE zs = 0)) :
    Calls Try.prog 5 #[.int .i64 n, .int .i64 wd, .slice a len cap] w fun e w' => e = .returned (.bool true) ∧ Below w.heap.size w w' := by
  go_enter Try.func5, Try.ntmps5
  go_wp2_with fail
  refine (fmt_err _ _ _ hf.out).mono ?_; rintro e w1 ⟨E, rfl, hE, rfl⟩
  have hE1 : (E == 0) = false := by rcases hE with rfl | rfl <;> rfl
  have HEE := Lib.hid hE; clear hE
  have hbs := hb
  go_wp2_with fail
  refine (parse_in _ _ _ zs _ hbs.out hz.out HM.out).mono ?_; rintro e w3 ⟨rfl, rfl⟩
  rw [he.out]
  go_wp2_with fail
  refine (fmt_is _ _ j _ ⟨by rw [← hz.out, hp.out.1]; rfl, hp.out.2.1, hp.out.2.2.1, hp.out.2.2.2.1, hp.out.2.2.2.2.1⟩).mono ?_; rintro e w4 ⟨rfl, hown4, hb4⟩
  have H4 := Lib.hid hown4; clear hown4
  go_wp2_with fail
  refine (alive_any _).mono ?_; rintro e w5 ⟨rfl, hb5⟩
  have hc1 := run_str_in (P := Try.prog) Try.underlying22 Try.underlying5 Try.underlying9 ((hbs.out.below hb4).below hb5) len cap hz.out
  have hc2 := run_str_in (P := Try.prog) Try.underlying22 Try.underlying5 Try.underlying9 ((BytesIn.of_own H4.out (fld_bd _ _)).below hb5) (j + 1) (j + 1) (fld_length _ _)
  rw [hp.out.2.2.2.2.2] at hc2
  go_wp2
  go_ret
  exact ⟨rfl, (Below.refl w.heap.size w).trans ((hb4.mono (Below.refl w.heap.size w).size).trans (hb5.mono (Nat.le_trans (Below.refl w.heap.size w).size hb4.size)))⟩

set_option maxHeartbeats 2000000 in
theorem rt_err_bad (n wd : Int) (a : Option Addr) (len cap : Nat) (zs : List Int) (w : World) (hz : Hid (zs.length = len)) (hb : Hid (BytesIn w a zs)) (HM : Hid (len ≤ maxLen)) (hl : ¬ (1000 : Int) < len)
    (hf : Hid (∀ k, ¬ FmtOk n wd k)) (he : (pzE zs == 0) = false) (hv : Hid (pzV zs = 0)) :
    Calls Try.prog 5 #[.int .i64 n, .int .i64 wd, .slice a len cap] w fun e w' => e = .returned (.bool true) ∧ Below w.heap.size w w' := by
  have he2 : (pzE zs != 0) = true := by simpa using he
  go_enter Try.func5, Try.ntmps5
  go_wp2_with fail
  refine (fmt_err _ _ _ hf.out).mono ?_; rintro e w1 ⟨E, rfl, hE, rfl⟩
  have hE1 : (E == 0) = false := by rcases hE with rfl | rfl <;> rfl
  have HEE := Lib.hid hE; clear hE
  have hbs := hb
  go_wp2_with fail
  refine (parse_in _ _ _ zs _ hbs.out hz.out HM.out).mono ?_; rintro e w3 ⟨rfl, rfl⟩
  rw [hv.out]
  go_wp2_with fail
  refine (alive_any _).mono ?_; rintro e w5 ⟨rfl, hb5⟩
  go_wp2
  go_ret
  exact ⟨rfl, (Below.refl w.heap.size w).trans (hb5.mono (Below.refl w.heap.size w).size)⟩

set_option maxHeartbeats 2000000 in
theorem walk_OctalRoundTrip (n wd : Int) (a : Option Addr) (len cap : Nat) (zs : List Int) (w : World) (_ : (Lit.int .i64 n).wf = true) (_ : (Lit.int .i64 wd).wf = true) (h : ArgInts .u8 w a len cap zs) :
    Calls Try.prog 5 #[.int .i64 n, .int .i64 wd, .slice a len cap] w fun e w' => e = .returned (.bool true) ∧ Below w.heap.size w w' := by
  have hm : len ≤ maxLen := Nat.le_trans h.2.1 h.2.2.1
  have hz := Lib.hid h.1
  have hb := Lib.hid h.bytes
  have HM := Lib.hid hm
  clear h
  unfold maxLen at hm
  by_cases hl : (1000 : Int) < len
  · go_enter Try.func5, Try.ntmps5
    go_wp2_with fail
    refine (alive_any _).mono ?_; rintro e w1 ⟨rfl, hb⟩
    go_wp2
    go_ret
    exact ⟨rfl, hb⟩
  · by_cases he : pzE zs = 0
    · obtain ⟨j, hp⟩ := pz_back zs he
      by_cases hf : ∃ k, FmtOk n wd k
      · obtain ⟨k, hf⟩ := hf
        exact rt_ok_good n wd a len cap zs w hz hb HM hl k hf j hp he
      · exact rt_err_good n wd a len cap zs w hz hb HM hl (fun k h => hf ⟨k, h⟩) j hp he
    · have hv : pzV zs = 0 := by
        unfold pzE at he; unfold pzV
        split
        · rfl
        · rename_i h1
          rw [if_neg h1] at he
          split
          · rename_i h2; rw [if_pos h2] at he; exact absurd rfl he
          · rfl
      have he' : (pzE zs == 0) = false := by simpa using he
      by_cases hf : ∃ k, FmtOk n wd k
      · obtain ⟨k, hf⟩ := hf
        exact rt_ok_bad n wd a len cap zs w hz hb HM hl k hf he' hv
      · exact rt_err_bad n wd a len cap zs w hz hb HM hl (fun k h => hf ⟨k, h⟩) he' hv

end Go.Proofs.Ytbhcjdjgmaapjaa
