/-
  OctalOrder, walked.
-/
import Derived.Test.YtbhcjdjgmaapjaaOctAlive
namespace Go.Proofs.Ytbhcjdjgmaapjaa
open Go.RowKit

def u8 (n : Int) : UInt8 := UInt8.ofNat n.toNat
theorem u8_lt {x y : Int} (hx : 48 ≤ x ∧ x ≤ 55) (hy : 48 ≤ y ∧ y ≤ 55) : (decide (u8 x < u8 y)) = decide (x < y) := by
  rw [Bool.eq_iff_iff, decide_eq_true_iff, decide_eq_true_iff, UInt8.lt_iff_toNat_lt]
  unfold u8
  rw [UInt8.toNat_ofNat', UInt8.toNat_ofNat']
  omega
theorem u8_eq {x y : Int} (hx : 48 ≤ x ∧ x ≤ 55) (hy : 48 ≤ y ∧ y ≤ 55) : (u8 x == u8 y) = decide (x = y) := by
  rw [Bool.eq_iff_iff, decide_eq_true_iff, beq_iff_eq, ← UInt8.toNat_inj]
  unfold u8
  rw [UInt8.toNat_ofNat', UInt8.toNat_ofNat']
  omega
theorem less_val : ∀ xs ys : List Int, OctD xs → OctD ys → xs.length = ys.length → Op.bytesLess ((xs ++ [0]).map u8) ((ys ++ [0]).map u8) = decide (val xs < val ys)
  | [], [], _, _, _ => by decide
  | x :: xs, y :: ys, hx, hy, hl => by
    have hx1 := hx x (by simp)
    have hy1 := hy y (by simp)
    have hx2 : OctD xs := fun z hz => hx z (List.mem_cons_of_mem _ hz)
    have hy2 : OctD ys := fun z hz => hy z (List.mem_cons_of_mem _ hz)
    have hl2 : xs.length = ys.length := by simpa using hl
    have ih := less_val xs ys hx2 hy2 hl2
    have bx := val_bd xs.length xs rfl hx2
    have bY := val_bd xs.length ys hl2.symm hy2
    unfold mx at bx bY
    rw [val_cons, val_cons, ← hl2]
    simp only [List.cons_append, List.map_cons, Op.bytesLess]
    rw [ih, u8_lt hx1 hy1, u8_eq hx1 hy1, Bool.eq_iff_iff]
    simp only [Bool.or_eq_true, Bool.and_eq_true, decide_eq_true_iff]
    have hp := pow8_pos xs.length
    generalize (8 : Int) ^ xs.length = p at *
    rcases Int.lt_trichotomy x y with h | h | h
    · have e1 : (x - 48) * p + p ≤ (y - 48) * p := by
        have : (x - 48 + 1) * p ≤ (y - 48) * p := Int.mul_le_mul_of_nonneg_right (by omega) (by omega)
        rw [Int.add_mul] at this; omega
      constructor
      · intro _; omega
      · intro _; exact .inl h
    · subst h
      constructor
      · rintro (h | h)
        · omega
        · omega
      · intro h; exact .inr ⟨rfl, by omega⟩
    · have e1 : (y - 48) * p + p ≤ (x - 48) * p := by
        have : (y - 48 + 1) * p ≤ (x - 48) * p := Int.mul_le_mul_of_nonneg_right (by omega) (by omega)
        rw [Int.add_mul] at this; omega
      constructor
      · rintro (h | h) <;> omega
      · intro _; omega
theorem less_fld (k : Nat) (a b : Int) (ha : 0 ≤ a ∧ a ≤ mx k) (hb : 0 ≤ b ∧ b ≤ mx k) : Op.bytesLess (strOfNums (fld k a)).toList (strOfNums (fld k b)).toList = decide (a < b) := by
  have e : ∀ l, (strOfNums l).toList = l.map u8 := fun l => by rw [ByteArray.toList_eq, strOfNums_data]; rfl
  rw [e, e]
  unfold fld
  rw [less_val _ _ (oct_bd _ _) (oct_bd _ _) (by rw [oct_length, oct_length]), val_oct k a ha.1 ha.2, val_oct k b hb.1 hb.2]

set_option maxHeartbeats 2000000 in
theorem or_no (a b wd : Int) (w : World) (hf : Hid (∀ k, ¬ FmtOk a wd k)) :
    Calls Try.prog 7 #[.int .i64 a, .int .i64 b, .int .i64 wd] w fun e w' => e = .returned (.bool true) ∧ Below w.heap.size w w' := by
  go_enter Try.func7, Try.ntmps7
  go_wp2_with fail
  refine (fmt_err _ _ _ hf.out).mono ?_; rintro e w1 ⟨E, rfl, hE, rfl⟩
  have hE1 : (E != 0) = true := by rcases hE with rfl | rfl <;> rfl
  clear hE
  go_wp2_with fail
  by_cases hg : ∃ k, FmtOk b wd k
  · obtain ⟨k, hg⟩ := hg
    have HG := Lib.hid hg; clear hg
    refine (fmt_is _ _ k _ HG.out).mono ?_; rintro e w1 ⟨rfl, hown1, hb1⟩
    clear hown1
    go_wp2_with fail
    refine (alive_any _).mono ?_; rintro e w5 ⟨rfl, hb5⟩
    go_wp2
    go_ret
    exact ⟨rfl, hb1.trans (hb5.mono hb1.size)⟩
  · have HG := Lib.hid hg; clear hg
    refine (fmt_err _ _ _ (fun k h => HG.out ⟨k, h⟩)).mono ?_; rintro e w1 ⟨F, rfl, hF, rfl⟩
    clear hF
    go_wp2_with fail
    refine (alive_any _).mono ?_; rintro e w5 ⟨rfl, hb5⟩
    go_wp2
    go_ret
    exact ⟨rfl, hb5⟩

set_option maxHeartbeats 2000000 in
theorem or_half (a b wd : Int) (w : World) (k : Nat) (hf : Hid (FmtOk a wd k)) (hg : Hid (∀ k, ¬ FmtOk b wd k)) :
    Calls Try.prog 7 #[.int .i64 a, .int .i64 b, .int .i64 wd] w fun e w' => e = .returned (.bool true) ∧ Below w.heap.size w w' := by
  go_enter Try.func7, Try.ntmps7
  go_wp2_with fail
  refine (fmt_is _ _ k _ hf.out).mono ?_; rintro e w1 ⟨rfl, hown1, hb1⟩
  clear hown1
  go_wp2_with fail
  refine (fmt_err _ _ _ hg.out).mono ?_; rintro e w1 ⟨E, rfl, hE, rfl⟩
  have hE1 : (E != 0) = true := by rcases hE with rfl | rfl <;> rfl
  clear hE
  go_wp2_with fail
  refine (alive_any _).mono ?_; rintro e w5 ⟨rfl, hb5⟩
  go_wp2
  go_ret
  exact ⟨rfl, hb1.trans (hb5.mono hb1.size)⟩

set_option maxHeartbeats 2000000 in
theorem or_ok (a b wd : Int) (w : World) (k : Nat) (hf : Hid (FmtOk a wd k)) (hg : Hid (FmtOk b wd k)) (hs : Hid (Op.bytesLess (strOfNums (fld k a)).toList (strOfNums (fld k b)).toList = decide (a < b))) :
    Calls Try.prog 7 #[.int .i64 a, .int .i64 b, .int .i64 wd] w fun e w' => e = .returned (.bool true) ∧ Below w.heap.size w w' := by
  go_enter Try.func7, Try.ntmps7
  go_wp2_with fail
  refine (fmt_is _ _ k _ hf.out).mono ?_; rintro e w1 ⟨rfl, hown1, hb1⟩
  have H1 := Lib.hid hown1; clear hown1
  go_wp2_with fail
  refine (fmt_is _ _ k _ hg.out).mono ?_; rintro e w2 ⟨rfl, hown2, hb2⟩
  have H2 := Lib.hid hown2; clear hown2
  go_wp2_with fail
  refine (alive_any _).mono ?_; rintro e w3 ⟨rfl, hb3⟩
  have hc1 := run_str_in (P := Try.prog) Try.underlying22 Try.underlying5 Try.underlying9 (((BytesIn.of_own H1.out (fld_bd _ _)).below hb2).below hb3) (k + 1) (k + 1) (fld_length _ _)
  have hc2 := run_str_in (P := Try.prog) Try.underlying22 Try.underlying5 Try.underlying9 ((BytesIn.of_own H2.out (fld_bd _ _)).below hb3) (k + 1) (k + 1) (fld_length _ _)
  obtain ⟨s, hs1⟩ := named (strOfNums (fld k a))
  obtain ⟨u, hu1⟩ := named (strOfNums (fld k b))
  rw [← hs1.out] at hc1
  rw [← hu1.out] at hc2
  have hl : Op.bytesLess s.toList u.toList = decide (a < b) := by rw [hs1.out, hu1.out]; exact hs.out
  go_wp2
  go_ret
  exact ⟨rfl, hb1.trans ((hb2.mono hb1.size).trans (hb3.mono (Nat.le_trans hb1.size hb2.size)))⟩

theorem walk_OctalOrder (a b wd : Int) (w : World) (_ : (Lit.int .i64 a).wf = true) (_ : (Lit.int .i64 b).wf = true) (_ : (Lit.int .i64 wd).wf = true) :
    Calls Try.prog 7 #[.int .i64 a, .int .i64 b, .int .i64 wd] w fun e w' => e = .returned (.bool true) ∧ Below w.heap.size w w' := by
  by_cases hf : ∃ k, FmtOk a wd k
  · obtain ⟨k, hf⟩ := hf
    by_cases hg : ∃ k, FmtOk b wd k
    · obtain ⟨j, hg⟩ := hg
      obtain rfl : k = j := by have := hf.1; have := hg.1; omega
      exact or_ok a b wd w k hf hg (less_fld k a b hf.2.2.2 hg.2.2.2)
    · exact or_half a b wd w k hf (fun k h => hg ⟨k, h⟩)
  · exact or_no a b wd w (fun k h => hf ⟨k, h⟩)

end Go.Proofs.Ytbhcjdjgmaapjaa
