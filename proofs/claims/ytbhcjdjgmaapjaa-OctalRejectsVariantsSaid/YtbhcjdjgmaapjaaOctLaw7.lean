/-
  OctalRejectsVariants, walked.
-/
import Derived.Test.YtbhcjdjgmaapjaaOctLaw4
namespace Go.Proofs.Ytbhcjdjgmaapjaa
open Go.RowKit

set_option maxHeartbeats 2000000 in
theorem rv_err (n at' c : Int) (w : World) (hf : ∀ k, ¬ FmtOk n 12 k) :
    Calls Try.prog 9 #[.int .i64 n, .int .u8 at', .int .u8 c] w fun e w' => e = .returned (.bool true) ∧ Below w.heap.size w w' := by
  have HF := Lib.hid hf; clear hf
  go_enter Try.func9, Try.ntmps9
  go_wp2_with fail
  refine (fmt_err _ _ _ HF.out).mono ?_; rintro e w1 ⟨E, rfl, hE, rfl⟩
  have hE1 : (E != 0) = true := by rcases hE with rfl | rfl <;> rfl
  clear hE
  go_wp2_with fail
  refine (alive_any _).mono ?_; rintro e w5 ⟨rfl, hb5⟩
  go_wp2
  go_ret
  exact ⟨rfl, hb5⟩

theorem set_ok_last (n c : Int) (hc : c = 0) : pzE ((fld 11 n).set 11 c) = 0 := by
  have hl : ((fld 11 n).set 11 c).length = 12 := by rw [List.length_set, fld_length]
  unfold pzE
  rw [if_neg (by omega), if_pos]
  unfold pzOk
  rw [hl]
  subst hc
  refine ⟨by simp [fld, oct_length], ?_⟩
  rw [show ((fld 11 n).set 11 0).take (12 - 1) = oct 11 n by simp [fld, oct_length, List.set_append_right]]
  exact oct_bd _ _
theorem set_bad_last (n c : Int) (hc : ¬ c = 0) : pzE ((fld 11 n).set 11 c) = 6 := by
  have hl : ((fld 11 n).set 11 c).length = 12 := by rw [List.length_set, fld_length]
  unfold pzE
  rw [if_neg (by omega), if_neg]
  unfold pzOk
  rw [hl]
  intro h
  exact hc (by have := h.1; simpa [fld, oct_length] using this)
theorem set_take (n c : Int) (i : Nat) (hi : i < 11) : ((fld 11 n).set i c).take 11 = (oct 11 n).set i c := by
  unfold fld
  rw [List.set_append_left _ _ (by rw [oct_length]; exact hi), List.take_append_of_le_length (by simp [oct_length]), List.take_of_length_le (by simp [oct_length])]
theorem set_ok (n c : Int) (i : Nat) (hi : i < 11) (h0 : 48 ≤ c) (h1 : c ≤ 55) : pzE ((fld 11 n).set i c) = 0 := by
  have hl : ((fld 11 n).set i c).length = 12 := by rw [List.length_set, fld_length]
  unfold pzE
  rw [if_neg (by omega), if_pos]
  unfold pzOk
  rw [hl, set_take n c i hi]
  refine ⟨?_, fun d hd => ?_⟩
  · rw [List.getD_eq_getElem?_getD, List.getElem?_set_ne (by omega)]; simp [fld, oct_length]
  · rcases List.mem_or_eq_of_mem_set hd with h | h
    · exact oct_bd _ _ d h
    · omega
theorem set_bad (n c : Int) (i : Nat) (hi : i < 11) (h : c < 48 ∨ 55 < c) : pzE ((fld 11 n).set i c) = 6 := by
  have hl : ((fld 11 n).set i c).length = 12 := by rw [List.length_set, fld_length]
  unfold pzE
  rw [if_neg (by omega), if_neg]
  unfold pzOk
  rw [hl, set_take n c i hi]
  intro hh
  have := hh.2 c (List.mem_set (by rw [oct_length]; exact hi) c)
  omega

theorem set_bd {zs : List Int} (h : ∀ z ∈ zs, 0 ≤ z ∧ z ≤ 255) (i : Nat) {c : Int} (c0 : 0 ≤ c) (c1 : c ≤ 255) : ∀ z ∈ zs.set i c, 0 ≤ z ∧ z ≤ 255 := by
  intro z hz
  rcases List.mem_or_eq_of_mem_set hz with hz | hz
  · exact h z hz
  · omega

theorem cell_own {w : World} {base g n cap : Nat} {e : TypeId} {zs : List Int} (h : w.ownsRow base e 1 (.slice (some ⟨g, 0, none⟩) n cap) n (zs.map (.int .u8))) (j : Nat) (hj : j < zs.length) :
    w.cell? ⟨g, j, none⟩ = some (.int .u8 (zs.getD j 0)) := by
  have hl := h.1
  rw [List.length_map] at hl
  rw [h.cellAt j (by omega), List.getElem?_map, List.getElem?_eq_getElem hj, List.getD_eq_getElem?_getD, List.getElem?_eq_getElem hj]
  rfl

set_option maxHeartbeats 2000000 in
theorem rv_ok (n at' c : Int) (w : World) (hf : Hid (FmtOk n 12 11)) (b0 : 0 ≤ at') (b1 : at' ≤ 255) (c0 : 0 ≤ c) (c1 : c ≤ 255) :
    Calls Try.prog 9 #[.int .i64 n, .int .u8 at', .int .u8 c] w fun e w' => e = .returned (.bool true) ∧ Below w.heap.size w w' := by
  obtain ⟨i, hi⟩ : ∃ i : Nat, Hid (at' % 12 = (i : Int) ∧ i < 12) := ⟨(at' % 12).toNat, by show _ ∧ _; omega⟩
  obtain ⟨i0, hI0⟩ : ∃ i0, Hid (Try.prog.info? 5 = some i0 ∧ i0.zero = some (Value.int .u8 0) ∧ i0.size = 1 ∧ i0.bytes = 1) := by
    obtain ⟨i0, h1, h2, h3, h4⟩ := info_parts Try.info5
    exact ⟨i0, h1, h2, h3, h4⟩
  go_enter Try.func9, Try.ntmps9
  go_wp2_with fail
  refine (fmt_is _ _ 11 _ hf.out).mono ?_; rintro e w1 ⟨rfl, hown1, hb1⟩
  have H1 := Lib.hid (RowAt.of_own hown1 (fld_bd 11 n))
  have L1 := (own_lt hown1).2
  clear hown1
  have B2 : Below w1.heap.size w1 (w1.alloc (.cells #[] 5)) := (Below.refl _ _).alloc (Nat.le_refl _) _
  have H2 := Lib.hid (World.ownsRow_lit (base := w1.heap.size) (e := 5) (size := 1) w1 #[] 0 (Nat.le_refl _) (by unfold maxLen; omega) rfl)
  have HB2 := Lib.hid B2; clear B2
  go_wp2_with (at_builtin; refine wpList_append_u8 rfl _ _ 22 rfl w1.heap.size 5 i0 Try.underlying22 hI0 _ 0 [] rfl H2.out w.heap.size 0 12 12 (fld 11 n) rfl (H1.out.below HB2.out L1) (fld_length _ _) (by omega) HB2.out.size ?_; intro v' w2 hown2 hb2; (obtain ⟨g, cap, hv', hg⟩ := own_shape hown2 (by omega)); subst hv'; (have HOWN2 := Lib.hid hown2); (have hcell : Hid (∀ j, j < 12 → w2.cell? ⟨g, j, none⟩ = some (.int .u8 ((fld 11 n).getD j 0))) := fun j hj => cell_own hown2 j (by rw [List.nil_append, fld_length]; exact hj)); (have hfr := hown2.frozenAt); (have hci := hcell.out i hi.out.2); (have hfi := hfr i); (have hi12 := hi.out.1); (have hilt := hi.out.2); clear hown2 hfr)
  have HS := HOWN2.out.stored i (.int .u8 c)
  have HB : Hid (BytesIn (w2.setCell ⟨g, i, none⟩ (.int .u8 c)) (some ⟨g, 0, none⟩) ((fld 11 n).set i c)) := by
    refine BytesIn.of_own (base := w1.heap.size) (n := 0 + 12) (cap := cap) (e := 5) ?_ (set_bd (fld_bd 11 n) i c0 c1)
    have := HS.1
    rw [List.nil_append, ← List.map_set] at this
    exact this
  have HBB : Hid (Below w.heap.size w (w2.setCell ⟨g, i, none⟩ (.int .u8 c))) :=
    ((hb1.trans (HB2.out.mono hb1.size)).trans (hb2.mono hb1.size)).setCell (Nat.le_trans hb1.size hg) _
  clear HS hb1 hb2 hci hfi
  refine (parse_in _ _ _ ((fld 11 n).set i c) _ HB.out (by rw [List.length_set, fld_length]) (by unfold maxLen; omega)).mono ?_; rintro e w3 ⟨rfl, rfl⟩
  by_cases h11 : i = 11
  · subst h11
    by_cases hc : c = 0
    · have hE := set_ok_last n c hc
      rw [hE]; clear hE
      subst hc
      go_wp2_with fail
      refine (alive_any _).mono ?_; rintro e w5 ⟨rfl, hb5⟩
      go_wp2
      go_ret
      exact ⟨rfl, HBB.out.trans (hb5.mono HBB.out.size)⟩
    · have hE := set_bad_last n c hc
      rw [hE]; clear hE
      have hc9 : (c == 0) = false := by simpa using hc
      go_wp2_with fail
      refine (alive_any _).mono ?_; rintro e w5 ⟨rfl, hb5⟩
      go_wp2
      go_ret
      exact ⟨rfl, HBB.out.trans (hb5.mono HBB.out.size)⟩
  · have hlt : (i : Int) < 11 := by omega
    have hne : ((i : Int) == 11) = false := by simp; omega
    by_cases hc : 48 ≤ c ∧ c ≤ 55
    · have hE := set_ok n c i (by omega) hc.1 hc.2
      rw [hE]; clear hE
      obtain ⟨hc1, hc2⟩ := hc
      go_wp2_with fail
      refine (alive_any _).mono ?_; rintro e w5 ⟨rfl, hb5⟩
      go_wp2
      go_ret
      exact ⟨rfl, HBB.out.trans (hb5.mono HBB.out.size)⟩
    · have hE := set_bad n c i (by omega) (by omega)
      rw [hE]; clear hE
      by_cases hc3 : c < 48
      · clear hc
        go_wp2_with fail
        refine (alive_any _).mono ?_; rintro e w5 ⟨rfl, hb5⟩
        go_wp2
        go_ret
        exact ⟨rfl, HBB.out.trans (hb5.mono HBB.out.size)⟩
      · have hc4 : 55 < c := by omega
        have hc5 : decide (c ≤ 55) = false := by simpa using hc4
        clear hc
        go_wp2_with fail
        refine (alive_any _).mono ?_; rintro e w5 ⟨rfl, hb5⟩
        go_wp2
        go_ret
        exact ⟨rfl, HBB.out.trans (hb5.mono HBB.out.size)⟩

theorem walk_OctalRejectsVariants (n at' c : Int) (w : World) (_ : (Lit.int .i64 n).wf = true) (ha : (Lit.int .u8 at').wf = true) (hc : (Lit.int .u8 c).wf = true) :
    Calls Try.prog 9 #[.int .i64 n, .int .u8 at', .int .u8 c] w fun e w' => e = .returned (.bool true) ∧ Below w.heap.size w w' := by
  by_cases hf : ∃ k, FmtOk n 12 k
  · obtain ⟨k, hf⟩ := hf
    obtain rfl : k = 11 := by have := hf.1; omega
    exact rv_ok n at' c w hf (bounds_u8 ha).1 (bounds_u8 ha).2 (bounds_u8 hc).1 (bounds_u8 hc).2
  · exact rv_err n at' c w (fun k h => hf ⟨k, h⟩)

end Go.Proofs.Ytbhcjdjgmaapjaa
