/-
  Layer 6: the walk of the statements' own 'alive'.
-/
import Derived.Test.YtjipmiiohijfoaaBlkIface
import Derived.Lib.SlBytesConst
namespace Go.Proofs.Ytjipmiiohijfoaa
open Go.RowKit

theorem u8row' {w : World} {g : Nat} {T : TypeId} {p : Nat × Nat} (zs : List Int) (h : w.heap[g]? = some (.cells (zs.map (Value.int .u8)).toArray T p)) (hb : Bytes zs) : BytesIn w (some ⟨g, 0, none⟩) zs := by
  refine .inr ⟨g, 0, rfl, ?_, fun i hi => ?_, hb⟩
  · rcases Nat.lt_or_ge g w.heap.size with hl | hl
    · exact hl
    · rw [Array.getElem?_eq_none hl] at h; cases h
  · rw [Nat.zero_add, cell_of_row _ _ _ _ _ _ h]
    rw [List.getElem?_toArray, List.getElem?_map, List.getElem?_eq_getElem hi, List.getD_eq_getElem?_getD, List.getElem?_eq_getElem hi]
    rfl

theorem allK_neg {F : Int} (hF : F < 0) (L n : Nat) : allK F L n = n ∧ allE F L n = 0 := by
  unfold allK allE; rw [if_neg (by omega), if_neg (by omega)]; exact ⟨rfl, rfl⟩
theorem ww_neg {F : Int} (hF : F < 0) (L n : Nat) : wwK F L n 0 = n ∧ wwE F L n 0 = 0 := by
  unfold wwK wwE; rw [if_pos rfl, if_pos rfl]; exact allK_neg hF L n

set_option maxHeartbeats 4000000 in
theorem alive_any (w : World) : Calls Try.prog 9 #[] w fun e w' => e = .returned (.bool true) ∧ Below w.heap.size w w' := by
  have kc := fun (w : World) (C : Array Value) (n c : Nat) => Lib.run_convert_bytes_const (P := Try.prog) w 22 5 C n c Try.underlying22 Try.underlying5
  obtain ⟨i0, HI⟩ := info_u8 (P := Try.prog) (e := 5) (by kernel_rfl)
  go_enter Try.func9, Try.ntmps9
  go_wp2_with (refine wpList_make_arr rfl _ _ 22 5 rfl Try.underlying22 i0 HI 600 rfl rfl (by omega) ?_; intro w1 h1 b1; have H1 := Lib.hid h1; have B1 := Lib.hid b1; clear h1 b1)
  obtain ⟨Z, hZ⟩ := named (zeros 600)
  rw [← hZ.out] at H1
  have ZL : Hid (Z.length = 600) := by show _ = _; rw [hZ.out, zeros_length]
  have e1 : endN (-1) 600 = 600 := by unfold endN; rw [if_neg (by omega)]
  have e2 : endE (-1) 600 = 4 := by unfold endE; rw [if_neg (by omega)]
  have ez : Z.take 600 = Z := List.take_of_length_le (by rw [ZL.out]; exact Nat.le_refl _)
  refine (new_any (some ⟨w.heap.size, 0, none⟩) 600 600 Z none 0 0 [] (-1) w1 H1.out.bytes ZL.out (by decide) (by decide) (.inl rfl) rfl (by decide)).mono ?_; rintro e w2 ⟨s, rfl, s2, b2⟩
  rw [e1, e2, ez] at s2
  have S2 := Lib.hid s2; have B2 := Lib.hid (B1.out.trans (b2.mono B1.out.size))
  clear s2 b2 e1 e2 ez
  go_wp2_with fail
  refine (rdr_new w2 S2.out).mono ?_; rintro e w3 ⟨q, rfl, r3, b3⟩
  have R3 := Lib.hid r3; have B3 := Lib.hid (B2.out.trans (b3.mono B2.out.size))
  clear r3 b3
  go_wp2_with fail
  refine (snk_new none 0 0 [] (-1) w3 (.inl rfl) rfl (by decide)).mono ?_; rintro e w4 ⟨m, rfl, s4, b4⟩
  have R4 := Lib.hid (R3.out.below b4); have S4 := Lib.hid s4; have B4 := Lib.hid (B3.out.trans (b4.mono B3.out.size)); have X4 := Lib.hid b4.size
  clear s4 b4
  go_wp2_with fail
  refine (wtr_new w4 S4.out).mono ?_; rintro e w5 ⟨p, rfl, s5, b5⟩
  have R5 := Lib.hid (R4.out.below b5); have B5 := Lib.hid (B4.out.trans (b5.mono B4.out.size))
  have HS : Hid (∀ k, Grow (fun k => w3.heap.size ≤ k ∧ k < w4.heap.size) w4 w5 k → w3.heap.size ≤ k) := fun k hk => hk.elim (fun h => h.1) (fun h => Nat.le_trans X4.out h.1)
  obtain ⟨S, hS⟩ := named (Grow (fun k => w3.heap.size ≤ k ∧ k < w4.heap.size) w4 w5)
  rw [← hS.out] at s5 HS
  have S5 := Lib.hid s5
  clear s5 b5
  go_wp2_with fail
  refine (rdr_next w5 R5.out (.inr rfl)).mono ?_; rintro e w6 ⟨b6, c6, rfl, l6, i6, x6, r6, u6⟩
  obtain ⟨g1, g2, g3⟩ := nx_go (E := 4) (Z := Z) (o := 0) (by rw [ZL.out]; decide)
  have gl : (nxB Z 0 0).length = 512 := by rw [g1, List.length_take, List.length_drop, ZL.out]; rfl
  rw [g2, g3] at r6
  rw [g2, gl]
  have R6 := Lib.hid r6
  have S6 := Lib.hid (S5.out.only (T := fun k => w2.heap.size ≤ w2.heap.size ∧ k < w3.heap.size) ⟨u6.os, u6.tape, u6.output, u6.size, fun k hk hj => u6.block k hk (.inr (by simp at hj; exact hj))⟩ (fun k hk h => by have := HS.out k hk; omega))
  have B6 := Lib.hid (B5.out.trans (u6.below (B := w.heap.size) B1.out.size B5.out.size))
  clear g1 g2 g3 gl l6 i6 x6 r6 u6
  go_wp2_with fail
  refine (rdr_next w6 R6.out (.inr rfl)).mono ?_; rintro e w7 ⟨b7, c7, rfl, l7, i7, x7, r7, u7⟩
  obtain ⟨g1, g2, g3⟩ := nx_stop (E := 4) (Z := Z) (o := 0 + 512) (by rw [ZL.out]; decide)
  rw [if_pos ⟨rfl, by rw [ZL.out]; decide⟩] at g2
  rw [g2]
  have S7 := Lib.hid (S6.out.only (T := fun k => w2.heap.size ≤ w2.heap.size ∧ k < w3.heap.size) ⟨u7.os, u7.tape, u7.output, u7.size, fun k hk hj => u7.block k hk (.inr (by simp at hj; exact hj))⟩ (fun k hk h => by have := HS.out k hk; omega))
  have B7 := Lib.hid (B6.out.trans (u7.below (B := w.heap.size) B1.out.size B6.out.size))
  clear g1 g2 g3 l7 i7 x7 r7 u7
  go_wp2_with fail
  obtain ⟨w8, h8⟩ := named (w7.alloc (.cells #[.int .u8 97, .int .u8 98, .int .u8 99] 5 (3, 4)))
  rw [← h8.out]
  have b8 : Below w7.heap.size w7 w8 := by rw [h8.out]; exact (Below.refl _ _).alloc (Nat.le_refl _) _
  have x8 : BytesIn w8 (some ⟨w7.heap.size, 0, none⟩) [97, 98, 99] := by rw [h8.out]; exact u8row' [97, 98, 99] (heap_alloc_new w7 _) (by unfold Bytes; decide)
  have hlt := S7.out.lt.1
  refine (wtr_write _ 3 3 [97, 98, 99] w8 (S7.out.below b8) x8 rfl (by decide) (by decide) (by decide) (fun x hx => .inr (by cases hx; intro h; have := hlt _ h; simp at this))).mono ?_; rintro e w9 ⟨rfl, s9, o9⟩
  obtain ⟨k1, k2⟩ := ww_neg (F := -1) (by decide) ([] : List Int).length 3
  rw [k1, k2] at s9
  rw [k2]
  have S9 := Lib.hid s9
  have B9 := Lib.hid ((B7.out.trans (b8.mono B7.out.size)).trans (o9.below (B := w.heap.size) (fun k hk => by have := HS.out k hk; have := B3.out.size; omega) (Nat.le_trans B7.out.size b8.size)))
  have HL9 : Hid (∀ k, Grow S w8 w9 k → w.heap.size ≤ k) := fun k hk => hk.elim (fun h => by have := HS.out k h; have := B3.out.size; omega) (fun h => Nat.le_trans (Nat.le_trans B7.out.size b8.size) h.1)
  clear kc h8 b8 x8 hlt k1 k2 s9 o9
  go_wp2_with fail
  refine (wtr_pad w9 S9.out (by decide) (by decide)).mono ?_; rintro e w10 ⟨rfl, s10, o10⟩
  have hp : padN (0 + 3) = 509 := by decide
  rw [hp] at s10
  rw [hp]
  obtain ⟨k1, k2⟩ := ww_neg (F := -1) (by decide) (([] : List Int) ++ [97, 98, 99].take 3).length 509
  rw [k1, k2] at s10
  rw [k2]
  have S10 := Lib.hid s10
  have B10 := Lib.hid (B9.out.trans (o10.below (B := w.heap.size) HL9.out B9.out.size))
  clear hp k1 k2 s10 o10
  go_wp2_with fail
  refine (wtr_off w10 S10.out).mono ?_; rintro e w11 ⟨rfl, rfl⟩
  go_wp2_with fail
  go_ret
  exact ⟨rfl, B10.out⟩
end Go.Proofs.Ytjipmiiohijfoaa
