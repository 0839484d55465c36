/-
  Layer 11: the walk of the statements' own 'alive'.
-/
import Derived.Test.YtnnengigahakaaaPaySmall
import Derived.Test.YtnnengigahakaaaPayWrite
import Derived.Test.YtnnengigahakaaaSnkNew
namespace Go.Proofs.Ytnnengigahakaaa
open Go.RowKit

theorem allK_neg {F : Int} (hF : F < 0) (L n : Nat) : allK F L n = n ∧ allE F L n = 0 := by
  unfold allK allE; rw [if_neg (by omega), if_neg (by omega)]; exact ⟨rfl, rfl⟩
theorem ww_neg {F : Int} (hF : F < 0) (L n : Nat) : wwK F L n 0 = n ∧ wwE F L n 0 = 0 := by
  unfold wwK wwE; rw [if_pos rfl, if_pos rfl]; exact allK_neg hF L n

/-- 'make([]byte, n)' where a guard holds it: the run itself -/
theorem run_make_arr {P : Program} (w : World) (t e : TypeId) (ht : P.underlying t = some (.slice e)) (i0 : TypeInfo) (hI : Hid (P.info? e = some i0 ∧ i0.zero = some (.int .u8 0) ∧ i0.size = 1 ∧ i0.bytes = 1)) (n : Nat) (hn : n ≤ 140737488355328) :
    ∃ w', (Instr.makeSlice t (.int .i64 n) (.int .i64 n)).run P w = .ok (.slice (some ⟨w.heap.size, 0, none⟩) n n) w' ∧ ArrAt w' w.heap.size e (zeros n) ∧ Below w.heap.size w w' := by
  obtain ⟨w', hr, h1, h2⟩ := run_make_full (P := P) w w.heap.size t e i0 (.int .u8 0) 1 ht hI.out.1 hI.out.2.1 hI.out.2.2.1 .i64 .i64 n (by rw [hI.out.2.2.2]; omega) (by unfold maxLen; omega) (Nat.le_refl _)
  have hm : (madeCells (Value.int .u8 0).cells (n * 1)).toList = (zeros n).map (.int .u8) := by
    apply List.ext_getElem?
    intro i
    by_cases h : i < n <;> simp [zeros, madeCells, Value.cells, h, Nat.mod_one]
  rw [hm] at h1
  exact ⟨w', hr, .of_own h1 (zeros_bytes n), (Below.refl _ _).grown h2 (Nat.le_refl _) (fun _ h => by cases h)⟩

set_option maxRecDepth 100000 in
set_option maxHeartbeats 4000000 in
theorem alive_any (w : World) : Calls Try.prog 8 #[] w fun e w' => e = .returned (.bool true) ∧ Below w.heap.size w w' := by
  obtain ⟨i0, HI⟩ := info_u8 (P := Try.prog) (e := 5) (by kernel_rfl)
  go_enter Try.func8, Try.ntmps8
  go_wp2_with fail
  refine (snk_new none 0 0 [] (-1) w (.inl rfl) rfl (by decide)).mono ?_; rintro e w1 ⟨m, rfl, s1, b1⟩
  have S1 := Lib.hid s1; have B1 := Lib.hid b1
  clear s1 b1
  go_wp2_with fail
  refine (wtr_new w1 S1.out).mono ?_; rintro e w2 ⟨q, rfl, s2, b2⟩
  have HS2 : Hid (∀ k, Grow (fun k => w.heap.size ≤ k ∧ k < w1.heap.size) w1 w2 k → w.heap.size ≤ k) := fun k hk => hk.elim (fun h => h.1) (fun h => Nat.le_trans B1.out.size h.1)
  obtain ⟨S, hS⟩ := named (Grow (fun k => w.heap.size ≤ k ∧ k < w1.heap.size) w1 w2)
  rw [← hS.out] at s2 HS2
  have W2 := Lib.hid s2; have B2 := Lib.hid (B1.out.trans (b2.mono B1.out.size))
  clear s2 b2 S1
  go_wp2_with fail
  refine (blocks_any 513 (by decide) w2).mono ?_; rintro e w3 ⟨rfl, rfl⟩
  have e2 : ((blkN (513 : Int).toNat : Nat) : Int) = 2 := by decide
  rw [e2]
  clear e2
  go_wp2_with fail
  obtain ⟨w3, hr, h3, b3⟩ := run_make_arr (P := Try.prog) w2 22 5 Try.underlying22 i0 HI 513 (by decide)
  have hr' : (Instr.makeSlice 22 (Value.int .i64 513) (Value.int .i64 513)).run Try.prog w2 = .ok (.slice (some ⟨w2.heap.size, 0, none⟩) 513 513) w3 := hr
  rw [hr']
  simp only [Result.andThen]
  rw [Oper.upon_value]
  have H3 := Lib.hid h3; have B3 := Lib.hid b3
  clear h3 b3 hr hr'
  go_wp2_with fail
  obtain ⟨Z, hZ⟩ := named (zeros 513)
  rw [← hZ.out] at H3
  have ZL : Hid (Z.length = 513) := by show _ = _; rw [hZ.out, zeros_length]
  have hlt := W2.out.lt.1
  refine (pwrite_any (some ⟨w2.heap.size, 0, none⟩) 513 513 Z w3 (W2.out.below B3.out) H3.out.bytes ZL.out (by decide) (by decide) (by decide) (fun x hx => .inr (by cases hx; intro h; have := hlt _ h; simp at this)) 511 (by decide)).mono ?_; rintro e w4 ⟨rfl, s4, o4⟩
  obtain ⟨k1, k2⟩ := ww_neg (F := -1) (by decide) ([] : List Int).length (513 + 511)
  rw [k1, k2] at s4
  rw [k2]
  obtain ⟨S', cs', r', hs', _, _⟩ := s4.sink
  have SS := Lib.hid hs'
  have B4 := Lib.hid ((B2.out.trans (B3.out.mono B2.out.size)).trans (o4.below (B := w.heap.size) HS2.out (Nat.le_trans B2.out.size B3.out.size)))
  have EL : Hid (([] ++ (Z ++ zeros 511).take (513 + 511)).length = 1024) := by show _ = _; rw [List.nil_append, List.length_take, List.length_append, ZL.out, zeros_length]; decide
  clear s4 o4 k1 k2 hs' hlt
  go_wp2_with fail
  refine (slen_any w4 SS.out).mono ?_; rintro e w5 ⟨rfl, rfl⟩
  rw [EL.out]
  go_wp2_with fail
  go_ret
  exact ⟨rfl, B4.out⟩
end Go.Proofs.Ytnnengigahakaaa
