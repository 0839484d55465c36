/-
  Layer 5: the walk of the statements' own 'alive'.
-/
import Derived.Test.YtodohdhbnihdbaaSnkAll
import Derived.Test.YtodohdhbnihdbaaSnkNew
import Derived.Lib.SlBytesConst
namespace Go.Proofs.Ytodohdhbnihdbaa
open Go.RowKit

theorem u8row {w : World} {g : Nat} {T : TypeId} {p : Nat × Nat} (zs : List Int) (h : w.heap[g]? = some (.cells (zs.map (Value.int .u8)).toArray T p)) (hb : Bytes zs) : BytesIn w (some ⟨g, 0, none⟩) zs := by
  refine .inr ⟨g, 0, rfl, ?_, fun i hi => ?_, hb⟩
  · rcases Nat.lt_or_ge g w.heap.size with hl | hl
    · exact hl
    · rw [Array.getElem?_eq_none hl] at h; cases h
  · rw [Nat.zero_add, cell_of_row _ _ _ _ _ _ h]
    rw [List.getElem?_toArray, List.getElem?_map, List.getElem?_eq_getElem hi, List.getD_eq_getElem?_getD, List.getElem?_eq_getElem hi]
    rfl

set_option maxHeartbeats 4000000 in
theorem alive_any (w : World) : Calls Try.prog 13 #[] w fun e w' => e = .returned (.bool true) ∧ Below w.heap.size w w' := by
  have kc := fun (w : World) (C : Array Value) (n c : Nat) => Lib.run_convert_bytes_const (P := Try.prog) w 31 5 C n c Try.underlying31 Try.underlying5
  go_enter Try.func13, Try.ntmps13
  go_wp2_with fail
  obtain ⟨w0, h0⟩ := named (w.alloc (.cells #[.int .i64 2] 3))
  rw [← h0.out]
  have B0 : Hid (Below w.heap.size w w0) := by show Below _ _ _; rw [h0.out]; exact (Below.refl _ _).alloc (Nat.le_refl _) _
  have Y0 : Hid (InK .i64 w0 (some ⟨w.heap.size, 0, none⟩) [2]) := by
    show InK _ _ _ _
    rw [h0.out]
    exact cells_row (T := 3) (heap_alloc_new w _)
  clear h0
  refine (snk_new _ 1 1 [2] (-1) w0 Y0.out rfl (by decide)).mono ?_; rintro e w1 ⟨m, rfl, s1, b1⟩
  have S1 := Lib.hid s1; have B1 := Lib.hid b1
  clear s1 b1
  go_wp2_with fail
  refine (snk_new none 0 0 [] 3 w1 (.inl rfl) rfl (by decide)).mono ?_; rintro e w2 ⟨m', rfl, s2, b2⟩
  have S2 := Lib.hid s2; have B2 := Lib.hid b2
  clear s2 b2
  go_wp2_with fail
  obtain ⟨w3, h3⟩ := named (w2.alloc (.cells #[.int .u8 97, .int .u8 98, .int .u8 99] 5 (3, 4)))
  rw [← h3.out]
  have B3 : Hid (Below w2.heap.size w2 w3) := by show Below _ _ _; rw [h3.out]; exact (Below.refl _ _).alloc (Nat.le_refl _) _
  have X3 : Hid (BytesIn w3 (some ⟨w2.heap.size, 0, none⟩) [97, 98, 99]) := by
    show BytesIn _ _ _
    rw [h3.out]
    exact u8row [97, 98, 99] (heap_alloc_new w2 _) (by unfold Bytes; decide)
  clear h3
  have P3 := Lib.hid ((S1.out.below B2.out).below B3.out)
  have Q3 := Lib.hid (S2.out.below B3.out)
  refine (snk_write _ 3 3 [97, 98, 99] w3 P3.out X3.out rfl (by decide) (by simp) (by decide)).mono ?_; rintro e w4 ⟨rfl, s4, o4⟩
  have e1 : wrK [2] (-1) ([] : List Int).length 0 3 = 2 := by decide
  have e2 : wrE (-1) ([] : List Int).length 3 = 0 := by decide
  rw [e1, e2]
  clear e1 e2
  have Q4 := Lib.hid (Q3.out.only o4 (fun k h1 h2 => by omega))
  have B4 := Lib.hid (o4.below (B := w0.heap.size) (fun k hk => hk.1) (Nat.le_trans B1.out.size (Nat.le_trans B2.out.size B3.out.size)))
  have Z4 := Lib.hid o4.size
  clear s4 o4
  go_wp2_with fail
  obtain ⟨w5, h5⟩ := named (w4.alloc (.cells #[.int .u8 97, .int .u8 98, .int .u8 99, .int .u8 100, .int .u8 101] 5 (5, 6)))
  rw [← h5.out]
  have B5 : Hid (Below w4.heap.size w4 w5) := by show Below _ _ _; rw [h5.out]; exact (Below.refl _ _).alloc (Nat.le_refl _) _
  have X5 : Hid (BytesIn w5 (some ⟨w4.heap.size, 0, none⟩) [97, 98, 99, 100, 101]) := by
    show BytesIn _ _ _
    rw [h5.out]
    exact u8row [97, 98, 99, 100, 101] (heap_alloc_new w4 _) (by unfold Bytes; decide)
  clear h5 kc
  have Q5 := Lib.hid (Q4.out.below B5.out)
  have z2 := B2.out.size; have z3 := B3.out.size; have z4 := B4.out.size; have z1 := B1.out.size; have z0 := B0.out.size; have z4' := Z4.out
  refine (snk_all _ 5 5 [97, 98, 99, 100, 101] w5 Q5.out X5.out rfl (by decide) (by simp) (by decide) (fun x hx => by cases hx; right; simp; omega)).mono ?_; rintro e w6 ⟨rfl, s6, o6⟩
  have e1 : allE 3 ([] : List Int).length 5 = 11 := by decide
  have e2 : ([] : List Int) ++ [97, 98, 99, 100, 101].take (allK 3 ([] : List Int).length 5) = [97, 98, 99] := by decide
  rw [e2] at s6
  rw [e1]
  have S6 := Lib.hid s6
  have B6 := Lib.hid (o6.below (B := w0.heap.size) (fun k hk => by omega) (by have := B5.out.size; omega))
  clear e1 e2 s6 o6
  go_wp2_with fail
  refine (sbytes_any w6 S6.out).mono ?_; rintro e w7 ⟨v7, rfl, o7, b7⟩
  obtain ⟨a7, c7, rfl, x7, _⟩ := own_bytes o7 (by unfold Bytes; decide)
  have B7 := Lib.hid b7
  have q1 : strOfNums [97, 98, 99] = { data := #[97, 98, 99] } := by decide
  have k1 := run_str_in (P := Try.prog) Try.underlying31 Try.underlying5 Try.underlying9 x7 3 c7 rfl
  rw [q1] at k1
  clear q1 x7 b7 o7
  go_wp2
  go_ret
  have z5 := B5.out.size; have z6 := B6.out.size
  exact ⟨rfl, (((((B0.out.trans (B1.out.mono z0)).trans (B2.out.mono (by omega))).trans (B3.out.mono (by omega))).trans (B4.out.mono z0)).trans (B5.out.mono (by omega))).trans (B6.out.mono z0) |>.trans (B7.out.mono (by omega))⟩
end Go.Proofs.Ytodohdhbnihdbaa
