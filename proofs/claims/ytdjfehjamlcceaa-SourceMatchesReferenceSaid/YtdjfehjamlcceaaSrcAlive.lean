/-
  Layer 4: the walk of the statements' own 'alive'.
-/
import Derived.Test.YtdjfehjamlcceaaSrcRead
import Derived.Lib.SlBytesConst
namespace Go.Proofs.Ytdjfehjamlcceaa
open Go.RowKit

theorem Src.size {w : World} {lo hi s : Nat} {zs cs : List Int} {E : Int} {o r : Nat} (h : Src w lo hi s zs E cs o r) : hi ≤ w.heap.size ∧ lo ≤ s ∧ s < hi := by
  obtain ⟨_, _, _, _, _, _, _, _, _, _, _, h7, _⟩ := h; exact ⟨h7.2.2.2.2.2, h7.1, h7.2.1⟩
theorem cells_row {w : World} {g : Nat} {T : TypeId} {k : IntKind} {zs : List Int} (h : ObjAt w g T (zs.map (.int k))) : InK k w (some ⟨g, 0, none⟩) zs := by
  refine .inr ⟨g, 0, rfl, h.lt, fun i hi => ?_⟩
  rw [Nat.zero_add, h.cell, List.getElem?_map, List.getElem?_eq_getElem hi, List.getD_eq_getElem?_getD, List.getElem?_eq_getElem hi]
  rfl
theorem own_bytes {w : World} {base n : Nat} {e : TypeId} {v : Value} {zs : List Int} (h : w.ownsRow base e 1 v n (zs.map (.int .u8))) (hz : Bytes zs) : ∃ b cap, v = .slice b n cap ∧ BytesIn w b zs ∧ ∀ x, b = some x → base ≤ x.block := by
  obtain ⟨b, cap, rfl, h1, _, _, h4, h5⟩ := own_any h
  exact ⟨b, cap, rfl, h1.bytes hz, fun x hx => (h5 x hx).1⟩

set_option maxHeartbeats 4000000 in
theorem alive_any (w : World) : Calls Try.prog 10 #[] w fun e w' => e = .returned (.bool true) ∧ Below w.heap.size w w' := by
  have kc := fun (w : World) (C : Array Value) (n c : Nat) => Lib.run_convert_bytes_const (P := Try.prog) w 22 5 C n c Try.underlying22 Try.underlying5
  go_enter Try.func10, Try.ntmps10
  go_wp2_with fail
  obtain ⟨w0, h0⟩ := named ((w.alloc (.cells #[.int .u8 97, .int .u8 98, .int .u8 99] 5 (3, 4))).alloc (.cells #[.int .i64 2, .int .i64 1] 3))
  rw [← h0.out]
  have B0 : Hid (Below w.heap.size w w0) := by
    show Below _ _ _
    rw [h0.out]
    exact ((Below.refl _ _).alloc (Nat.le_refl _) _).alloc (by simp) _
  have X0 : Hid (BytesIn w0 (some ⟨w.heap.size, 0, none⟩) [97, 98, 99]) := by
    show BytesIn _ _ _
    rw [h0.out]
    refine .inr ⟨w.heap.size, 0, rfl, by simp; omega, fun i hi => ?_, by decide⟩
    rw [Nat.zero_add, World.cell?_of_block (w := w.alloc _) (a := ⟨w.heap.size, i, none⟩) (Below.heap_alloc _ _ _ (by simp)), cell_of_row _ _ _ _ _ _ (heap_alloc_new w _)]
    match i, hi with
    | 0, _ => rfl
    | 1, _ => rfl
    | 2, _ => rfl
  have Y0 : Hid (InK .i64 w0 (some ⟨w.heap.size + 1, 0, none⟩) [2, 1]) := by
    show InK _ _ _ _
    rw [h0.out]
    refine .inr ⟨w.heap.size + 1, 0, rfl, by simp, fun i hi => ?_⟩
    have hh := heap_alloc_new (w.alloc (.cells #[.int .u8 97, .int .u8 98, .int .u8 99] 5 (3, 4))) (.cells #[.int .i64 2, .int .i64 1] 3)
    have hz : (w.alloc (.cells #[.int .u8 97, .int .u8 98, .int .u8 99] 5 (3, 4))).heap.size = w.heap.size + 1 := by simp
    rw [hz] at hh
    rw [Nat.zero_add, cell_of_row _ _ _ _ _ _ hh]
    match i, hi with
    | 0, _ => rfl
    | 1, _ => rfl
  clear kc h0
  refine (new_any _ 3 3 [97, 98, 99] _ 2 2 [2, 1] (-1) w0 X0.out rfl (by decide) (by decide) Y0.out rfl (by decide)).mono ?_; rintro e w1 ⟨s, rfl, s1, b1⟩
  have e1 : ([97, 98, 99] : List Int).take (endN (-1) 3) = [97, 98, 99] := by decide
  have e2 : endE (-1) 3 = 4 := by decide
  rw [e1, e2] at s1
  have S1 := Lib.hid s1; have B1 := Lib.hid b1
  clear s1 b1 e1 e2
  go_wp2_with fail
  refine (read_any 9 w1 S1.out).mono ?_; rintro e w2 ⟨v2, rfl, o2, s2, u2⟩
  have e1 : readE [97, 98, 99] 4 0 9 = 0 := by decide
  have e2 : readB [97, 98, 99] [2, 1] 0 0 9 = [97, 98] := by decide
  have e3 : readO [97, 98, 99] [2, 1] 0 0 9 = 2 := by decide
  have e4 : readR [97, 98, 99] 0 0 9 = 1 := by decide
  rw [e2] at o2; rw [e3, e4] at s2
  rw [e1]
  obtain ⟨a2, c2, rfl, x2, p2⟩ := own_bytes o2 (by unfold Bytes; decide)
  have S2 := Lib.hid s2; have U2 := Lib.hid u2; have X2 := Lib.hid x2; have P2 := Lib.hid p2
  clear s2 u2 x2 p2 o2 e1 e2 e3 e4
  go_wp2_with fail
  refine (read_any 9 w2 S2.out).mono ?_; rintro e w3 ⟨v3, rfl, o3, s3, u3⟩
  have e1 : readE [97, 98, 99] 4 2 9 = 0 := by decide
  have e2 : readB [97, 98, 99] [2, 1] 2 1 9 = [99] := by decide
  have e3 : readO [97, 98, 99] [2, 1] 2 1 9 = 3 := by decide
  have e4 : readR [97, 98, 99] 2 1 9 = 2 := by decide
  rw [e2] at o3; rw [e3, e4] at s3
  rw [e1]
  obtain ⟨a3, c3, rfl, x3, p3⟩ := own_bytes o3 (by unfold Bytes; decide)
  have S3 := Lib.hid s3; have U3 := Lib.hid u3; have X3 := Lib.hid x3; have P3 := Lib.hid p3
  clear s3 u3 x3 p3 o3 e1 e2 e3 e4
  go_wp2_with fail
  refine (read_any 9 w3 S3.out).mono ?_; rintro e w4 ⟨v4, rfl, o4, s4, u4⟩
  have e1 : readE [97, 98, 99] 4 3 9 = 4 := by decide
  have e2 : readB [97, 98, 99] [2, 1] 3 2 9 = [] := by decide
  rw [e2] at o4
  rw [e1]
  obtain ⟨a4, c4, rfl, _⟩ := own_bytes o4 (by unfold Bytes; decide)
  have U4 := Lib.hid u4
  clear s4 u4 o4 e1 e2
  have z4 : BytesIn w4 a2 [97, 98] := (X2.out.out U3.out (fun x hx => .inr (P2.out x hx))).out U4.out (fun x hx => .inr (P2.out x hx))
  have y4 : BytesIn w4 a3 [99] := X3.out.out U4.out (fun x hx => .inr (Nat.le_trans U2.out.size (P3.out x hx)))
  have k1 := run_str_in (P := Try.prog) Try.underlying22 Try.underlying5 Try.underlying9 z4 2 c2 rfl
  have k2 := run_str_in (P := Try.prog) Try.underlying22 Try.underlying5 Try.underlying9 y4 1 c3 rfl
  have q1 : strOfNums [97, 98] = { data := #[97, 98] } := by decide
  have q2 : strOfNums [99] = { data := #[99] } := by decide
  rw [q1] at k1; rw [q2] at k2
  clear z4 y4 q1 q2
  go_wp2
  go_ret
  refine ⟨rfl, ?_⟩
  have hz := B0.out.size; have hz1 := B1.out.size; have hz2 := U2.out.size; have hz3 := U3.out.size
  have hc : w.heap.size ≤ w0.heap.size := hz
  exact (((B0.out.trans (B1.out.mono hc)).trans (U2.out.below hc (by omega))).trans (U3.out.below hc (by omega))).trans (U4.out.below hc (by omega))
end Go.Proofs.Ytdjfehjamlcceaa
