/-
  A struct of a byte, three strings and two integers that came in by value, opened. Nothing of the program.
-/
import Derived.Test.YtbbaleambgaanaaGreatDoorArrArg
import Derived.ChangeSame
import Derived.Deep.Strs
namespace Go.Proofs.YtbbaleambgaanaaGreatDoor
open Go.RowKit Go.ChangeShapes

theorem open_hdr {H : Type} {enc : TypeId × Value → H} {P : Program} {w : World} {base : Nat} {held : Bool} {t : TypeId} {f0 f1 f2 f3 f4 f5 : Field} {k k4 k5 : IntKind} {cs : Array Value} {d : DataW H} {p : List MemPlace}
    (ht : P.underlying t = some (.struct #[f0, f1, f2, f3, f4, f5])) (h0 : P.underlying f0.type = some (.int k)) (h1 : P.underlying f1.type = some .string) (h2 : P.underlying f2.type = some .string) (h3 : P.underlying f3.type = some .string) (h4 : P.underlying f4.type = some (.int k4)) (h5 : P.underlying f5.type = some (.int k5))
    (hs : (P.cellsOf t, f0.offset, P.cellsOf f0.type, f1.offset, P.cellsOf f1.type, f2.offset, P.cellsOf f2.type, f3.offset, P.cellsOf f3.type, f4.offset, P.cellsOf f4.type, f5.offset, P.cellsOf f5.type) = (6, 0, 1, 1, 1, 2, 1, 3, 1, 4, 1, 5, 1)) (h : DataW.Trod enc P w base (fun _ => true) held t (.agg cs) d p) :
    ∃ (T : Int) (s1 s2 s3 : ByteArray) (m n : Int), cs = #[.int k T, .string s1, .string s2, .string s3, .int k4 m, .int k5 n] ∧ (Lit.int k T).wf = true ∧ s1.size ≤ maxLen ∧ s2.size ≤ maxLen ∧ s3.size ≤ maxLen ∧ (Lit.int k4 m).wf = true ∧ (Lit.int k5 n).wf = true := by
  simp only [Prod.mk.injEq] at hs
  obtain ⟨s, o0, c0, o1, c1, o2, c2, o3, c3, o4, c4, o5, c5⟩ := hs
  obtain ⟨fuel, hf⟩ := h
  obtain ⟨xs, n, _, _, hl, hlen, hx⟩ := DataW.trod_struct ht hf
  match xs, hlen with
  | [y0, y1, y2, y3, y4, y5], _ =>
  simp only [Value.cells] at hl
  rw [s] at hl
  obtain ⟨l⟩ := cs
  match l, hl with
  | [v0, v1, v2, v3, v4, v5], _ =>
  have g0 := hx 0 f0 rfl
  have g1 := hx 1 f1 rfl
  have g2 := hx 2 f2 rfl
  have g3 := hx 3 f3 rfl
  have g4 := hx 4 f4 rfl
  have g5 := hx 5 f5 rfl
  rw [o0, c0] at g0; rw [o1, c1] at g1; rw [o2, c2] at g2; rw [o3, c3] at g3; rw [o4, c4] at g4; rw [o5, c5] at g5
  simp [Value.cells] at g0 g1 g2 g3 g4 g5
  obtain ⟨T, e0, _, w0⟩ := DataW.trod_int h0 g0
  obtain ⟨s1, e1, _, w1⟩ := DataW.trod_string h1 g1
  obtain ⟨s2, e2, _, w2⟩ := DataW.trod_string h2 g2
  obtain ⟨s3, e3, _, w3⟩ := DataW.trod_string h3 g3
  obtain ⟨m, e4, _, w4⟩ := DataW.trod_int h4 g4
  obtain ⟨q, e5, _, w5⟩ := DataW.trod_int h5 g5
  simp at e0 e1 e2 e3 e4 e5
  subst e0; subst e1; subst e2; subst e3; subst e4; subst e5
  exact ⟨T, s1, s2, s3, m, q, rfl, w0, w1, w2, w3, w4, w5⟩
end Go.Proofs.YtbbaleambgaanaaGreatDoor
/-
  Structs that came in by value, opened: an integer, a string, an integer, a string, an integer; and, with what the reach says of their strings, a header and a record. Nothing of the program.
-/
namespace Go.Proofs.YtbbaleambgaanaaGreatDoor
open Go.RowKit Go.ChangeShapes Go.Deep

theorem open_ent {H : Type} {enc : TypeId × Value → H} {P : Program} {w : World} {base : Nat} {held : Bool} {t : TypeId} {f0 f1 f2 f3 f4 : Field} {k k2 k4 : IntKind} {cs : Array Value} {d : DataW H} {p : List MemPlace}
    (ht : P.underlying t = some (.struct #[f0, f1, f2, f3, f4])) (h0 : P.underlying f0.type = some (.int k)) (h1 : P.underlying f1.type = some .string) (h2 : P.underlying f2.type = some (.int k2)) (h3 : P.underlying f3.type = some .string) (h4 : P.underlying f4.type = some (.int k4))
    (hs : (P.cellsOf t, f0.offset, P.cellsOf f0.type, f1.offset, P.cellsOf f1.type, f2.offset, P.cellsOf f2.type, f3.offset, P.cellsOf f3.type, f4.offset, P.cellsOf f4.type) = (5, 0, 1, 1, 1, 2, 1, 3, 1, 4, 1)) (h : DataW.Trod enc P w base (fun _ => true) held t (.agg cs) d p) :
    ∃ (a : Int) (s1 : ByteArray) (b : Int) (s3 : ByteArray) (c : Int), cs = #[.int k a, .string s1, .int k2 b, .string s3, .int k4 c] ∧ (Lit.int k a).wf = true ∧ s1.size ≤ maxLen ∧ (Lit.int k2 b).wf = true ∧ s3.size ≤ maxLen ∧ (Lit.int k4 c).wf = true := by
  simp only [Prod.mk.injEq] at hs
  obtain ⟨s, o0, c0, o1, c1, o2, c2, o3, c3, o4, c4⟩ := hs
  obtain ⟨fuel, hf⟩ := h
  obtain ⟨xs, n, _, _, hl, hlen, hx⟩ := DataW.trod_struct ht hf
  match xs, hlen with
  | [y0, y1, y2, y3, y4], _ =>
  simp only [Value.cells] at hl
  rw [s] at hl
  obtain ⟨l⟩ := cs
  match l, hl with
  | [v0, v1, v2, v3, v4], _ =>
  have g0 := hx 0 f0 rfl
  have g1 := hx 1 f1 rfl
  have g2 := hx 2 f2 rfl
  have g3 := hx 3 f3 rfl
  have g4 := hx 4 f4 rfl
  rw [o0, c0] at g0; rw [o1, c1] at g1; rw [o2, c2] at g2; rw [o3, c3] at g3; rw [o4, c4] at g4
  simp [Value.cells] at g0 g1 g2 g3 g4
  obtain ⟨a, e0, _, w0⟩ := DataW.trod_int h0 g0
  obtain ⟨s1, e1, _, w1⟩ := DataW.trod_string h1 g1
  obtain ⟨b, e2, _, w2⟩ := DataW.trod_int h2 g2
  obtain ⟨s3, e3, _, w3⟩ := DataW.trod_string h3 g3
  obtain ⟨c, e4, _, w4⟩ := DataW.trod_int h4 g4
  simp at e0 e1 e2 e3 e4
  subst e0; subst e1; subst e2; subst e3; subst e4
  exact ⟨a, s1, b, s3, c, rfl, w0, w1, w2, w3, w4⟩

theorem open_recS {H : Type} {enc : TypeId × Value → H} {P : Program} {w : World} {base : Nat} {held : Bool} {t : TypeId} {f0 f1 : Field} {cs : Array Value} {d : DataW H} {p : List MemPlace}
    (ht : P.underlying t = some (.struct #[f0, f1])) (h0 : P.underlying f0.type = some .string) (h1 : P.underlying f1.type = some .string)
    (hs : (P.cellsOf t, f0.offset, P.cellsOf f0.type, f1.offset, P.cellsOf f1.type) = (2, 0, 1, 1, 1)) (h : DataW.Trod enc P w base (fun _ => true) held t (.agg cs) d p) (hw : ∀ n ∈ d.weights P t, n ≤ reachBytes) :
    ∃ (s0 s1 : ByteArray), cs = #[.string s0, .string s1] ∧ s0.size ≤ 140737488355328 ∧ s1.size ≤ 140737488355328 := by
  simp only [Prod.mk.injEq] at hs
  obtain ⟨s, o0, c0, o1, c1⟩ := hs
  obtain ⟨fuel, hf⟩ := h
  obtain ⟨xs, n, _, hxe, hl, hlen, hx⟩ := DataW.trod_struct ht hf
  have hreach := reachBytes_lt
  match xs, hlen with
  | [y0, y1], _ =>
  simp only [Value.cells] at hl
  rw [s] at hl
  obtain ⟨l⟩ := cs
  match l, hl with
  | [v0, v1], _ =>
  have g0 := hx 0 f0 rfl
  have g1 := hx 1 f1 rfl
  rw [o0, c0] at g0; rw [o1, c1] at g1
  simp [Value.cells] at g0 g1
  obtain ⟨s0, e0, x0, w0⟩ := DataW.trod_string h0 g0
  obtain ⟨s1, e1, x1, w1⟩ := DataW.trod_string h1 g1
  simp at e0 e1
  subst e0; subst e1
  simp only [Prod.mk.injEq] at hxe
  have hD : d = .agg [.lit (.string s0.data.toList), .lit (.string s1.data.toList)] := by rw [hxe.1, x0, x1]; rfl
  have b0 := hw s0.data.toList.length (by rw [hD]; simp [DataW.weights, DataW.weightsEach, ht])
  have b1 := hw s1.data.toList.length (by rw [hD]; simp [DataW.weights, DataW.weightsEach, ht])
  rw [← Lib.size_eq] at b0 b1
  exact ⟨s0, s1, rfl, by omega, by omega⟩

theorem open_hdrS {H : Type} {enc : TypeId × Value → H} {P : Program} {w : World} {base : Nat} {held : Bool} {t : TypeId} {f0 f1 f2 f3 f4 f5 : Field} {k k4 k5 : IntKind} {cs : Array Value} {d : DataW H} {p : List MemPlace}
    (ht : P.underlying t = some (.struct #[f0, f1, f2, f3, f4, f5])) (h0 : P.underlying f0.type = some (.int k)) (h1 : P.underlying f1.type = some .string) (h2 : P.underlying f2.type = some .string) (h3 : P.underlying f3.type = some .string) (h4 : P.underlying f4.type = some (.int k4)) (h5 : P.underlying f5.type = some (.int k5))
    (hs : (P.cellsOf t, f0.offset, P.cellsOf f0.type, f1.offset, P.cellsOf f1.type, f2.offset, P.cellsOf f2.type, f3.offset, P.cellsOf f3.type, f4.offset, P.cellsOf f4.type, f5.offset, P.cellsOf f5.type) = (6, 0, 1, 1, 1, 2, 1, 3, 1, 4, 1, 5, 1)) (h : DataW.Trod enc P w base (fun _ => true) held t (.agg cs) d p) (hw : ∀ n ∈ d.weights P t, n ≤ reachBytes) :
    ∃ (T : Int) (s1 s2 s3 : ByteArray) (m n : Int), cs = #[.int k T, .string s1, .string s2, .string s3, .int k4 m, .int k5 n] ∧ (Lit.int k T).wf = true ∧ s1.size ≤ 140737488355328 ∧ s2.size ≤ 140737488355328 ∧ s3.size ≤ 140737488355328 ∧ (Lit.int k4 m).wf = true ∧ (Lit.int k5 n).wf = true := by
  simp only [Prod.mk.injEq] at hs
  obtain ⟨s, o0, c0, o1, c1, o2, c2, o3, c3, o4, c4, o5, c5⟩ := hs
  obtain ⟨fuel, hf⟩ := h
  obtain ⟨xs, n, _, hxe, hl, hlen, hx⟩ := DataW.trod_struct ht hf
  have hreach := reachBytes_lt
  match xs, hlen with
  | [y0, y1, y2, y3, y4, y5], _ =>
  simp only [Value.cells] at hl
  rw [s] at hl
  obtain ⟨l⟩ := cs
  match l, hl with
  | [v0, v1, v2, v3, v4, v5], _ =>
  have g0 := hx 0 f0 rfl
  have g1 := hx 1 f1 rfl
  have g2 := hx 2 f2 rfl
  have g3 := hx 3 f3 rfl
  have g4 := hx 4 f4 rfl
  have g5 := hx 5 f5 rfl
  rw [o0, c0] at g0; rw [o1, c1] at g1; rw [o2, c2] at g2; rw [o3, c3] at g3; rw [o4, c4] at g4; rw [o5, c5] at g5
  simp [Value.cells] at g0 g1 g2 g3 g4 g5
  obtain ⟨T, e0, x0, w0⟩ := DataW.trod_int h0 g0
  obtain ⟨s1, e1, x1, w1⟩ := DataW.trod_string h1 g1
  obtain ⟨s2, e2, x2, w2⟩ := DataW.trod_string h2 g2
  obtain ⟨s3, e3, x3, w3⟩ := DataW.trod_string h3 g3
  obtain ⟨m, e4, x4, w4⟩ := DataW.trod_int h4 g4
  obtain ⟨q, e5, x5, w5⟩ := DataW.trod_int h5 g5
  simp at e0 e1 e2 e3 e4 e5
  subst e0; subst e1; subst e2; subst e3; subst e4; subst e5
  simp only [Prod.mk.injEq] at hxe
  have hD : d = .agg [.lit (.int k T), .lit (.string s1.data.toList), .lit (.string s2.data.toList), .lit (.string s3.data.toList), .lit (.int k4 m), .lit (.int k5 q)] := by rw [hxe.1, x0, x1, x2, x3, x4, x5]; rfl
  have b1 := hw s1.data.toList.length (by rw [hD]; simp [DataW.weights, DataW.weightsEach, ht])
  have b2 := hw s2.data.toList.length (by rw [hD]; simp [DataW.weights, DataW.weightsEach, ht])
  have b3 := hw s3.data.toList.length (by rw [hD]; simp [DataW.weights, DataW.weightsEach, ht])
  rw [← Lib.size_eq] at b1 b2 b3
  exact ⟨T, s1, s2, s3, m, q, rfl, w0, by omega, by omega, by omega, w4, w5⟩
end Go.Proofs.YtbbaleambgaanaaGreatDoor
