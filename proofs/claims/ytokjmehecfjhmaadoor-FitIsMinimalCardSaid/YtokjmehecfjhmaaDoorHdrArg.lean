/-
  A struct of a byte, three strings and two integers that came in by value, opened. Nothing of the program.
-/
import Derived.Test.YtokjmehecfjhmaaDoorArrArg
import Derived.ChangeSame
namespace Go.Proofs.YtokjmehecfjhmaaDoor
open Go.RowKit Go.ChangeShapes

theorem open_hdr {H : Type} {enc : TypeId × Value → H} {P : Program} {w : World} {base : Nat} {held : Bool} {t : TypeId} {f0 f1 f2 f3 f4 f5 : Field} {k k4 k5 : IntKind} {cs : Array Value} {d : DataW H} {p : List MemPlace}
    (ht : P.underlying t = some (.struct #[f0, f1, f2, f3, f4, f5])) (h0 : P.underlying f0.type = some (.int k)) (h1 : P.underlying f1.type = some .string) (h2 : P.underlying f2.type = some .string) (h3 : P.underlying f3.type = some .string) (h4 : P.underlying f4.type = some (.int k4)) (h5 : P.underlying f5.type = some (.int k5))
    (hs : (P.cellsOf t, f0.offset, P.cellsOf f0.type, f1.offset, P.cellsOf f1.type, f2.offset, P.cellsOf f2.type, f3.offset, P.cellsOf f3.type, f4.offset, P.cellsOf f4.type, f5.offset, P.cellsOf f5.type) = (6, 0, 1, 1, 1, 2, 1, 3, 1, 4, 1, 5, 1)) (h : DataW.Trod enc P w base (fun _ => true) held t (.agg cs) d p) :
    ∃ (T : Int) (s1 s2 s3 : ByteArray) (m n : Int), cs = #[.int k T, .string s1, .string s2, .string s3, .int k4 m, .int k5 n] ∧ (Lit.int k T).wf = true ∧ s1.size ≤ maxLen ∧ s2.size ≤ maxLen ∧ s3.size ≤ maxLen ∧ (Lit.int k4 m).wf = true ∧ (Lit.int k5 n).wf = true := by
  simp only [Prod.mk.injEq] at hs
  obtain ⟨s, o0, c0, o1, c1, o2, c2, o3, c3, o4, c4, o5, c5⟩ := hs
  obtain ⟨fuel, hf⟩ := h
  obtain ⟨xs, n, _, _, hl, hlen, hx⟩ := DataW.trod_struct ht hf
  match xs, hlen with
  | [y0, y1, y2, y3, y4, y5], _ =>
  simp only [Value.cells] at hl
  rw [s] at hl
  obtain ⟨l⟩ := cs
  match l, hl with
  | [v0, v1, v2, v3, v4, v5], _ =>
  have g0 := hx 0 f0 rfl
  have g1 := hx 1 f1 rfl
  have g2 := hx 2 f2 rfl
  have g3 := hx 3 f3 rfl
  have g4 := hx 4 f4 rfl
  have g5 := hx 5 f5 rfl
  rw [o0, c0] at g0; rw [o1, c1] at g1; rw [o2, c2] at g2; rw [o3, c3] at g3; rw [o4, c4] at g4; rw [o5, c5] at g5
  simp [Value.cells] at g0 g1 g2 g3 g4 g5
  obtain ⟨T, e0, _, w0⟩ := DataW.trod_int h0 g0
  obtain ⟨s1, e1, _, w1⟩ := DataW.trod_string h1 g1
  obtain ⟨s2, e2, _, w2⟩ := DataW.trod_string h2 g2
  obtain ⟨s3, e3, _, w3⟩ := DataW.trod_string h3 g3
  obtain ⟨m, e4, _, w4⟩ := DataW.trod_int h4 g4
  obtain ⟨q, e5, _, w5⟩ := DataW.trod_int h5 g5
  simp at e0 e1 e2 e3 e4 e5
  subst e0; subst e1; subst e2; subst e3; subst e4; subst e5
  exact ⟨T, s1, s2, s3, m, q, rfl, w0, w1, w2, w3, w4, w5⟩
end Go.Proofs.YtokjmehecfjhmaaDoor
