/-
  A struct of a slice of integers and an integer that came in by value, opened. Nothing of the program.
-/
import Derived.Test.YtbbaleambgaanaaGreatDoorArrArg
import Derived.ChangeSame
namespace Go.Proofs.YtbbaleambgaanaaGreatDoor
open Go.RowKit Go.ChangeShapes

theorem open_slice_int {H : Type} {enc : TypeId × Value → H} {P : Program} {w : World} {base : Nat} {held : Bool} {t e : TypeId} {f0 f1 : Field} {k k' : IntKind} {cs : Array Value} {d : DataW H} {p : List MemPlace}
    (ht : P.underlying t = some (.struct #[f0, f1])) (h0 : P.underlying f0.type = some (.slice e)) (he : P.underlying e = some (.int k)) (h1 : P.underlying f1.type = some (.int k'))
    (hs : (P.cellsOf t, f0.offset, P.cellsOf f0.type, f1.offset, P.cellsOf f1.type, P.cellsOf e) = (2, 0, 1, 1, 1, 1)) (h : DataW.Trod enc P w base (fun _ => true) held t (.agg cs) d p) :
    ∃ (a : Option Addr) (len cap : Nat) (zs : List Int) (F : Int), cs = #[.slice a len cap, .int k' F] ∧ ArgInts k w a len cap zs ∧ (Lit.int k' F).wf = true := by
  simp only [Prod.mk.injEq] at hs
  obtain ⟨s1, s2, s3, s4, s5, s6⟩ := hs
  obtain ⟨fuel, hf⟩ := h
  obtain ⟨y0, y1, m, _, hl, hy0, hy1⟩ := trod_struct2 ht hf
  simp only [Value.cells] at hl hy0 hy1
  rw [s1] at hl
  obtain ⟨l⟩ := cs
  match l, hl with
  | [c0, c1], _ =>
  rw [s2, s3] at hy0
  rw [s4, s5] at hy1
  simp at hy0 hy1
  obtain ⟨F, e1, _, wF⟩ := DataW.trod_int h1 hy1
  simp at e1
  subst e1
  rcases open_ints h0 he s6 hy0 with ⟨hcs, _⟩ | ⟨x, len, cap, zs, hcs, _, hl, hm, hz, _, hcell, hwz⟩
  · simp at hcs
    subst hcs
    exact ⟨none, 0, 0, [], F, rfl, ArgInts.nil, wF⟩
  · simp at hcs
    subst hcs
    exact ⟨some x, len, cap, _, F, rfl, ArgInts.mk' hl hm (by simpa using hz) hcell hwz, wF⟩
end Go.Proofs.YtbbaleambgaanaaGreatDoor
