/-
  Slices of two and of three records written out. Nothing of the program.
-/
import Derived.Test.YtjmnhnijmaceeaaDoorRecRow
import Derived.Deep.RegionHeld3
namespace Go.Proofs.YtjmnhnijmaceeaaDoor.Pxr
open Go.RowKit

theorem run_lit_rec2 {P : Program} {w : World} (t e : TypeId) (ht : P.underlying t = some (.slice e)) (z : Value) (hI : (P.info? e).map (fun i => (i.zero, i.size)) = some (some z, 2)) (k0 v0 k1 v1 : ByteArray) :
    (Instr.buildSlice t 2 #[(0, .agg #[.string k0, .string v0]), (1, .agg #[.string k1, .string v1])]).run P w = .ok (.slice (some ⟨w.heap.size, 0, none⟩) 2 2) (w.alloc (.cells #[.string k0, .string v0, .string k1, .string v1] e)) := by
  cases hq : P.info? e with
  | none => simp [hq] at hI
  | some i =>
    simp [hq] at hI
    simp [Instr.buildSlice, run_underlying ht, sizeOf, typeInfo, zeroValue, hq, hI.1, hI.2, Instr.fill, newRow, Value.cells]
    rw [show Array.range 4 = #[0, 1, 2, 3] by decide]; simp
theorem run_lit_rec3 {P : Program} {w : World} (t e : TypeId) (ht : P.underlying t = some (.slice e)) (z : Value) (hI : (P.info? e).map (fun i => (i.zero, i.size)) = some (some z, 2)) (k0 v0 k1 v1 k2 v2 : ByteArray) :
    (Instr.buildSlice t 3 #[(0, .agg #[.string k0, .string v0]), (1, .agg #[.string k1, .string v1]), (2, .agg #[.string k2, .string v2])]).run P w = .ok (.slice (some ⟨w.heap.size, 0, none⟩) 3 3) (w.alloc (.cells #[.string k0, .string v0, .string k1, .string v1, .string k2, .string v2] e)) := by
  cases hq : P.info? e with
  | none => simp [hq] at hI
  | some i =>
    simp [hq] at hI
    simp [Instr.buildSlice, run_underlying ht, sizeOf, typeInfo, zeroValue, hq, hI.1, hI.2, Instr.fill, newRow, Value.cells]
    rw [show Array.range 6 = #[0, 1, 2, 3, 4, 5] by decide]; simp

theorem RecsAt.of_cells {w : World} {g : Nat} {e : TypeId} {rs : List Rec} (h : w.heap[g]? = some (.cells (recCells rs).toArray e (0, 0))) : RecsAt w g 0 rs := fun i r hi => by
  obtain ⟨c0, c1⟩ := recCells_at rs i r hi
  rw [Nat.zero_add, World.cell?, World.cell?, h]
  simp only [List.getElem?_toArray]
  exact ⟨c0, c1⟩

section
variable {P : Program} {w : World} {ops : Array Oper} {rest : List Oper} {o : Oper} {a : Act} {Q : Exit → Act → World → Prop}
theorem wpList_lit_rec3 (hgd : o.guard = none) (t e : TypeId) (x y u : Operand) (ho : o.op = .buildSlice t 3 #[(0, x), (1, y), (2, u)]) (ht : P.underlying t = some (.slice e)) (z : Value) (hI : (P.info? e).map (fun i => (i.zero, i.size)) = some (some z, 2))
    (r0 r1 r2 : Rec) (hx : a.eval x = .agg #[.string r0.1, .string r0.2]) (hy : a.eval y = .agg #[.string r1.1, .string r1.2]) (hu : a.eval u = .agg #[.string r2.1, .string r2.2])
    (K : ∀ w', RecsAt w' w.heap.size 0 [r0, r1, r2] → w.heap.size < w'.heap.size → Below w.heap.size w w' → wpList P ops Q rest (a.put o.dst (.slice (some ⟨w.heap.size, 0, none⟩) 3 3)) w') : wpList P ops Q (o :: rest) a w := by
  refine wpList_plain hgd fun K' hK => ?_
  have hrun := run_lit_rec3 (P := P) (w := w) t e ht z hI r0.1 r0.2 r1.1 r1.2 r2.1 r2.2
  unfold Oper.wp
  simp [execOp, ho, hx, hy, hu, hrun, Result.andThen]
  exact hK _ _ (K _ (.of_cells (e := e) (heap_alloc_new w _)) (by simp) ((Below.refl _ _).alloc (Nat.le_refl _) _))
theorem step_lit_rec2 {K : Act → World → Prop} {E : Prop} (hgd : o.guard = none) (t e : TypeId) (x y : Operand) (ho : o.op = .buildSlice t 2 #[(0, x), (1, y)]) (ht : P.underlying t = some (.slice e)) (z : Value) (hI : (P.info? e).map (fun i => (i.zero, i.size)) = some (some z, 2))
    (r0 r1 : Rec) (hx : a.eval x = .agg #[.string r0.1, .string r0.2]) (hy : a.eval y = .agg #[.string r1.1, .string r1.2])
    (k : ∀ w', RecsAt w' w.heap.size 0 [r0, r1] → w.heap.size < w'.heap.size → Below w.heap.size w w' → K (a.put o.dst (.slice (some ⟨w.heap.size, 0, none⟩) 2 2)) w') :
    if Region.wanted o (yielded ops a.tmps) = true then Oper.wp P o a w K Q else E := by
  have hw : Region.wanted o (yielded ops a.tmps) = true := by simp [Region.wanted, hgd]
  rw [if_pos hw]
  have hrun := run_lit_rec2 (P := P) (w := w) t e ht z hI r0.1 r0.2 r1.1 r1.2
  unfold Oper.wp
  simp [execOp, ho, hx, hy, hrun, Result.andThen]
  exact k _ (.of_cells (e := e) (heap_alloc_new w _)) (by simp) ((Below.refl _ _).alloc (Nat.le_refl _) _)
end
end Go.Proofs.YtjmnhnijmaceeaaDoor.Pxr
