/-
  A new variable for a struct that came by value, as a step of a drawn region walked by hand. Nothing of the program.
-/
import Derived.Test.YtnnengigahakaaaObj
namespace Go.Proofs.Ytnnengigahakaaa
open Go.RowKit

theorem step_box_obj {P : Program} {w : World} {ops : Array Oper} {o : Oper} {a : Act} {Q : Exit → Act → World → Prop} {K : Act → World → Prop} {E : Prop} (hgd : o.guard = none) (T : TypeId) (x : Operand) (ho : o.op = .box T x) (vs : List Value) (hx : a.eval x = .agg vs.toArray)
    (k : ∀ w', ObjAt w' w.heap.size T vs → Below w.heap.size w w' → K (a.put o.dst (.pointer (some ⟨w.heap.size, 0, none⟩))) w') :
    if Region.wanted o (yielded ops a.tmps) = true then Oper.wp P o a w K Q else E := by
  have hw : Region.wanted o (yielded ops a.tmps) = true := by simp [Region.wanted, hgd]
  rw [if_pos hw]
  unfold Oper.wp
  simp [execOp, ho, hx, Instr.box, newVar, newRow, Result.andThen, Value.cells]
  exact k _ (heap_alloc_new w _) ((Below.refl _ _).alloc (Nat.le_refl _) _)
end Go.Proofs.Ytnnengigahakaaa
