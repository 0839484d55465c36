/-
  A new variable of a struct, and a store into it, as steps of a drawn region walked by hand. Nothing of the program.
-/
import Derived.Test.YtokjmehecfjhmaaDoorSObj
import Derived.Deep.RegionHeld3
namespace Go.Proofs.YtokjmehecfjhmaaDoor
open Go.RowKit
section
variable {P : Program} {w : World} {ops : Array Oper} {o : Oper} {a : Act} {Q : Exit → Act → World → Prop} {K : Act → World → Prop} {E : Prop}

theorem step_alloc_obj (hgd : o.guard = none) (T : TypeId) (ho : o.op = .alloc T) (vs : List Value) (hz : (P.info? T).map (·.zero) = some (some (.agg vs.toArray)))
    (k : ∀ w', ObjAt w' w.heap.size T vs → Below w.heap.size w w' → K (a.put o.dst (.pointer (some ⟨w.heap.size, 0, none⟩))) w') :
    if Region.wanted o (yielded ops a.tmps) = true then Oper.wp P o a w K Q else E := by
  have hw : Region.wanted o (yielded ops a.tmps) = true := by simp [Region.wanted, hgd]
  rw [if_pos hw]
  cases hq : P.info? T with
  | none => simp [hq] at hz
  | some i =>
    simp [hq] at hz
    unfold Oper.wp
    simp [execOp, ho, Instr.alloc, zeroValue, typeInfo, hq, hz, newVar, newRow, Result.andThen, Value.cells]
    exact k _ (heap_alloc_new w _) ((Below.refl _ _).alloc (Nat.le_refl _) _)

theorem step_store_obj (hgd : o.guard = none) (T : TypeId) (x y : Operand) (ho : o.op = .store T x y) (g : Nat) (hx : a.eval x = .pointer (some ⟨g, 0, none⟩))
    (vs old : List Value) (hy : a.eval y = .agg vs.toArray) (T' : TypeId) (hg : ObjAt w g T' old) (hs : (P.info? T).map (·.size) = some vs.length) (hl : old.length = vs.length) (h1 : ∀ v ∈ vs, v.oneCell' = true)
    (k : ∀ w', ObjAt w' g T' vs → Turned w w' g → K (a.put o.dst undef) w') :
    if Region.wanted o (yielded ops a.tmps) = true then Oper.wp P o a w K Q else E := by
  have hw : Region.wanted o (yielded ops a.tmps) = true := by simp [Region.wanted, hgd]
  rw [if_pos hw]
  refine wp_store_row T x y ho g vs.toArray hx hy T' old.toArray hg (by simpa using hs) (by simpa using hl) ?_ ?_
  · rw [Array.all_eq_true_iff_forall_mem]
    intro u hu
    exact h1 u (by simpa using hu)
  · exact k _ (setRow_heap w g _ _ T' _ hg) ⟨_, rfl⟩
end
end Go.Proofs.YtokjmehecfjhmaaDoor
