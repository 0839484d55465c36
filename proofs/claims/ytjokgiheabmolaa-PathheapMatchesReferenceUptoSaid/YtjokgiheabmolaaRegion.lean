/-
  A region that draws its order and holds calls that make memory: one walk of the text's order serves every order, where each operation yields one value in every world of a class, and leaves one of it.
-/
import Derived.Test.YtjokgiheabmolaaGen
import Derived.BigQuiet
namespace Go.Proofs.Ytjokgiheabmolaa
open Go.RowKit

/-- a world of the class S -/
structure Of (S : World → Prop) where
  w : World
  h : S w

theorem wp_region_class {P : Program} {id : Nat} {Q : Exit → Act → World → Prop} {a : Act} {w : World} {l : List Oper} {S : World → Prop} (hm : P.follows .mixedOrders = true) (hB : Region.lexB .any l.toArray = true) (hS : S w.drew)
    (h : Nonempty (Of S) → wpQuiet P l.toArray (fun w' => ∃ q : Of S, w' = q.w) (fun a' => ∀ w', (∃ q : Of S, w' = q.w) → Q .normal a' w') l a) : (Code.region id l.toArray true).wp P Q a w :=
  wp_region_quiet (C := fun w' => ∃ q : Of S, w' = q.w) hm hB ⟨⟨w.drew, hS⟩, rfl⟩ (by simpa using h ⟨⟨w.drew, hS⟩⟩)

/-- a call that hands back v and leaves what lay there, met in a world of the class -/
theorem Calls.in_class {P : Program} {f : FuncId} {args : Array Value} {S : World → Prop} {q : Of S} {v : Value}
    (h : Calls P f args q.w fun e w' => e = .returned v ∧ Below q.w.heap.size q.w w') (hS : ∀ w', Below q.w.heap.size q.w w' → S q.w → S w') :
    Calls P f args q.w fun e w'' => e = .returned v ∧ ∃ q' : Of S, w'' = q'.w :=
  h.mono fun _ w' h => ⟨h.1, ⟨w', hS w' h.2 q.h⟩, rfl⟩
/-- the same, where the contract asks something of the class's worlds -/
theorem Calls.in_classS {P : Program} {f : FuncId} {args : Array Value} {S : World → Prop} {q : Of S} {v : Value}
    (h : ∀ w, S w → Calls P f args w fun e w' => e = .returned v ∧ Below w.heap.size w w') (hS : ∀ w', Below q.w.heap.size q.w w' → S q.w → S w') :
    Calls P f args q.w fun e w'' => e = .returned v ∧ ∃ q' : Of S, w'' = q'.w := Calls.in_class (h q.w q.h) hS
end Go.Proofs.Ytjokgiheabmolaa
