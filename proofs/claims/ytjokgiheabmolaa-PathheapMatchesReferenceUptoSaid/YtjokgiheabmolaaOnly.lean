/-
  What a call may turn besides new memory, as a set of blocks; what stays under it. Nothing of the program.
-/
import Derived.Test.YtjokgiheabmolaaObj
namespace Go.Proofs.Ytjokgiheabmolaa
open Go.RowKit

/-- of what was there only the blocks of S may have turned -/
structure Only (S : Nat → Prop) (w w' : World) : Prop where
  os : w'.os = w.os
  tape : w'.tape = w.tape
  output : w'.output = w.output
  size : w.heap.size ≤ w'.heap.size
  block : ∀ k, k < w.heap.size → ¬ S k → w'.heap[k]? = w.heap[k]?
theorem Only.refl (S : Nat → Prop) (w : World) : Only S w w := ⟨rfl, rfl, rfl, Nat.le_refl _, fun _ _ _ => rfl⟩
theorem Only.trans {S : Nat → Prop} {a b c : World} (h : Only S a b) (k : Only S b c) : Only S a c :=
  ⟨k.os.trans h.os, k.tape.trans h.tape, k.output.trans h.output, Nat.le_trans h.size k.size, fun i hi hj => (k.block i (Nat.lt_of_lt_of_le hi h.size) hj).trans (h.block i hi hj)⟩
theorem Only.mono {S T : Nat → Prop} {w w' : World} (h : Only S w w') (hST : ∀ k, k < w.heap.size → S k → T k) : Only T w w' := ⟨h.os, h.tape, h.output, h.size, fun k hk hj => h.block k hk fun hs => hj (hST k hk hs)⟩
theorem Only.of_below {S : Nat → Prop} {B : Nat} {w w' : World} (h : Below B w w') (hB : w.heap.size ≤ B) : Only S w w' := ⟨h.os, h.tape, h.output, h.size, fun k hk _ => h.block k (Nat.lt_of_lt_of_le hk hB)⟩
theorem Only.below {S : Nat → Prop} {B : Nat} {w w' : World} (h : Only S w w') (hS : ∀ k, S k → B ≤ k) (hw : B ≤ w.heap.size) : Below B w w' := ⟨h.os, h.tape, h.output, h.size, fun k hk => h.block k (Nat.lt_of_lt_of_le hk hw) fun hs => by have := hS k hs; omega⟩
theorem Only.setCell {S : Nat → Prop} {a w : World} (h : Only S a w) {p : Addr} (hp : S p.block ∨ a.heap.size ≤ p.block) (v : Value) : Only S a (w.setCell p v) :=
  ⟨h.os, h.tape, h.output, by simpa [World.setCell] using h.size, fun k hk hj => (Below.heap_setCell w p v k (by rintro rfl; rcases hp with hp | hp; exact hj hp; omega)).trans (h.block k hk hj)⟩
theorem Only.drewN (S : Nat → Prop) (w : World) (n : Nat) : Only S w (w.drewN n) := ⟨rfl, rfl, rfl, Nat.le_refl _, fun _ _ _ => rfl⟩
theorem ObjAt.only {S : Nat → Prop} {w w' : World} {g : Nat} {T : TypeId} {vs : List Value} (h : ObjAt w g T vs) (ho : Only S w w') (hg : ¬ S g) : ObjAt w' g T vs := (ho.block g h.lt hg).trans h
theorem InK.only {S : Nat → Prop} {k : IntKind} {w w' : World} {a : Option Addr} {zs : List Int} (h : InK k w a zs) (ho : Only S w w') (e : ∀ x, a = some x → ¬ S x.block) : InK k w' a zs := h.block ho.size fun x hx hl => ho.block _ hl (e x hx)
theorem BytesIn.only {S : Nat → Prop} {w w' : World} {a : Option Addr} {zs : List Int} (h : BytesIn w a zs) (ho : Only S w w') (e : ∀ x, a = some x → ¬ S x.block) : BytesIn w' a zs := h.block ho.size fun x hx hl => ho.block _ hl (e x hx)
theorem own_only {S : Nat → Prop} {w w' : World} {base n : Nat} {e : TypeId} {v : Value} {xs : List Value} (h : w.ownsRow base e 1 v n xs) (ho : Only S w w') (hb : ∀ k, base ≤ k → k < w.heap.size → ¬ S k) : w'.ownsRow base e 1 v n xs := by
  obtain ⟨h1, h2⟩ := h
  refine ⟨h1, h2.imp id ?_⟩
  rintro ⟨g, cap, cur, hv, hbg, hg, r⟩
  have hlt : g < w.heap.size := by
    rcases Nat.lt_or_ge g w.heap.size with hl | hl
    · exact hl
    · rw [Array.getElem?_eq_none hl] at hg; cases hg
  exact ⟨g, cap, cur, hv, hbg, (ho.block g hlt (hb g hbg hlt)).trans hg, r⟩
/-- the blocks of S, and those that were laid between two worlds -/
def Grow (S : Nat → Prop) (w w' : World) : Nat → Prop := fun k => S k ∨ (w.heap.size ≤ k ∧ k < w'.heap.size)

/-- what a slice of the call's own reaches may turn: it, and new memory -/
theorem own_only_append {w w' : World} {base : Nat} (hb : Below base w w') : Only (fun k => base ≤ k) w w' := ⟨hb.os, hb.tape, hb.output, hb.size, fun k _ hj => hb.block k (by omega)⟩
end Go.Proofs.Ytjokgiheabmolaa
