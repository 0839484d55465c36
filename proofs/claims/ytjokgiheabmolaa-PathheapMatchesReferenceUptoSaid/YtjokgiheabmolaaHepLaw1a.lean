/-
  For PathheapMatchesReference: a slice of slices of strings that grows. Nothing of the program.
-/
import Derived.Test.YtjokgiheabmolaaHepLit
namespace Go.Proofs.Ytjokgiheabmolaa.Hep
open Go.RowKit

/-- what an append of slices asks of the elements' type -/
def ElemL (P : Program) (e : TypeId) : Prop := ∃ i0, P.info? e = some i0 ∧ i0.zero = some (.slice none 0 0) ∧ i0.size = 1 ∧ i0.bytes = 24
theorem elemL {P : Program} {e : TypeId} (h : (P.info? e).map (fun i => (i.zero, i.size, i.bytes)) = some (some (.slice none 0 0), 1, 24)) : ElemL P e := by
  cases hq : P.info? e with
  | none => simp [hq] at h
  | some i => simp [hq] at h; exact ⟨i, hq, h.1, h.2.1, h.2.2⟩
theorem own_obj1 {w : World} {g : Nat} {e : TypeId} {x : Value} {base : Nat} (h : ObjAt w g e [x]) (hb : base ≤ g) : w.ownsRow base e 1 (.slice (some ⟨g, 0, none⟩) 1 1) 1 [x] :=
  ⟨rfl, .inr ⟨g, 1, #[x], rfl, hb, h, Nat.le_refl _, by unfold maxLen; omega, rfl, rfl⟩⟩
section
variable {P : Program} {w : World} {ops : Array Oper} {rest : List Oper} {o : Oper} {a : Act} {Q : Exit → Act → World → Prop}
theorem run_append_l (t ty e : TypeId) (base : Nat) (hT : P.underlying t = some (.slice e)) (hI : ElemL P e)
    (v : Value) (n : Nat) (xs : List Value) (hown : w.ownsRow base e 1 v n xs) (g : Nat) (y : Value) (hy : ObjAt w g e [y]) (h1 : y.oneCell' = true) (h47 : n ≤ 1048576) (hbase : base ≤ w.heap.size) :
    ∃ v' w', (Builtin.append_ #[t, t] ty #[v, .slice (some ⟨g, 0, none⟩) 1 1]).run P w = .ok v' w' ∧ w'.ownsRow base e 1 v' (n + 1) (xs ++ [y]) ∧ Below base w w' := by
  obtain ⟨i0, i1, i2, i3, i4⟩ := hI
  obtain ⟨v', w', hr, k1, k2, _, k3⟩ := run_append_own_at (P := P) w base t ty e i0 _ 1 24 hT i1 i2 i3 i4 rfl (by decide) v n _ hown ⟨g, 0, none⟩ 1 1 [y] rfl (fun j u hj => by
    rw [add_plain', Nat.zero_add, hy.cell]
    exact hj) (fun u hu => by obtain rfl := List.mem_singleton.mp hu; exact h1) (by unfold maxLen; omega) (by omega) hbase
  exact ⟨v', w', hr, k1, (Below.refl _ _).grown k2 hbase (fun k hk => (own_under hown k hk).1)⟩
theorem wpList_append_l (hgd : o.guard = none) (s x : Operand) (t : TypeId) (ho : o.op = .call { callee := .builtin .append, args := #[s, x], argTypes := #[t, t] })
    (e : TypeId) (base : Nat) (hT : P.underlying t = some (.slice e)) (hI : ElemL P e)
    (v : Value) (n : Nat) (xs : List Value) (hs : a.eval s = v) (hown : w.ownsRow base e 1 v n xs)
    (g : Nat) (y : Value) (hx : a.eval x = .slice (some ⟨g, 0, none⟩) 1 1) (hy : ObjAt w g e [y]) (h1 : y.oneCell' = true) (h47 : n ≤ 1048576) (hbase : base ≤ w.heap.size)
    (K : ∀ v' w', w'.ownsRow base e 1 v' (n + 1) (xs ++ [y]) → Below base w w' → wpList P ops Q rest (a.put o.dst v') w') : wpList P ops Q (o :: rest) a w := by
  obtain ⟨v', w', hr, k1, k2⟩ := run_append_l (P := P) (w := w) t o.type e base hT hI v n xs hown g y hy h1 h47 hbase
  refine wpList_plain hgd fun K' hK => ?_
  unfold Oper.wp
  simp [execOp, ho, resolve, invoke, builtin, hs, hx, hr, Result.andThen]
  exact hK _ _ (K _ _ k1 k2)
end
/-- the same as an argument -/
theorem ls_own {w : World} {base n : Nat} {e : TypeId} {v : Value} (qs : List (Option Addr × Nat × List ByteArray)) (h : w.ownsRow base e 1 v n (qs.map fun q => .slice q.1 q.2.2.length q.2.1)) (hq : ∀ q ∈ qs, ArgSs w q.1 q.2.2.length q.2.1 q.2.2) :
    ∃ a c, v = .slice a n c ∧ ArgLs w a n c (qs.map (·.2.2)) := by
  have hl := h.1
  rw [List.length_map, Nat.mul_one] at hl
  rcases h.2 with ⟨hv, h0⟩ | ⟨g, cap, cur, hv, hb, hh, hc, hm, hs, ht⟩
  · subst h0
    have : qs = [] := List.length_eq_zero_iff.mp hl
    subst this
    exact ⟨none, 0, hv, rfl, Nat.le_refl _, Nat.zero_le _, fun i l hi => by cases hi⟩
  · have hlt : g < w.heap.size := (Array.getElem?_eq_some_iff.1 hh).1
    refine ⟨some ⟨g, 0, none⟩, cap, hv, by rw [List.length_map]; exact hl, hc, hm, fun i l hi => ?_⟩
    rw [List.getElem?_map] at hi
    cases hj : qs[i]? with
    | none => rw [hj] at hi; cases hi
    | some q =>
      rw [hj] at hi
      obtain rfl := Option.some.inj hi
      have hin : i < n := by rw [← hl]; exact (List.getElem?_eq_some_iff.mp hj).1
      refine ⟨g, 0, q.1, q.2.1, rfl, hlt, ?_, hq q (List.mem_of_getElem? hj)⟩
      have := congrArg (fun l => l[i]?) ht
      simp only [List.getElem?_take] at this
      rw [if_pos (by omega), List.getElem?_map, hj] at this
      unfold World.cell?
      rw [hh]
      simpa using this
end Go.Proofs.Ytjokgiheabmolaa.Hep
