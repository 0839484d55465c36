/-
  A slice of slices of strings that came in. Nothing of the program.
-/
import Derived.Test.YtjokgiheabmolaaStrsArg
namespace Go.Proofs.Ytjokgiheabmolaa
open Go.RowKit Go.ChangeShapes Go.Deep

structure ArgLs (w : World) (a : Option Addr) (n cap : Nat) (ls : List (List ByteArray)) : Prop where
  ln : ls.length = n
  lc : n ≤ cap
  lm : cap ≤ maxLen
  get : ∀ i l, ls[i]? = some l → ∃ b off a' c', a = some ⟨b, off, none⟩ ∧ b < w.heap.size ∧ w.cell? ⟨b, off + i, none⟩ = some (.slice a' l.length c') ∧ ArgSs w a' l.length c' l
section
variable {H : Type} {enc : TypeId × Value → H} {P : Program} {w : World} {base : Nat} {held : Bool}
theorem open_ls {t e s : TypeId} {a : Option Addr} {len cap : Nat} {d : DataW H} {p : List MemPlace}
    (ht : P.underlying t = some (.slice e)) (he : P.underlying e = some (.slice s)) (hS : P.underlying s = some .string) (c1 : P.cellsOf e = 1) (c2 : P.cellsOf s = 1)
    (h : DataW.Trod enc P w base (fun _ => true) held t (.slice a len cap) d p) (hw : ∀ n ∈ d.weights P t, n ≤ reachBytes) : ∃ ls, ArgLs w a len cap ls := by
  obtain ⟨fuel, hf⟩ := h
  rcases open_slice ht hf with ⟨hcs, _⟩ | ⟨x, len', cap', m, n, D, Pl, hcs, _, hl, hm, hmm, hd, hx⟩
  · simp [Value.cells] at hcs
    obtain ⟨rfl, rfl, rfl⟩ := hcs
    exact ⟨[], rfl, Nat.le_refl _, Nat.zero_le _, fun i l h => by cases h⟩
  · simp [Value.cells] at hcs
    obtain ⟨rfl, rfl, rfl⟩ := hcs
    simp only [if_true] at hmm
    simp only [Prod.mk.injEq] at hd
    obtain ⟨rfl, _⟩ := hd
    have each : ∀ i, i < len → ∃ q : Option Addr × Nat × List ByteArray, w.cell? (x.add i) = some (.slice q.1 q.2.2.length q.2.1) ∧ ArgSs w q.1 q.2.2.length q.2.1 q.2.2 := by
      intro i hi
      obtain ⟨cs', g1, g2⟩ := hx i (by omega)
      rw [c1] at g1
      obtain ⟨_, hlen, hcell⟩ := World.cells?_some g1
      match cs', hlen with
      | [v], _ =>
      have hc := hcell 0 (by simp)
      rw [Nat.mul_one, add_add, Nat.add_zero] at hc
      have hc : w.cell? (x.add i) = some v := by simpa using hc
      obtain ⟨a', l', c', rfl⟩ : ∃ a' l' c', v = .slice a' l' c' := by
        rcases open_slice he g2 with ⟨q, _⟩ | ⟨x', l', c', _, _, _, _, q, _⟩
        · exact ⟨none, 0, 0, by simpa using q⟩
        · exact ⟨some x', l', c', by simpa using q⟩
      obtain ⟨ys, hy⟩ := open_ss (w := w) (a := a') (len := l') (cap := c') he hS c2 ⟨n, g2⟩ (fun z hz => hw z (by
        simp only [DataW.weights, ht, List.mem_cons, List.mem_append]
        exact .inr (.inl (weightsAll_mem (x := D i) hz _ (List.mem_map.2 ⟨i, by simpa using hi, rfl⟩)))))
      obtain rfl := hy.n
      exact ⟨(a', c', ys), hc, hy⟩
    obtain ⟨A, hA⟩ := choose_lt each
    refine ⟨(List.range len).map fun i => (A i).2.2, by simp, hl, hm, fun i l hi => ?_⟩
    rw [List.getElem?_map] at hi
    have hil : i < len := by
      rcases Nat.lt_or_ge i len with h | h
      · exact h
      · rw [List.getElem?_eq_none (by simpa using h)] at hi; cases hi
    rw [List.getElem?_range hil] at hi
    obtain rfl := Option.some.inj hi
    obtain ⟨hc, hs⟩ := hA i hil
    have hc0 := (hA 0 (by omega)).1
    obtain ⟨b, off, spot⟩ := x
    have hspot : spot = none := by simpa [Addr.add] using World.cell?_spot hc0
    subst hspot
    rw [Go.WideShapes.add_plain] at hc
    exact ⟨b, off, _, _, rfl, World.block_lt_of_cell? w (⟨b, off + i, none⟩ : Addr) hc, hc, hs⟩
end
end Go.Proofs.Ytjokgiheabmolaa
