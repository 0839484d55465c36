/-
  Slices of members: written out, grown, owned. Nothing of the program.
-/
import Derived.Test.YtmbimnnacjbdfaaDoorMbsArg
import Derived.Test.YtmbimnnacjbdfaaDoorPk11
namespace Go.Proofs.YtmbimnnacjbdfaaDoor.Flt
open Go.RowKit

theorem MbsAt.of_cells {w : World} {g : Nat} {e : TypeId} {ys : List MbS} (h : ObjAt w g e (mbCells ys)) : MbsAt w g 0 ys := fun i y hi j v hv => by
  rw [Nat.zero_add, h.cell]
  exact mbCells_at ys i y hi j v hv
theorem MbsAt.news {w : World} {b off : Nat} {ys : List MbS} (h : MbsAt w b off ys) : ∀ j u, (mbCells ys)[j]? = some u → w.cell? ((⟨b, off, none⟩ : Addr).add j) = some u := fun j u hu => by
  rw [add_plain']
  have hj : j < (mbCells ys).length := (List.getElem?_eq_some_iff.mp hu).1
  rw [mbCells_len] at hj
  have hi : j / 6 < ys.length := by omega
  have hy : ys[j / 6]? = some ys[j / 6] := List.getElem?_eq_getElem hi
  have hr : j % 6 < (mbV ys[j / 6]).length := by simp; omega
  have hv : (mbV ys[j / 6])[j % 6]? = some (mbV ys[j / 6])[j % 6] := List.getElem?_eq_getElem hr
  have h1 := mbCells_at ys (j / 6) _ hy (j % 6) _ hv
  rw [show j / 6 * 6 + j % 6 = j by omega, hu] at h1
  have h2 := h (j / 6) _ hy (j % 6) _ hv
  rw [show off + j / 6 * 6 + j % 6 = off + j by omega] at h2
  rw [h2, h1]
theorem mbCells_one (ys : List MbS) : ∀ u ∈ mbCells ys, u.oneCell' = true := by
  intro u hu
  unfold mbCells at hu
  obtain ⟨y, _, h⟩ := List.mem_flatMap.mp hu
  revert h
  simp
  rintro (rfl | rfl | rfl | rfl | rfl | rfl) <;> rfl
/-- a slice of the call's own -/
theorem MbsIn.of_own {w : World} {base n : Nat} {e : TypeId} {v : Value} {ys : List MbS} (h : w.ownsRow base e 6 v n (mbCells ys)) :
    ∃ a c, v = .slice a n c ∧ n = ys.length ∧ n ≤ c ∧ c ≤ maxLen ∧ MbsIn w a ys ∧ (∀ x, a = some x → base ≤ x.block ∧ x.block < w.heap.size) := by
  have hl := h.1
  rw [mbCells_len] at hl
  have hn : n = ys.length := by omega
  rcases h.2 with ⟨hv, h0⟩ | ⟨g, cap, cur, hv, hb, hh, hc, hm, hs, ht⟩
  · subst h0
    exact ⟨none, 0, hv, hn, Nat.le_refl _, Nat.zero_le _, .inl (List.length_eq_zero_iff.1 hn.symm), fun x hx => by cases hx⟩
  · have hlt : g < w.heap.size := (Array.getElem?_eq_some_iff.1 hh).1
    refine ⟨some ⟨g, 0, none⟩, cap, hv, hn, hc, hm, .inr ⟨g, 0, rfl, hlt, fun i y hi j u hu => ?_⟩, fun x hx => by cases hx; exact ⟨hb, hlt⟩⟩
    have hat := mbCells_at ys i y hi j u hu
    have hir : i < ys.length := (List.getElem?_eq_some_iff.1 hi).1
    have hj6 : j < 6 := by have := (List.getElem?_eq_some_iff.mp hu).1; simpa using this
    have hlt2 : i * 6 + j < n * 6 := by omega
    rw [← ht, List.getElem?_take, if_pos hlt2] at hat
    rw [Nat.zero_add, World.cell?, hh]
    simpa using hat
/-- nodes with what a walk is told of each, in a slice of the call's own -/
theorem ArgMbs.of_own {w : World} {base n : Nat} {e : TypeId} {v : Value} {ys : List MbS} (h : w.ownsRow base e 6 v n (mbCells ys)) (hf : ∀ y ∈ ys, MbF w y) :
    ∃ a c, v = .slice a n c ∧ ArgMbs w a n c ys := by
  obtain ⟨a, c, rfl, hn, hc, hm, hi, _⟩ := MbsIn.of_own h
  exact ⟨a, c, rfl, hn.symm, hc, hm, hi, hf⟩

section
variable {P : Program} {w : World} {ops : Array Oper} {rest : List Oper} {o : Oper} {a : Act} {Q : Exit → Act → World → Prop}

theorem run_lit_mb0 (t e : TypeId) (ht : P.underlying t = some (.slice e)) (z : Value) (hI : (P.info? e).map (fun i => (i.zero, i.size)) = some (some z, 6)) :
    (Instr.buildSlice t 0 #[]).run P w = .ok (.slice (some ⟨w.heap.size, 0, none⟩) 0 0) (w.alloc (.cells #[] e)) := by
  cases hq : P.info? e with
  | none => simp [hq] at hI
  | some i =>
    simp [hq] at hI
    simp [Instr.buildSlice, run_underlying ht, sizeOf, typeInfo, hq, Instr.fill, newRow]
    rw [show Array.range 0 = #[] by decide]; simp
theorem own_lit_mb0 (w : World) (e : TypeId) : (w.alloc (.cells #[] e)).ownsRow w.heap.size e 6 (.slice (some ⟨w.heap.size, 0, none⟩) 0 0) 0 (mbCells []) :=
  ⟨rfl, .inr ⟨w.heap.size, 0, #[], rfl, Nat.le_refl _, heap_alloc_new w _, Nat.le_refl _, Nat.zero_le _, rfl, rfl⟩⟩
theorem run_lit_mb1 (t e : TypeId) (ht : P.underlying t = some (.slice e)) (z : Value) (hI : (P.info? e).map (fun i => (i.zero, i.size)) = some (some z, 6)) (y : MbS) :
    (Instr.buildSlice t 1 #[(0, .agg (mbV y).toArray)]).run P w = .ok (.slice (some ⟨w.heap.size, 0, none⟩) 1 1) (w.alloc (.cells (mbCells [y]).toArray e)) := by
  cases hq : P.info? e with
  | none => simp [hq] at hI
  | some i =>
    simp [hq] at hI
    simp [Instr.buildSlice, run_underlying ht, sizeOf, typeInfo, zeroValue, hq, hI.1, hI.2, Instr.fill, newRow, Value.cells]
    rw [show Array.range 6 = #[0, 1, 2, 3, 4, 5] by decide]; simp [mbCells]
theorem run_lit_mb2 (t e : TypeId) (ht : P.underlying t = some (.slice e)) (z : Value) (hI : (P.info? e).map (fun i => (i.zero, i.size)) = some (some z, 6)) (y y' : MbS) :
    (Instr.buildSlice t 2 #[(0, .agg (mbV y).toArray), (1, .agg (mbV y').toArray)]).run P w = .ok (.slice (some ⟨w.heap.size, 0, none⟩) 2 2) (w.alloc (.cells (mbCells [y, y']).toArray e)) := by
  cases hq : P.info? e with
  | none => simp [hq] at hI
  | some i =>
    simp [hq] at hI
    simp [Instr.buildSlice, run_underlying ht, sizeOf, typeInfo, zeroValue, hq, hI.1, hI.2, Instr.fill, newRow, Value.cells]
    rw [show Array.range 12 = #[0, 1, 2, 3, 4, 5, 6, 7, 8, 9, 10, 11] by decide]; simp [mbCells]
theorem wpList_lit_mb1 (hgd : o.guard = none) (t e : TypeId) (x : Operand) (ho : o.op = .buildSlice t 1 #[(0, x)]) (ht : P.underlying t = some (.slice e)) (z : Value) (hI : (P.info? e).map (fun i => (i.zero, i.size)) = some (some z, 6))
    (y : MbS) (hx : a.eval x = .agg (mbV y).toArray)
    (K : ∀ w', ObjAt w' w.heap.size e (mbCells [y]) → Below w.heap.size w w' → wpList P ops Q rest (a.put o.dst (.slice (some ⟨w.heap.size, 0, none⟩) 1 1)) w') : wpList P ops Q (o :: rest) a w := by
  refine wpList_plain hgd fun K' hK => ?_
  have hrun := run_lit_mb1 (P := P) (w := w) t e ht z hI y
  unfold Oper.wp
  simp only [execOp, ho, List.map_toArray, List.map_cons, List.map_nil, hx, hrun, Sem.run_bind, Sem.run_pure, Result.andThen_ok]
  exact hK _ _ (K _ (heap_alloc_new w _) ((Below.refl _ _).alloc (Nat.le_refl _) _))
/-- an operation whose guard lets it run -/
theorem wpList_wanted (hw : Region.wanted o (yielded ops a.tmps) = true) (h : ∀ K : Act → World → Prop, (∀ a w, wpList P ops Q rest a w → K a w) → o.wp P a w K Q) : wpList P ops Q (o :: rest) a w :=
  wpList_step fun K hK => by rw [if_pos hw]; exact h K hK
theorem wpList_lit_mb1_w (hw : Region.wanted o (yielded ops a.tmps) = true) (t e : TypeId) (x : Operand) (ho : o.op = .buildSlice t 1 #[(0, x)]) (ht : P.underlying t = some (.slice e)) (z : Value) (hI : (P.info? e).map (fun i => (i.zero, i.size)) = some (some z, 6))
    (y : MbS) (hx : a.eval x = .agg (mbV y).toArray)
    (K : ∀ w', ObjAt w' w.heap.size e (mbCells [y]) → Below w.heap.size w w' → wpList P ops Q rest (a.put o.dst (.slice (some ⟨w.heap.size, 0, none⟩) 1 1)) w') : wpList P ops Q (o :: rest) a w := by
  refine wpList_wanted hw fun K' hK => ?_
  have hrun := run_lit_mb1 (P := P) (w := w) t e ht z hI y
  unfold Oper.wp
  simp only [execOp, ho, List.map_toArray, List.map_cons, List.map_nil, hx, hrun, Sem.run_bind, Sem.run_pure, Result.andThen_ok]
  exact hK _ _ (K _ (heap_alloc_new w _) ((Below.refl _ _).alloc (Nat.le_refl _) _))
theorem wpList_lit_mb2 (hgd : o.guard = none) (t e : TypeId) (x x' : Operand) (ho : o.op = .buildSlice t 2 #[(0, x), (1, x')]) (ht : P.underlying t = some (.slice e)) (z : Value) (hI : (P.info? e).map (fun i => (i.zero, i.size)) = some (some z, 6))
    (y y' : MbS) (hx : a.eval x = .agg (mbV y).toArray) (hx' : a.eval x' = .agg (mbV y').toArray)
    (K : ∀ w', ObjAt w' w.heap.size e (mbCells [y, y']) → Below w.heap.size w w' → wpList P ops Q rest (a.put o.dst (.slice (some ⟨w.heap.size, 0, none⟩) 2 2)) w') : wpList P ops Q (o :: rest) a w := by
  refine wpList_plain hgd fun K' hK => ?_
  have hrun := run_lit_mb2 (P := P) (w := w) t e ht z hI y y'
  unfold Oper.wp
  simp only [execOp, ho, List.map_toArray, List.map_cons, List.map_nil, hx, hx', hrun, Sem.run_bind, Sem.run_pure, Result.andThen_ok]
  exact hK _ _ (K _ (heap_alloc_new w _) ((Below.refl _ _).alloc (Nat.le_refl _) _))
theorem wpList_lit_mb0 (hgd : o.guard = none) (t e : TypeId) (ho : o.op = .buildSlice t 0 #[]) (ht : P.underlying t = some (.slice e)) (z : Value) (hI : (P.info? e).map (fun i => (i.zero, i.size)) = some (some z, 6))
    (K : ∀ w', w'.ownsRow w.heap.size e 6 (.slice (some ⟨w.heap.size, 0, none⟩) 0 0) 0 (mbCells []) → Below w.heap.size w w' → wpList P ops Q rest (a.put o.dst (.slice (some ⟨w.heap.size, 0, none⟩) 0 0)) w') : wpList P ops Q (o :: rest) a w := by
  refine wpList_plain hgd fun K' hK => ?_
  have hrun := run_lit_mb0 (P := P) (w := w) t e ht z hI
  unfold Oper.wp
  simp [execOp, ho, hrun, Result.andThen]
  exact hK _ _ (K _ (own_lit_mb0 w e) ((Below.refl _ _).alloc (Nat.le_refl _) _))
/-- append of nodes to nodes of the call's own -/
theorem run_append_mms (t ty e : TypeId) (base : Nat) (i0 : TypeInfo) (z : Value) (hT : P.underlying t = some (.slice e)) (hI : Hid (P.info? e = some i0 ∧ i0.zero = some z ∧ i0.size = 6 ∧ i0.bytes = 80)) (hz : z.cells.size = 6)
    (v : Value) (n : Nat) (ys : List MbS) (hown : w.ownsRow base e 6 v n (mbCells ys))
    (b : Option Addr) (m c : Nat) (xs : List MbS) (hy : MbsIn w b xs) (hl : xs.length = m) (h47 : n + m ≤ 1000000) (hbase : base ≤ w.heap.size) :
    ∃ v' w', (Builtin.append_ #[t, t] ty #[v, .slice b m c]).run P w = .ok v' w' ∧ w'.ownsRow base e 6 v' (n + m) (mbCells (ys ++ xs)) ∧ Below base w w' ∧ (∀ k, k < w.heap.size → some k ≠ v.ownBlock → w'.heap[k]? = w.heap[k]?) ∧ (v'.ownBlock = v.ownBlock ∨ v'.ownBlock = some w.heap.size) := by
  rcases hy with hy | ⟨b', off, rfl, _, hy⟩
  · subst hy
    obtain rfl : m = 0 := hl.symm
    exact ⟨v, w, run_append_empty (P := P) w base t ty e i0 6 hT hI.out.1 v n _ hown b c, by simpa using hown, Below.refl _ _, fun _ _ _ => rfl, .inl rfl⟩
  · obtain ⟨v', w', hr, k1, k2, _, k3⟩ := run_append_own_at (P := P) w base t ty e i0 z 6 80 hT hI.out.1 hI.out.2.1 hI.out.2.2.1 hI.out.2.2.2 hz (by decide) v n _ hown ⟨b', off, none⟩ m c (mbCells xs) (by rw [mbCells_len, hl]) hy.news (mbCells_one xs) (by unfold maxLen; omega) (by omega) hbase
    exact ⟨v', w', hr, by rw [mbCells_append]; exact k1, (Below.refl _ _).grown k2 hbase (fun k hk => (own_under hown k hk).1), fun k hk hr => k2.block k hk hr, k3⟩
theorem wpList_append_mms (hgd : o.guard = none) (s x : Operand) (t : TypeId) (ho : o.op = .call { callee := .builtin .append, args := #[s, x], argTypes := #[t, t] })
    (e : TypeId) (base : Nat) (i0 : TypeInfo) (z : Value) (hT : P.underlying t = some (.slice e)) (hI : Hid (P.info? e = some i0 ∧ i0.zero = some z ∧ i0.size = 6 ∧ i0.bytes = 80)) (hz : z.cells.size = 6)
    (v : Value) (n : Nat) (ys : List MbS) (hs : a.eval s = v) (hown : w.ownsRow base e 6 v n (mbCells ys))
    (b : Option Addr) (m c : Nat) (xs : List MbS) (hx : a.eval x = .slice b m c) (hy : MbsIn w b xs) (hl : xs.length = m) (h47 : n + m ≤ 1000000) (hbase : base ≤ w.heap.size)
    (K : ∀ v' w', w'.ownsRow base e 6 v' (n + m) (mbCells (ys ++ xs)) → Below base w w' → (∀ k, k < w.heap.size → some k ≠ v.ownBlock → w'.heap[k]? = w.heap[k]?) → (v'.ownBlock = v.ownBlock ∨ v'.ownBlock = some w.heap.size) → wpList P ops Q rest (a.put o.dst v') w') : wpList P ops Q (o :: rest) a w := by
  obtain ⟨v', w', hr, k1, k2, k3, k4⟩ := run_append_mms (P := P) (w := w) t o.type e base i0 z hT hI hz v n ys hown b m c xs hy hl h47 hbase
  refine wpList_plain hgd fun K' hK => ?_
  unfold Oper.wp
  simp [execOp, ho, resolve, invoke, builtin, hs, hx, hr, Result.andThen]
  exact hK _ _ (K _ _ k1 k2 k3 k4)
end
end Go.Proofs.YtmbimnnacjbdfaaDoor.Flt
