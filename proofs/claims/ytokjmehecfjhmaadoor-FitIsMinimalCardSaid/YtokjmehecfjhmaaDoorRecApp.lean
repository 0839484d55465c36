/-
  Slices of records in a drawn region: the empty literal, a literal of one, append of any records onto the call's own. Nothing of the program.
-/
import Derived.Test.YtokjmehecfjhmaaDoorRecRow
import Derived.Deep.RegionHeld3
namespace Go.Proofs.YtokjmehecfjhmaaDoor.Pxr
open Go.RowKit
theorem own_base2 {w : World} {base base' n : Nat} {e : TypeId} {v : Value} {xs : List Value} (h : w.ownsRow base e 2 v n xs) (hb : base' ≤ base) : w.ownsRow base' e 2 v n xs := by
  obtain ⟨h1, h2⟩ := h
  refine ⟨h1, ?_⟩
  rcases h2 with h2 | ⟨g, cap, cur, hv, hg, r⟩
  · exact Or.inl h2
  · exact Or.inr ⟨g, cap, cur, hv, Nat.le_trans hb hg, r⟩
theorem RecsIn.blk {w w' : World} {g off : Nat} {rs : List Rec} (h : RecsIn w (some ⟨g, off, none⟩) rs) (e : w'.heap[g]? = w.heap[g]?) (hs : w.heap.size ≤ w'.heap.size) : RecsIn w' (some ⟨g, off, none⟩) rs := by
  rcases h with h | ⟨b, o, h1, h2, h3⟩
  · exact .inl h
  · cases h1
    refine .inr ⟨g, off, rfl, Nat.lt_of_lt_of_le h2 hs, fun i r hi => ?_⟩
    obtain ⟨c0, c1⟩ := h3 i r hi
    rw [World.cell?] at c0 c1 ⊢
    rw [World.cell?, e]
    exact ⟨c0, c1⟩
section
variable {P : Program} {w : World} {ops : Array Oper} {o : Oper} {a : Act} {Q : Exit → Act → World → Prop} {K : Act → World → Prop} {E : Prop}

theorem one_recs (rs : List Rec) : ∀ u ∈ recCells rs, u.oneCell' = true := by
  intro u hu
  unfold recCells at hu
  obtain ⟨r, _, hr⟩ := List.mem_flatMap.1 hu
  simp at hr
  rcases hr with rfl | rfl <;> rfl
theorem recCells_app (rs qs : List Rec) : recCells (rs ++ qs) = recCells rs ++ recCells qs := by unfold recCells; simp
theorem news_recs {w : World} {b off : Nat} {qs : List Rec} (h : RecsAt w b off qs) : ∀ j u, (recCells qs)[j]? = some u → w.cell? ((⟨b, off, none⟩ : Addr).add j) = some u := by
  intro j u hu
  rw [add_plain']
  have hl : j < qs.length * 2 := by
    have := (List.getElem?_eq_some_iff.1 hu).1
    rwa [recCells_len] at this
  have hi : j / 2 < qs.length := by omega
  have hq : qs[j / 2]? = some qs[j / 2] := List.getElem?_eq_getElem hi
  obtain ⟨c0, c1⟩ := h (j / 2) _ hq
  obtain ⟨d0, d1⟩ := recCells_at qs (j / 2) _ hq
  rcases Nat.mod_two_eq_zero_or_one j with hm | hm
  · have e : j / 2 * 2 = j := by omega
    rw [e] at c0 d0
    rw [d0] at hu
    rw [← Option.some.inj hu]
    exact c0
  · have e : j / 2 * 2 + 1 = j := by omega
    rw [e] at d1
    rw [d1] at hu
    rw [← Option.some.inj hu, show off + j = off + j / 2 * 2 + 1 by omega]
    exact c1
theorem run_append_recs (base : Nat) (t ty e : TypeId) (i0 : TypeInfo) (z : Value) (hT : P.underlying t = some (.slice e)) (hI : Hid (P.info? e = some i0 ∧ i0.zero = some z ∧ i0.size = 2 ∧ i0.bytes = 32 ∧ z.cells.size = 2))
    (v : Value) (n : Nat) (rs : List Rec) (hown : w.ownsRow base e 2 v n (recCells rs)) (b : Option Addr) (m c : Nat) (qs : List Rec) (hy : RecsIn w b qs) (hl : qs.length = m) (h47 : n + m ≤ 1000000) (hbase : base ≤ w.heap.size) :
    ∃ v' w', (Builtin.append_ #[t, t] ty #[v, .slice b m c]).run P w = .ok v' w' ∧ w'.ownsRow base e 2 v' (n + m) (recCells (rs ++ qs)) ∧ Below base w w' ∧ ∀ k, k < w.heap.size → some k ≠ v.ownBlock → w'.heap[k]? = w.heap[k]? := by
  rcases hy with hy | ⟨b', off, rfl, _, hy⟩
  · subst hy
    obtain rfl : m = 0 := hl.symm
    exact ⟨v, w, run_append_empty (P := P) w base t ty e i0 2 hT hI.out.1 v n _ hown b c, by simpa using hown, Below.refl _ _, fun _ _ _ => rfl⟩
  · obtain ⟨v', w', hr, ho, hg, _⟩ := run_append_own (P := P) w base t ty e i0 z 2 32 hT hI.out.1 hI.out.2.1 hI.out.2.2.1 hI.out.2.2.2.1 hI.out.2.2.2.2 (by decide) v n _ hown ⟨b', off, none⟩ m c (recCells qs) (by rw [recCells_len, hl]) (news_recs hy) (one_recs qs) (by unfold maxLen; omega) (by omega) hbase
    exact ⟨v', w', hr, by rw [recCells_app]; exact ho, (Below.refl _ _).grown hg hbase (own_block2 hown), fun k hk hr => hg.block k hk hr⟩
theorem step_append_recs (hgd : o.guard = none) (s x : Operand) (t : TypeId) (ho : o.op = .call { callee := .builtin .append, args := #[s, x], argTypes := #[t, t] })
    (base : Nat) (e : TypeId) (i0 : TypeInfo) (z : Value) (hT : P.underlying t = some (.slice e)) (hI : Hid (P.info? e = some i0 ∧ i0.zero = some z ∧ i0.size = 2 ∧ i0.bytes = 32 ∧ z.cells.size = 2))
    (v : Value) (n : Nat) (rs : List Rec) (hs : a.eval s = v) (hown : w.ownsRow base e 2 v n (recCells rs)) (b : Option Addr) (m c : Nat) (qs : List Rec) (hx : a.eval x = .slice b m c) (hy : RecsIn w b qs) (hl : qs.length = m) (h47 : n + m ≤ 1000000) (hbase : base ≤ w.heap.size)
    (k : ∀ v' w', w'.ownsRow base e 2 v' (n + m) (recCells (rs ++ qs)) → Below base w w' → (∀ k, k < w.heap.size → some k ≠ v.ownBlock → w'.heap[k]? = w.heap[k]?) → K (a.put o.dst v') w') :
    if Region.wanted o (yielded ops a.tmps) = true then Oper.wp P o a w K Q else E := by
  have hw : Region.wanted o (yielded ops a.tmps) = true := by simp [Region.wanted, hgd]
  rw [if_pos hw]
  obtain ⟨v', w', hr, h1, h2, h3⟩ := run_append_recs (P := P) (w := w) base t o.type e i0 z hT hI v n rs hown b m c qs hy hl h47 hbase
  unfold Oper.wp
  simp [execOp, ho, resolve, invoke, builtin, hs, hx, hr, Result.andThen]
  exact k _ _ h1 h2 h3
theorem step_lit_rec0 (hgd : o.guard = none) (t e : TypeId) (ho : o.op = .buildSlice t 0 #[]) (ht : P.underlying t = some (.slice e)) (z : Value) (hI : (P.info? e).map (fun i => (i.zero, i.size)) = some (some z, 2))
    (k : ∀ w', w'.ownsRow w.heap.size e 2 (.slice (some ⟨w.heap.size, 0, none⟩) 0 0) 0 (recCells []) → Below w.heap.size w w' → K (a.put o.dst (.slice (some ⟨w.heap.size, 0, none⟩) 0 0)) w') :
    if Region.wanted o (yielded ops a.tmps) = true then Oper.wp P o a w K Q else E := by
  have hw : Region.wanted o (yielded ops a.tmps) = true := by simp [Region.wanted, hgd]
  rw [if_pos hw]
  cases hq : P.info? e with
  | none => simp [hq] at hI
  | some i =>
    have hrun : (Instr.buildSlice t 0 #[]).run P w = .ok (.slice (some ⟨w.heap.size, 0, none⟩) 0 0) (w.alloc (.cells #[] e)) := by
      simp [Instr.buildSlice, run_underlying ht, sizeOf, typeInfo, hq, Instr.fill, newRow]
      rw [show Array.range 0 = #[] by decide]; simp
    unfold Oper.wp
    simp [execOp, ho, hrun, Result.andThen]
    exact k _ ⟨rfl, .inr ⟨w.heap.size, 0, #[], rfl, Nat.le_refl _, heap_alloc_new w _, Nat.le_refl _, Nat.zero_le _, rfl, rfl⟩⟩ ((Below.refl _ _).alloc (Nat.le_refl _) _)
theorem step_lit_rec1 (hgd : o.guard = none) (t e : TypeId) (x : Operand) (ho : o.op = .buildSlice t 1 #[(0, x)]) (ht : P.underlying t = some (.slice e)) (z : Value) (hI : (P.info? e).map (fun i => (i.zero, i.size)) = some (some z, 2))
    (r : Rec) (hx : a.eval x = .agg #[.string r.1, .string r.2])
    (k : ∀ w', RecsIn w' (some ⟨w.heap.size, 0, none⟩) [r] → Below w.heap.size w w' → K (a.put o.dst (.slice (some ⟨w.heap.size, 0, none⟩) 1 1)) w') :
    if Region.wanted o (yielded ops a.tmps) = true then Oper.wp P o a w K Q else E := by
  have hw : Region.wanted o (yielded ops a.tmps) = true := by simp [Region.wanted, hgd]
  rw [if_pos hw]
  cases hq : P.info? e with
  | none => simp [hq] at hI
  | some i =>
    simp [hq] at hI
    have hrun : (Instr.buildSlice t 1 #[(0, .agg #[.string r.1, .string r.2])]).run P w = .ok (.slice (some ⟨w.heap.size, 0, none⟩) 1 1) (w.alloc (.cells #[.string r.1, .string r.2] e)) := by
      simp [Instr.buildSlice, run_underlying ht, sizeOf, typeInfo, zeroValue, hq, hI.1, hI.2, Instr.fill, newRow, Value.cells]
      rw [show Array.range 2 = #[0, 1] by decide]; simp
    unfold Oper.wp
    simp [execOp, ho, hx, hrun, Result.andThen]
    refine k _ (.inr ⟨w.heap.size, 0, rfl, by simp, fun j q hj => ?_⟩) ((Below.refl _ _).alloc (Nat.le_refl _) _)
    match j, hj with
    | 0, hj =>
      obtain rfl := Option.some.inj (show some r = some q from hj)
      have hb : (w.alloc (.cells #[.string r.1, .string r.2] e)).heap[w.heap.size]? = some (.cells #[.string r.1, .string r.2] e (0, 0)) := heap_alloc_new w _
      constructor
      · rw [World.cell?, hb]; rfl
      · rw [World.cell?, hb]; rfl
    | j + 1, hj => simp at hj
end
end Go.Proofs.YtokjmehecfjhmaaDoor.Pxr
