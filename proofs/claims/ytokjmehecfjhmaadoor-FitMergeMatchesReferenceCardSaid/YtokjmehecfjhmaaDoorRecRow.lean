/-
  Layer 9: slices of records of the call's own. Nothing of the program.
-/
import Derived.Test.YtokjmehecfjhmaaDoorPxrSize
import Derived.Laws.OwnMore
namespace Go.Proofs.YtokjmehecfjhmaaDoor.Pxr
open Go.RowKit

/-- the cells of records -/
def recCells (rs : List Rec) : List Value := rs.flatMap fun r => [Value.string r.1, Value.string r.2]
theorem recCells_len : ∀ rs : List Rec, (recCells rs).length = rs.length * 2
  | [] => rfl
  | r :: rs => by
    have := recCells_len rs
    unfold recCells at this ⊢
    rw [List.flatMap_cons, List.length_append, this, List.length_cons]; simp; omega
theorem recCells_snoc (rs : List Rec) (r : Rec) : recCells (rs ++ [r]) = recCells rs ++ [Value.string r.1, Value.string r.2] := by unfold recCells; simp
theorem recCells_at : ∀ (rs : List Rec) (i : Nat) (r : Rec), rs[i]? = some r → (recCells rs)[i * 2]? = some (.string r.1) ∧ (recCells rs)[i * 2 + 1]? = some (.string r.2)
  | [], i, r, h => by simp at h
  | q :: rs, i, r, h => by
    have e : recCells (q :: rs) = Value.string q.1 :: Value.string q.2 :: recCells rs := by unfold recCells; rw [List.flatMap_cons]; rfl
    rw [e]
    cases i with
    | zero => simp at h; subst h; exact ⟨rfl, rfl⟩
    | succ i =>
      have := recCells_at rs i r (by simpa using h)
      rw [show (i + 1) * 2 = i * 2 + 1 + 1 by omega]
      simpa using this

theorem RecsIn.of_own {w : World} {base n : Nat} {e : TypeId} {v : Value} {rs : List Rec} (h : w.ownsRow base e 2 v n (recCells rs)) :
    ∃ a c, v = .slice a n c ∧ n = rs.length ∧ n ≤ c ∧ c ≤ maxLen ∧ RecsIn w a rs ∧ (∀ x, a = some x → base ≤ x.block ∧ x.block < w.heap.size) := by
  have hl := h.1
  rw [recCells_len] at hl
  have hn : n = rs.length := by omega
  rcases h.2 with ⟨hv, h0⟩ | ⟨g, cap, cur, hv, hb, hh, hc, hm, hs, ht⟩
  · subst h0
    exact ⟨none, 0, hv, hn, Nat.le_refl _, Nat.zero_le _, .inl (List.length_eq_zero_iff.1 hn.symm), fun x hx => by cases hx⟩
  · have hlt : g < w.heap.size := (Array.getElem?_eq_some_iff.1 hh).1
    refine ⟨some ⟨g, 0, none⟩, cap, hv, hn, hc, hm, .inr ⟨g, 0, rfl, hlt, fun i r hi => ?_⟩, fun x hx => by cases hx; exact ⟨hb, hlt⟩⟩
    obtain ⟨c0, c1⟩ := recCells_at rs i r hi
    have hir : i < rs.length := (List.getElem?_eq_some_iff.1 hi).1
    have get : ∀ j u, j < n * 2 → (recCells rs)[j]? = some u → w.cell? ⟨g, j, none⟩ = some u := fun j u hj hu => by
      rw [← ht, List.getElem?_take, if_pos hj] at hu
      rw [World.cell?, hh]
      simpa using hu
    rw [Nat.zero_add]
    exact ⟨get _ _ (by omega) c0, get _ _ (by omega) c1⟩

theorem own_block2 {w : World} {base n size : Nat} {e : TypeId} {v : Value} {xs : List Value} (h : w.ownsRow base e size v n xs) : ∀ k, v.ownBlock = some k → base ≤ k := by
  intro k hk
  rcases h.2 with ⟨h', _⟩ | ⟨g', cap', cur, hv, hb', _⟩
  · rw [h'] at hk; cases hk
  · rw [hv] at hk
    obtain rfl : g' = k := by simpa [Value.ownBlock] using hk
    exact hb'
/-- own rows stay where nothing below B has turned -/
theorem own_stay {w w' : World} {base B n size : Nat} {e : TypeId} {v : Value} {xs : List Value} (h : w.ownsRow base e size v n xs) (hb : Below B w w') (hB : w.heap.size ≤ B) : w'.ownsRow base e size v n xs := by
  obtain ⟨h1, h2⟩ := h
  refine ⟨h1, ?_⟩
  rcases h2 with h2 | ⟨g', cap', cur, hv, hb', hh, r⟩
  · exact Or.inl h2
  · have hlt : g' < w.heap.size := (Array.getElem?_eq_some_iff.1 hh).1
    exact Or.inr ⟨g', cap', cur, hv, hb', by rw [hb.block g' (by omega)]; exact hh, r⟩

section
variable {P : Program} {w : World} {ops : Array Oper} {rest : List Oper} {o : Oper} {a : Act} {Q : Exit → Act → World → Prop}

/-- a slice of one record -/
theorem wpList_lit_rec (hgd : o.guard = none) (t e : TypeId) (x : Operand) (ho : o.op = .buildSlice t 1 #[(0, x)]) (ht : P.underlying t = some (.slice e)) (z : Value) (hI : (P.info? e).map (fun i => (i.zero, i.size)) = some (some z, 2))
    (k v : ByteArray) (hx : a.eval x = .agg #[.string k, .string v])
    (K : ∀ w', w'.heap[w.heap.size]? = some (.cells #[.string k, .string v] e (0, 0)) → Below w.heap.size w w' → wpList P ops Q rest (a.put o.dst (.slice (some ⟨w.heap.size, 0, none⟩) 1 1)) w') : wpList P ops Q (o :: rest) a w := by
  refine wpList_plain hgd fun K' hK => ?_
  cases hq : P.info? e with
  | none => simp [hq] at hI
  | some i =>
    simp [hq] at hI
    have hrun : (Instr.buildSlice t 1 #[(0, .agg #[.string k, .string v])]).run P w = .ok (.slice (some ⟨w.heap.size, 0, none⟩) 1 1) (w.alloc (.cells #[.string k, .string v] e)) := by
      simp [Instr.buildSlice, run_underlying ht, sizeOf, typeInfo, zeroValue, hq, hI.1, hI.2, Instr.fill, newRow, Value.cells]
      rw [show Array.range 2 = #[0, 1] by decide]; simp
    unfold Oper.wp
    simp [execOp, ho, hx, hrun, Result.andThen]
    exact hK _ _ (K _ (heap_alloc_new w _) ((Below.refl _ _).alloc (Nat.le_refl _) _))

/-- 'append(l, r)' on records of the call's own, r in a slice of one -/
theorem wpList_append_rec (hgd : o.guard = none) (s x : Operand) (t : TypeId) (ho : o.op = .call { callee := .builtin .append, args := #[s, x], argTypes := #[t, t] })
    (base : Nat) (e : TypeId) (i0 : TypeInfo) (z : Value) (hT : P.underlying t = some (.slice e)) (hI : Hid (P.info? e = some i0 ∧ i0.zero = some z ∧ i0.size = 2 ∧ i0.bytes = 32 ∧ z.cells.size = 2))
    (v : Value) (n : Nat) (rs : List Rec) (hs : a.eval s = v) (hown : w.ownsRow base e 2 v n (recCells rs))
    (b : Nat) (r : Rec) (hx : a.eval x = .slice (some ⟨b, 0, none⟩) 1 1) (hb : w.heap[b]? = some (.cells #[.string r.1, .string r.2] e (0, 0))) (h47 : n ≤ 1000000) (hbase : base ≤ w.heap.size)
    (K : ∀ v' w', w'.ownsRow base e 2 v' (n + 1) (recCells (rs ++ [r])) → Below base w w' → (∀ k, k < w.heap.size → some k ≠ v.ownBlock → w'.heap[k]? = w.heap[k]?) → wpList P ops Q rest (a.put o.dst v') w') : wpList P ops Q (o :: rest) a w := by
  refine wpList_append_own _ hgd s x t ho base e i0 z 2 32 hT hI.out.1 hI.out.2.1 hI.out.2.2.1 hI.out.2.2.2.1 hI.out.2.2.2.2 (by decide) v n _ hs hown ⟨b, 0, none⟩ 1 1 [.string r.1, .string r.2] hx rfl ?_ ?_ (by unfold maxLen; omega) (by omega) hbase ?_
  · intro j u hj
    rw [add_plain', Nat.zero_add, World.cell?, hb]
    match j, hj with
    | 0, hj => simpa using hj
    | 1, hj => simpa using hj
    | j + 2, hj => simp at hj
  · intro u hu
    simp at hu
    rcases hu with rfl | rfl <;> rfl
  · intro v' w' h1 h2 _
    exact K v' w' (by rw [recCells_snoc]; exact h1) ((Below.refl _ _).grown h2 hbase (own_block2 hown)) (fun k hk hr => h2.block k hk hr)
end
end Go.Proofs.YtokjmehecfjhmaaDoor.Pxr
