/-
  Slices of members: written out, grown, owned. Nothing of the program.
-/
import Derived.Test.YtmbimnnacjbdfaaGreatDoorPz20
import Derived.Test.YtmbimnnacjbdfaaGreatDoorPz17
import Derived.Test.YtmbimnnacjbdfaaGreatDoorPz07
import Derived.OwnWalk
import Derived.Laws.CopyRow
import Derived.Test.YtmbimnnacjbdfaaGreatDoorPz19
import Derived.Test.YtmbimnnacjbdfaaGreatDoorPz05
import Derived.Test.YtmbimnnacjbdfaaGreatDoorPz30
namespace Go.Proofs.YtmbimnnacjbdfaaGreatDoor.Flt
open Go.RowKit

theorem MbsAt.of_cells {w : World} {g : Nat} {e : TypeId} {ys : List MbS} (h : ObjAt w g e (mbCells ys)) : MbsAt w g 0 ys := fun i y hi j v hv => by
  rw [Nat.zero_add, h.cell]
  exact mbCells_at ys i y hi j v hv
theorem MbsAt.news {w : World} {b off : Nat} {ys : List MbS} (h : MbsAt w b off ys) : ∀ j u, (mbCells ys)[j]? = some u → w.cell? ((⟨b, off, none⟩ : Addr).add j) = some u := fun j u hu => by
  rw [add_plain']
  have hj : j < (mbCells ys).length := (List.getElem?_eq_some_iff.mp hu).1
  rw [mbCells_len] at hj
  have hi : j / 6 < ys.length := by omega
  have hy : ys[j / 6]? = some ys[j / 6] := List.getElem?_eq_getElem hi
  have hr : j % 6 < (mbV ys[j / 6]).length := by simp; omega
  have hv : (mbV ys[j / 6])[j % 6]? = some (mbV ys[j / 6])[j % 6] := List.getElem?_eq_getElem hr
  have h1 := mbCells_at ys (j / 6) _ hy (j % 6) _ hv
  rw [show j / 6 * 6 + j % 6 = j by omega, hu] at h1
  have h2 := h (j / 6) _ hy (j % 6) _ hv
  rw [show off + j / 6 * 6 + j % 6 = off + j by omega] at h2
  rw [h2, h1]
theorem mbCells_one (ys : List MbS) : ∀ u ∈ mbCells ys, u.oneCell' = true := by
  intro u hu
  unfold mbCells at hu
  obtain ⟨y, _, h⟩ := List.mem_flatMap.mp hu
  revert h
  simp
  rintro (rfl | rfl | rfl | rfl | rfl | rfl) <;> rfl
/-- a slice of the call's own -/
theorem MbsIn.of_own {w : World} {base n : Nat} {e : TypeId} {v : Value} {ys : List MbS} (h : w.ownsRow base e 6 v n (mbCells ys)) :
    ∃ a c, v = .slice a n c ∧ n = ys.length ∧ n ≤ c ∧ c ≤ maxLen ∧ MbsIn w a ys ∧ (∀ x, a = some x → base ≤ x.block ∧ x.block < w.heap.size) := by
  have hl := h.1
  rw [mbCells_len] at hl
  have hn : n = ys.length := by omega
  rcases h.2 with ⟨hv, h0⟩ | ⟨g, cap, cur, hv, hb, hh, hc, hm, hs, ht⟩
  · subst h0
    exact ⟨none, 0, hv, hn, Nat.le_refl _, Nat.zero_le _, .inl (List.length_eq_zero_iff.1 hn.symm), fun x hx => by cases hx⟩
  · have hlt : g < w.heap.size := (Array.getElem?_eq_some_iff.1 hh).1
    refine ⟨some ⟨g, 0, none⟩, cap, hv, hn, hc, hm, .inr ⟨g, 0, rfl, hlt, fun i y hi j u hu => ?_⟩, fun x hx => by cases hx; exact ⟨hb, hlt⟩⟩
    have hat := mbCells_at ys i y hi j u hu
    have hir : i < ys.length := (List.getElem?_eq_some_iff.1 hi).1
    have hj6 : j < 6 := by have := (List.getElem?_eq_some_iff.mp hu).1; simpa using this
    have hlt2 : i * 6 + j < n * 6 := by omega
    rw [← ht, List.getElem?_take, if_pos hlt2] at hat
    rw [Nat.zero_add, World.cell?, hh]
    simpa using hat
/-- nodes with what a walk is told of each, in a slice of the call's own -/
theorem ArgMbs.of_own {w : World} {base n : Nat} {e : TypeId} {v : Value} {ys : List MbS} (h : w.ownsRow base e 6 v n (mbCells ys)) (hf : ∀ y ∈ ys, MbF w y) :
    ∃ a c, v = .slice a n c ∧ ArgMbs w a n c ys := by
  obtain ⟨a, c, rfl, hn, hc, hm, hi, _⟩ := MbsIn.of_own h
  exact ⟨a, c, rfl, hn.symm, hc, hm, hi, hf⟩

section
variable {P : Program} {w : World} {ops : Array Oper} {rest : List Oper} {o : Oper} {a : Act} {Q : Exit → Act → World → Prop}

theorem run_lit_mb0 (t e : TypeId) (ht : P.underlying t = some (.slice e)) (z : Value) (hI : (P.info? e).map (fun i => (i.zero, i.size)) = some (some z, 6)) :
    (Instr.buildSlice t 0 #[]).run P w = .ok (.slice (some ⟨w.heap.size, 0, none⟩) 0 0) (w.alloc (.cells #[] e)) := by
  cases hq : P.info? e with
  | none => simp [hq] at hI
  | some i =>
    simp [hq] at hI
    simp [Instr.buildSlice, run_underlying ht, sizeOf, typeInfo, hq, Instr.fill, newRow]
    rw [show Array.range 0 = #[] by decide]; simp
theorem own_lit_mb0 (w : World) (e : TypeId) : (w.alloc (.cells #[] e)).ownsRow w.heap.size e 6 (.slice (some ⟨w.heap.size, 0, none⟩) 0 0) 0 (mbCells []) :=
  ⟨rfl, .inr ⟨w.heap.size, 0, #[], rfl, Nat.le_refl _, heap_alloc_new w _, Nat.le_refl _, Nat.zero_le _, rfl, rfl⟩⟩
theorem run_lit_mb1 (t e : TypeId) (ht : P.underlying t = some (.slice e)) (z : Value) (hI : (P.info? e).map (fun i => (i.zero, i.size)) = some (some z, 6)) (y : MbS) :
    (Instr.buildSlice t 1 #[(0, .agg (mbV y).toArray)]).run P w = .ok (.slice (some ⟨w.heap.size, 0, none⟩) 1 1) (w.alloc (.cells (mbCells [y]).toArray e)) := by
  cases hq : P.info? e with
  | none => simp [hq] at hI
  | some i =>
    simp [hq] at hI
    simp [Instr.buildSlice, run_underlying ht, sizeOf, typeInfo, zeroValue, hq, hI.1, hI.2, Instr.fill, newRow, Value.cells]
    rw [show Array.range 6 = #[0, 1, 2, 3, 4, 5] by decide]; simp [mbCells]
theorem run_lit_mb2 (t e : TypeId) (ht : P.underlying t = some (.slice e)) (z : Value) (hI : (P.info? e).map (fun i => (i.zero, i.size)) = some (some z, 6)) (y y' : MbS) :
    (Instr.buildSlice t 2 #[(0, .agg (mbV y).toArray), (1, .agg (mbV y').toArray)]).run P w = .ok (.slice (some ⟨w.heap.size, 0, none⟩) 2 2) (w.alloc (.cells (mbCells [y, y']).toArray e)) := by
  cases hq : P.info? e with
  | none => simp [hq] at hI
  | some i =>
    simp [hq] at hI
    simp [Instr.buildSlice, run_underlying ht, sizeOf, typeInfo, zeroValue, hq, hI.1, hI.2, Instr.fill, newRow, Value.cells]
    rw [show Array.range 12 = #[0, 1, 2, 3, 4, 5, 6, 7, 8, 9, 10, 11] by decide]; simp [mbCells]
theorem wpList_lit_mb1 (hgd : o.guard = none) (t e : TypeId) (x : Operand) (ho : o.op = .buildSlice t 1 #[(0, x)]) (ht : P.underlying t = some (.slice e)) (z : Value) (hI : (P.info? e).map (fun i => (i.zero, i.size)) = some (some z, 6))
    (y : MbS) (hx : a.eval x = .agg (mbV y).toArray)
    (K : ∀ w', ObjAt w' w.heap.size e (mbCells [y]) → Below w.heap.size w w' → wpList P ops Q rest (a.put o.dst (.slice (some ⟨w.heap.size, 0, none⟩) 1 1)) w') : wpList P ops Q (o :: rest) a w := by
  refine wpList_plain hgd fun K' hK => ?_
  have hrun := run_lit_mb1 (P := P) (w := w) t e ht z hI y
  unfold Oper.wp
  simp only [execOp, ho, List.map_toArray, List.map_cons, List.map_nil, hx, hrun, Sem.run_bind, Sem.run_pure, Result.andThen_ok]
  exact hK _ _ (K _ (heap_alloc_new w _) ((Below.refl _ _).alloc (Nat.le_refl _) _))
/-- an operation whose guard lets it run -/
theorem wpList_wanted (hw : Region.wanted o (yielded ops a.tmps) = true) (h : ∀ K : Act → World → Prop, (∀ a w, wpList P ops Q rest a w → K a w) → o.wp P a w K Q) : wpList P ops Q (o :: rest) a w :=
  wpList_step fun K hK => by rw [if_pos hw]; exact h K hK
theorem wpList_lit_mb1_w (hw : Region.wanted o (yielded ops a.tmps) = true) (t e : TypeId) (x : Operand) (ho : o.op = .buildSlice t 1 #[(0, x)]) (ht : P.underlying t = some (.slice e)) (z : Value) (hI : (P.info? e).map (fun i => (i.zero, i.size)) = some (some z, 6))
    (y : MbS) (hx : a.eval x = .agg (mbV y).toArray)
    (K : ∀ w', ObjAt w' w.heap.size e (mbCells [y]) → Below w.heap.size w w' → wpList P ops Q rest (a.put o.dst (.slice (some ⟨w.heap.size, 0, none⟩) 1 1)) w') : wpList P ops Q (o :: rest) a w := by
  refine wpList_wanted hw fun K' hK => ?_
  have hrun := run_lit_mb1 (P := P) (w := w) t e ht z hI y
  unfold Oper.wp
  simp only [execOp, ho, List.map_toArray, List.map_cons, List.map_nil, hx, hrun, Sem.run_bind, Sem.run_pure, Result.andThen_ok]
  exact hK _ _ (K _ (heap_alloc_new w _) ((Below.refl _ _).alloc (Nat.le_refl _) _))
theorem wpList_lit_mb2 (hgd : o.guard = none) (t e : TypeId) (x x' : Operand) (ho : o.op = .buildSlice t 2 #[(0, x), (1, x')]) (ht : P.underlying t = some (.slice e)) (z : Value) (hI : (P.info? e).map (fun i => (i.zero, i.size)) = some (some z, 6))
    (y y' : MbS) (hx : a.eval x = .agg (mbV y).toArray) (hx' : a.eval x' = .agg (mbV y').toArray)
    (K : ∀ w', ObjAt w' w.heap.size e (mbCells [y, y']) → Below w.heap.size w w' → wpList P ops Q rest (a.put o.dst (.slice (some ⟨w.heap.size, 0, none⟩) 2 2)) w') : wpList P ops Q (o :: rest) a w := by
  refine wpList_plain hgd fun K' hK => ?_
  have hrun := run_lit_mb2 (P := P) (w := w) t e ht z hI y y'
  unfold Oper.wp
  simp only [execOp, ho, List.map_toArray, List.map_cons, List.map_nil, hx, hx', hrun, Sem.run_bind, Sem.run_pure, Result.andThen_ok]
  exact hK _ _ (K _ (heap_alloc_new w _) ((Below.refl _ _).alloc (Nat.le_refl _) _))
theorem wpList_lit_mb0 (hgd : o.guard = none) (t e : TypeId) (ho : o.op = .buildSlice t 0 #[]) (ht : P.underlying t = some (.slice e)) (z : Value) (hI : (P.info? e).map (fun i => (i.zero, i.size)) = some (some z, 6))
    (K : ∀ w', w'.ownsRow w.heap.size e 6 (.slice (some ⟨w.heap.size, 0, none⟩) 0 0) 0 (mbCells []) → Below w.heap.size w w' → wpList P ops Q rest (a.put o.dst (.slice (some ⟨w.heap.size, 0, none⟩) 0 0)) w') : wpList P ops Q (o :: rest) a w := by
  refine wpList_plain hgd fun K' hK => ?_
  have hrun := run_lit_mb0 (P := P) (w := w) t e ht z hI
  unfold Oper.wp
  simp [execOp, ho, hrun, Result.andThen]
  exact hK _ _ (K _ (own_lit_mb0 w e) ((Below.refl _ _).alloc (Nat.le_refl _) _))
/-- append of nodes to nodes of the call's own -/
theorem run_append_mms (t ty e : TypeId) (base : Nat) (i0 : TypeInfo) (z : Value) (hT : P.underlying t = some (.slice e)) (hI : Hid (P.info? e = some i0 ∧ i0.zero = some z ∧ i0.size = 6 ∧ i0.bytes = 80)) (hz : z.cells.size = 6)
    (v : Value) (n : Nat) (ys : List MbS) (hown : w.ownsRow base e 6 v n (mbCells ys))
    (b : Option Addr) (m c : Nat) (xs : List MbS) (hy : MbsIn w b xs) (hl : xs.length = m) (h47 : n + m ≤ 1048576) (hbase : base ≤ w.heap.size) :
    ∃ v' w', (Builtin.append_ #[t, t] ty #[v, .slice b m c]).run P w = .ok v' w' ∧ w'.ownsRow base e 6 v' (n + m) (mbCells (ys ++ xs)) ∧ Below base w w' ∧ (∀ k, k < w.heap.size → some k ≠ v.ownBlock → w'.heap[k]? = w.heap[k]?) ∧ (v'.ownBlock = v.ownBlock ∨ v'.ownBlock = some w.heap.size) := by
  rcases hy with hy | ⟨b', off, rfl, _, hy⟩
  · subst hy
    obtain rfl : m = 0 := hl.symm
    exact ⟨v, w, run_append_empty (P := P) w base t ty e i0 6 hT hI.out.1 v n _ hown b c, by simpa using hown, Below.refl _ _, fun _ _ _ => rfl, .inl rfl⟩
  · obtain ⟨v', w', hr, k1, k2, _, k3⟩ := run_append_own_at (P := P) w base t ty e i0 z 6 80 hT hI.out.1 hI.out.2.1 hI.out.2.2.1 hI.out.2.2.2 hz (by decide) v n _ hown ⟨b', off, none⟩ m c (mbCells xs) (by rw [mbCells_len, hl]) hy.news (mbCells_one xs) (by unfold maxLen; omega) (by omega) hbase
    exact ⟨v', w', hr, by rw [mbCells_append]; exact k1, (Below.refl _ _).grown k2 hbase (fun k hk => (own_under hown k hk).1), fun k hk hr => k2.block k hk hr, k3⟩
theorem wpList_append_mms (hgd : o.guard = none) (s x : Operand) (t : TypeId) (ho : o.op = .call { callee := .builtin .append, args := #[s, x], argTypes := #[t, t] })
    (e : TypeId) (base : Nat) (i0 : TypeInfo) (z : Value) (hT : P.underlying t = some (.slice e)) (hI : Hid (P.info? e = some i0 ∧ i0.zero = some z ∧ i0.size = 6 ∧ i0.bytes = 80)) (hz : z.cells.size = 6)
    (v : Value) (n : Nat) (ys : List MbS) (hs : a.eval s = v) (hown : w.ownsRow base e 6 v n (mbCells ys))
    (b : Option Addr) (m c : Nat) (xs : List MbS) (hx : a.eval x = .slice b m c) (hy : MbsIn w b xs) (hl : xs.length = m) (h47 : n + m ≤ 1048576) (hbase : base ≤ w.heap.size)
    (K : ∀ v' w', w'.ownsRow base e 6 v' (n + m) (mbCells (ys ++ xs)) → Below base w w' → (∀ k, k < w.heap.size → some k ≠ v.ownBlock → w'.heap[k]? = w.heap[k]?) → (v'.ownBlock = v.ownBlock ∨ v'.ownBlock = some w.heap.size) → wpList P ops Q rest (a.put o.dst v') w') : wpList P ops Q (o :: rest) a w := by
  obtain ⟨v', w', hr, k1, k2, k3, k4⟩ := run_append_mms (P := P) (w := w) t o.type e base i0 z hT hI hz v n ys hown b m c xs hy hl h47 hbase
  refine wpList_plain hgd fun K' hK => ?_
  unfold Oper.wp
  simp [execOp, ho, resolve, invoke, builtin, hs, hx, hr, Result.andThen]
  exact hK _ _ (K _ _ k1 k2 k3 k4)
end
end Go.Proofs.YtmbimnnacjbdfaaGreatDoor.Flt
/-
  A row of members of the call's own, made and stored into. Nothing of the program.
-/
namespace Go.Proofs.YtmbimnnacjbdfaaGreatDoor.Flt
open Go.RowKit Go.Proofs.YtmbimnnacjbdfaaGreatDoor.Fit

abbrev mb0 : MbS := ⟨⟨⟨0, emp, 0, emp, 0⟩, []⟩, none, 0⟩
theorem cells0_at (n : Nat) : (mbCells (List.replicate n mb0)).toArray = madeCells (Value.agg (mbC 0 emp 0 emp 0 none 0 0).toArray).cells (n * 6) := by
  apply Array.ext
  · rw [size_madeCells, List.size_toArray, mbCells_len, List.length_replicate]
  · intro i h1 h2
    have hi : i < n * 6 := by rw [size_madeCells] at h2; exact h2
    have hl : i / 6 < n := by omega
    have := mbCells_at (List.replicate n mb0) (i / 6) mb0 (by rw [List.getElem?_replicate, if_pos hl]) (i % 6) ((mbV mb0)[i % 6]'(by simp; omega)) (List.getElem?_eq_getElem _)
    rw [show i / 6 * 6 + i % 6 = i by omega] at this
    have h3 : (mbCells (List.replicate n mb0)).toArray[i]? = some ((mbV mb0)[i % 6]'(by simp; omega)) := by simpa using this
    rw [Array.getElem?_eq_getElem h1] at h3
    rw [Option.some.inj h3]
    simp only [madeCells, Array.getElem_map, Array.getElem_range]
    have : i % 6 < 6 := by omega
    rcases (show i % 6 = 0 ∨ i % 6 = 1 ∨ i % 6 = 2 ∨ i % 6 = 3 ∨ i % 6 = 4 ∨ i % 6 = 5 by omega) with e | e | e | e | e | e <;> simp [e, Value.cells]
theorem mbV_one (u : MbS) : ∀ v ∈ mbV u, v.oneCell' = true := by simp [Value.oneCell']
theorem mbCells_set : ∀ (us : List MbS) (i : Nat) (u : MbS), i < us.length → (mbCells us).take (i * 6) ++ mbV u ++ (mbCells us).drop (i * 6 + 6) = mbCells (us.set i u)
  | [], i, u, h => by simp at h
  | y :: us, 0, u, _ => by
    rw [mbCells_cons, List.set_cons_zero, mbCells_cons]
    simp
  | y :: us, i + 1, u, h => by
    rw [mbCells_cons, List.set_cons_succ, mbCells_cons, ← mbCells_set us i u (by simpa using h)]
    have hl : (mbV y).length = 6 := by simp
    rw [show (i + 1) * 6 = (mbV y).length + i * 6 by rw [hl]; omega, List.take_append, Nat.add_assoc, List.drop_append]
    have e1 : (mbV y).take ((mbV y).length + i * 6) = mbV y := List.take_of_length_le (by omega)
    have e2 : (mbV y).drop ((mbV y).length + (i * 6 + 6)) = [] := List.drop_eq_nil_of_le (by omega)
    rw [e1, e2, Nat.add_sub_cancel_left, Nat.add_sub_cancel_left]
    simp
section
variable {P : Program} {w : World} {ops : Array Oper} {rest : List Oper} {o : Oper} {a : Act} {Q : Exit → Act → World → Prop}
/-- 'make([]api.Member, n)' -/
theorem wpList_make_mbs (hgd : o.guard = none) (l c : Operand) (t e : TypeId) (ho : o.op = .makeSlice t l c) (ht : P.underlying t = some (.slice e)) (i0 : TypeInfo) (hI : Hid (P.info? e = some i0 ∧ i0.zero = some (.agg (mbC 0 emp 0 emp 0 none 0 0).toArray) ∧ i0.size = 6 ∧ i0.bytes = 80))
    (n : Nat) (hl : a.eval l = .int .i64 (n : Int)) (hc : a.eval c = .int .i64 (n : Int)) (hn : n ≤ 1000000)
    (K : ∀ w', ObjAt w' w.heap.size e (mbCells (List.replicate n mb0)) → Below w.heap.size w w' → wpList P ops Q rest (a.put o.dst (.slice (some ⟨w.heap.size, 0, none⟩) n n)) w') : wpList P ops Q (o :: rest) a w := by
  refine wpList_make_full w hgd l c t ho w.heap.size e i0 _ 6 ht hI.out.1 hI.out.2.1 hI.out.2.2.1 .i64 .i64 n n n hl hc rfl rfl (by rw [hI.out.2.2.2]; omega) (by unfold maxLen; omega) (Nat.le_refl _) fun w' h1 h2 => ?_
  refine K w' ?_ ((Below.refl _ _).grown h2 (Nat.le_refl _) (fun _ h => by cases h))
  obtain ⟨h3, h4⟩ := h1
  rcases h4 with ⟨hv, _⟩ | ⟨g, cap, cur, hv, _, hh, _, _, hs, hx⟩
  · cases hv
  · injection hv with e1 _ e3
    injection e1 with e1; injection e1 with e1 _
    subst e1; subst e3
    unfold ObjAt
    rw [cells0_at]
    have e : cur = madeCells (Value.agg (mbC 0 emp 0 emp 0 none 0 0).toArray).cells (n * 6) := by
      have h5 : cur.toList.take (n * 6) = cur.toList := List.take_of_length_le (by simp [hs])
      rw [h5] at hx
      exact Array.ext' hx
    rw [← e]
    exact hh
/-- a member into its place -/
theorem wpList_store_mb (hgd : o.guard = none) (T : TypeId) (x y : Operand) (ho : o.op = .store T x y) (g q i : Nat) (hx : a.eval x = .pointer (some ⟨g, q, none⟩)) (hq : q = i * 6)
    (u : MbS) (hy : a.eval y = .agg (mbV u).toArray) (hs : (P.info? T).map (·.size) = some 6) (T' : TypeId) (us : List MbS) (hg : ObjAt w g T' (mbCells us)) (hi : i < us.length)
    (K : ∀ w', ObjAt w' g T' (mbCells (us.set i u)) → TurnB w w' g → wpList P ops Q rest (a.put o.dst undef) w') : wpList P ops Q (o :: rest) a w := by
  subst hq
  refine wpList_plain hgd fun K' hK => ?_
  have hb : i * 6 + 0 + (mbV u).length ≤ (mbCells us).toArray.size := by
    rw [List.size_toArray, mbCells_len]; simp; omega
  have hst := run_storeCells_at (P := P) g (i * 6) T' (mbV u) 0 (mbCells us).toArray w hg hb (mbV_one u)
  have e : ((mbCells us).toArray.toList.take (i * 6 + 0) ++ mbV u ++ (mbCells us).toArray.toList.drop (i * 6 + 0 + (mbV u).length)).toArray = (mbCells (us.set i u)).toArray := by
    rw [← mbCells_set us i u hi]; simp
  rw [e] at hst
  cases hq : P.info? T with
  | none => simp [hq] at hs
  | some j =>
    have hj : j.size = 6 := by simpa [hq] using hs
    have hrun : (storeVar T ⟨g, i * 6, none⟩ (.agg (mbV u).toArray)).run P w = .ok () (w.setRow g (mbCells (us.set i u)).toArray) := by
      have hsz : (Value.agg (mbV u).toArray).cells.size = 6 := rfl
      simp only [storeVar, Sem.run_bind, sizeOf, typeInfo, hsz]
      simp [hq, hj, Value.cells]
      exact hst
    unfold Oper.wp execOp
    simp only [ho, hx, hy, Instr.storeAt, Instr.sureAddr, Sem.run_bind, Sem.run_pure, Result.andThen_ok, hrun]
    have hT : Turned w (w.setRow g (mbCells (us.set i u)).toArray) g := ⟨_, rfl⟩
    exact hK _ _ (K _ (setRow_heap w g _ _ T' _ hg) ⟨fun hB => hT.below hB, fun hk => hT.other hk, hT.size⟩)
end
end Go.Proofs.YtmbimnnacjbdfaaGreatDoor.Flt
/-
  Layer 14: the program's nodeMember and linkMember.
-/
namespace Go.Proofs.YtmbimnnacjbdfaaGreatDoor.Flt
open Go.RowKit Go.Proofs.YtmbimnnacjbdfaaGreatDoor.Fit Tre

theorem mbT : ObjT Tryz.prog 27 6 := ⟨⟨_, Tryz.underlying27⟩, by kernel_rfl⟩
theorem zMb : (Tryz.prog.info? 27).map (·.zero) = some (some (.agg (mbC 0 emp 0 emp 0 none 0 0).toArray)) := by kernel_rfl
theorem mb_one (k : Int) (p : ByteArray) (m : Int) (t : ByteArray) (s : Int) (a : Option Addr) (n cap : Nat) : ∀ v ∈ mbC k p m t s a n cap, v.oneCell' = true := by simp [Value.oneCell']

set_option maxHeartbeats 2000000 in
theorem linkM_any (k : Int) (p : ByteArray) (m : Int) (t : ByteArray) (a : Option Addr) (n cap : Nat) (c : Int) (q : ByteArray) (w : World) :
    Calls Tryz.prog 20 #[.agg (ndL k p m t a n cap c).toArray, .string q] w fun e w' => e = .returned (.agg (mbC 3 p m q 0 none 0 0).toArray) ∧ Below w.heap.size w w' := by
  have MZ := Lib.hid zMb
  have MO := Lib.hid mbT
  go_enter Tryz.func20, Tryz.ntmps20
  go_wp2_with (first | (refine wpList_box_obj rfl 50 _ rfl (ndL k p m t a n cap c) rfl ?_; intro w1 g1 b1; have G1 := Lib.hid g1; have B1 := Lib.hid b1; clear g1 b1) | (refine wpList_alloc_obj rfl 27 rfl (mbC 0 emp 0 emp 0 none 0 0) MZ.out ?_; intro w2 g2 b2; have G2 := Lib.hid g2; have K1 := Lib.hid (G1.out.below b2 G1.out.lt); have B2 := Lib.hid (belT B1.out b2); have c1 := K1.out.get 1 rfl; have c2 := K1.out.get 2 rfl; clear g2 b2) | (refine wpList_store_obj rfl 27 _ _ rfl w1.heap.size rfl (mbC 3 p m q 0 none 0 0) (mbC 0 emp 0 emp 0 none 0 0) rfl 27 G2.out MO.out.2 rfl (mb_one _ _ _ _ _ _ _ _) ?_; intro w3 g3 t3; have G3 := Lib.hid g3; have B3 := Lib.hid (B2.out.trans (t3.below B1.out.size)); clear g3 t3))
  exact bodyPost_ret (results_obj Tryz.results20 MO.out _ w1.heap.size rfl _ _ G3.out rfl) rfl ⟨rfl, B3.out⟩

set_option maxHeartbeats 2000000 in
theorem nodeM_any (k : Int) (p : ByteArray) (m : Int) (t : ByteArray) (a : Option Addr) (n cap : Nat) (c : Int) (w : World) :
    Calls Tryz.prog 21 #[.agg (ndL k p m t a n cap c).toArray] w fun e w' => e = .returned (.agg (mbC k p m t n a n cap).toArray) ∧ Below w.heap.size w w' := by
  have MZ := Lib.hid zMb
  have MO := Lib.hid mbT
  have EZ := Lib.hid zEn
  have EO := Lib.hid enT
  go_enter Tryz.func21, Tryz.ntmps21
  go_wp2_with (first | (refine wpList_box_obj rfl 50 _ rfl (ndL k p m t a n cap c) rfl ?_; intro w1 g1 b1; have G1 := Lib.hid g1; have B1 := Lib.hid b1; clear g1 b1) | (refine wpList_alloc_obj rfl 27 rfl (mbC 0 emp 0 emp 0 none 0 0) MZ.out ?_; intro w2 g2 b2; have G2 := Lib.hid g2; have N1 := Lib.hid G1.out.lt; have K1 := Lib.hid (G1.out.below b2 G1.out.lt); have B2 := Lib.hid (belT B1.out b2); have c0 := K1.out.get 0 rfl; have c1 := K1.out.get 1 rfl; have c2 := K1.out.get 2 rfl; have c3 := K1.out.get 3 rfl; have c4 := K1.out.get 4 rfl; clear g2 b2) | (refine wpList_alloc_obj rfl 24 rfl (enV 0 emp 0 emp 0) EZ.out ?_; intro w3 g3 b3; have G3 := Lib.hid g3; have N2 := Lib.hid G2.out.lt; have K2 := Lib.hid (K1.out.below b3 K1.out.lt); have G23 := Lib.hid (G2.out.below b3 G2.out.lt); have B3 := Lib.hid (belT B2.out b3); clear g3 b3 c0 c1 c2 c3 c4) | (refine wpList_store_obj rfl 24 _ _ rfl w2.heap.size rfl (enV k p m t n) (enV 0 emp 0 emp 0) rfl 24 G3.out EO.out.2 rfl (en_one _ _ _ _ _) ?_; intro w4 g4 t4; have G4 := Lib.hid g4; have G24 := Lib.hid (G23.out.turned t4 (Nat.ne_of_lt N2.out)); have K4 := Lib.hid (K2.out.turned t4 (Nat.ne_of_lt (Nat.lt_trans N1.out N2.out))); have B4 := Lib.hid (B3.out.trans (t4.below B2.out.size)); have c4 := K4.out.get 4 rfl; have d0 := G4.out.get 0 rfl; have d1 := G4.out.get 1 rfl; have d2 := G4.out.get 2 rfl; have d3 := G4.out.get 3 rfl; have d4 := G4.out.get 4 rfl; clear g4 t4) | (refine wpList_store_obj rfl 27 _ _ rfl w1.heap.size rfl (mbC k p m t n a n cap) (mbC 0 emp 0 emp 0 none 0 0) rfl 27 G24.out MO.out.2 rfl (mb_one _ _ _ _ _ _ _ _) ?_; intro w5 g5 t5; have G5 := Lib.hid g5; have B5 := Lib.hid (B4.out.trans (t5.below B1.out.size)); clear g5 t5))
  exact bodyPost_ret (results_obj Tryz.results21 MO.out _ w1.heap.size rfl _ _ G5.out rfl) rfl ⟨rfl, B5.out⟩
end Go.Proofs.YtmbimnnacjbdfaaGreatDoor.Flt
/-
  Layer 14: what stays while a row and a map are turned; the least paths as a map; what Members answers.
-/
namespace Go.Proofs.YtmbimnnacjbdfaaGreatDoor.Flt
open Go.RowKit Go.MapKept Go.Proofs.YtmbimnnacjbdfaaGreatDoor.Fit Pnm Tre

theorem TurnB.only {S : Nat → Prop} {w w' : World} {g : Nat} (t : TurnB w w' g) (h : S g) : Only S w w' :=
  ⟨(t.below (Nat.zero_le _)).os, (t.below (Nat.zero_le _)).tape, (t.below (Nat.zero_le _)).output, (t.below (Nat.zero_le _)).size, fun _ _ hk => t.other fun e => hk (e ▸ h)⟩
theorem ArgInts.only {S : Nat → Prop} {k : IntKind} {w w' : World} {a : Option Addr} {len cap : Nat} {zs : List Int} (h : ArgInts k w a len cap zs) (ho : Only S w w') (e : ∀ x, a = some x → ¬ S x.block) : ArgInts k w' a len cap zs := by
  obtain ⟨h1, h2, h3, h4, h5⟩ := h
  refine ⟨h1, h2, h3, h4, h5.imp id ?_⟩
  rintro ⟨b, off, rfl, hb, hc⟩
  refine ⟨b, off, rfl, Nat.lt_of_lt_of_le hb ho.size, fun i hi => ?_⟩
  have := hc i hi
  unfold World.cell? at this ⊢
  rw [ho.block b hb (e _ rfl)]
  exact this
theorem MbF.only {S : Nat → Prop} {w w' : World} {y : MbS} (h : MbF w y) (ho : Only S w w') (e : ∀ x, y.a = some x → ¬ S x.block) : MbF w' y := ⟨h.k, h.p, h.m, h.t, h.s, ArgInts.only h.d ho e, h.l⟩
theorem NdF.only {S : Nat → Prop} {w w' : World} {y : NdS} (h : NdF w y) (ho : Only S w w') (e : ∀ x, y.a = some x → ¬ S x.block) : NdF w' y := ⟨h.k, h.p, h.m, h.t, ArgInts.only h.d ho e, h.l, h.c⟩
/-- data of the call's own lie behind base -/
theorem frs_at {B : Nat} {w : World} {y : NdS} (h : Frs B w y) : ∀ x, y.a = some x → B ≤ x.block := fun x hx => by
  obtain ⟨h1, h2⟩ := h
  rcases h2 with ⟨hv, _⟩ | ⟨g, cap, cur, hv, hb, _⟩
  · injection hv with e1 _ _
    rw [hx] at e1; cases e1
  · injection hv with e1 _ _
    rw [hx] at e1
    injection e1 with e1
    subst e1
    exact hb

/-- the least paths met before place j -/
def Lst (F : Value → Option Value) (C : List Nd) (j : Nat) : Prop := ∀ c : Int, F (.int .i64 c) = (fr C j c).map fun y => .string y.p
theorem Lst.zero (C : List Nd) : Lst (fun _ => none) C 0 := fun _ => rfl
theorem Lst.stay {F : Value → Option Value} {C : List Nd} {j : Nat} (h : Lst F C j) (hj : j < C.length) (hs : (∃ y, fr C j (nd C j).c = some y) ∨ (nd C j).c ≤ 0) : Lst F C (j + 1) := fun c => by
  rw [h c, fr_step hj]
  by_cases hc : 0 < (nd C j).c ∧ (nd C j).c = c
  · rw [if_pos hc]
    rcases hs with ⟨y, hy⟩ | hs
    · rw [← hc.2, hy]; rfl
    · exact absurd hc.1 (by omega)
  · rw [if_neg hc]
    cases fr C j c <;> rfl
theorem Lst.more {F : Value → Option Value} {C : List Nd} {j : Nat} (h : Lst F C j) (hj : j < C.length) (hn : fr C j (nd C j).c = none) (hp : 0 < (nd C j).c) : Lst (upd F (.int .i64 (nd C j).c) (.string (nd C j).p)) C (j + 1) := fun c => by
  rw [fr_step hj]
  by_cases hc : (nd C j).c = c
  · subst hc
    rw [upd_same, hn, if_pos ⟨hp, rfl⟩]; rfl
  · rw [upd_ne (fun e => hc (by injection e with _ e; exact e.symm)), h c, if_neg (fun e => hc e.2)]
    cases fr C j c <;> rfl

/-- what Members answers -/
noncomputable def mbR (l : List Nd) : List Mb := if (chk l).2 = 0 then mbs (canon l) else []
def RetMb (w : World) (l : List Nd) (e : Ending) (w' : World) : Prop :=
  ∃ b k c us X1 X2, e = .returned (.tuple #[.slice b k c, .int .i64 X1, .int .i64 X2]) ∧ X1 = (chk l).1 ∧ X2 = (chk l).2 ∧ ArgMbs w' b k c us ∧ mms us = mbR l ∧ Below w.heap.size w w'
theorem RetMb.bad {w w' : World} {l : List Nd} {X1 X2 : Int} (h1 : X1 = (chk l).1) (h2 : X2 = (chk l).2) (h0 : X2 ≠ 0) (hb : Below w.heap.size w w') : RetMb w l (.returned (.tuple #[.slice none 0 0, .int .i64 X1, .int .i64 X2])) w' :=
  ⟨none, 0, 0, [], X1, X2, rfl, h1, h2, ⟨rfl, Nat.le_refl _, Nat.zero_le _, .inl rfl, fun _ h => by cases h⟩, by unfold mbR; rw [if_neg (by rw [← h2]; exact h0)]; rfl, hb⟩

/-- place i of the row is filled -/
structure El (S : Nat → Prop) (C : List Nd) (w : World) (i : Nat) (u : MbS) : Prop where
  n : u.n = mb C i
  f : MbF w u
  s : ∀ x, u.a = some x → ¬ S x.block
/-- the row before place j -/
structure Rw (S : Nat → Prop) (C : List Nd) (w : World) (n : Nat) (us : List MbS) (j : Nat) : Prop where
  len : us.length = n
  el : ∀ i, i < j → ∃ u, us[i]? = some u ∧ El S C w i u
theorem Rw.next {S : Nat → Prop} {C : List Nd} {w : World} {n : Nat} {us : List MbS} {j : Nat} (h : Rw S C w n us j) (hj : j < n) {u : MbS} (hu : El S C w j u) : Rw S C w n (us.set j u) (j + 1) := by
  refine ⟨by rw [List.length_set]; exact h.len, fun i hi => ?_⟩
  by_cases e : i = j
  · subst e
    exact ⟨u, List.getElem?_set_self (by rw [h.len]; exact hj), hu⟩
  · rw [List.getElem?_set_ne (fun e' => e e'.symm)]
    exact h.el i (by omega)
theorem Rw.done {S : Nat → Prop} {C : List Nd} {w w' : World} {n : Nat} {us : List MbS} (h : Rw S C w n us n) (hn : C.length = n) (ho : Only S w w') : mms us = mbs C ∧ ∀ u ∈ us, MbF w' u := by
  constructor
  · refine List.ext_getElem? fun i => ?_
    by_cases hi : i < n
    · obtain ⟨u, h1, h2⟩ := h.el i hi
      rw [mms_at h1, mbs_at (by omega), h2.n]
    · rw [List.getElem?_eq_none (by rw [mms_len, h.len]; omega), List.getElem?_eq_none (by rw [mbs_len]; omega)]
  · intro u hu
    obtain ⟨i, hi, rfl⟩ := List.getElem_of_mem hu
    obtain ⟨v, h1, h2⟩ := h.el i (by rw [← h.len]; exact hi)
    obtain rfl : us[i] = v := Option.some.inj ((List.getElem?_eq_getElem hi).symm.trans h1)
    exact h2.f.only ho h2.s
/-- a node that is no link, as a member -/
theorem own_el {S : Nat → Prop} {C : List Nd} {w : World} {i : Nat} {z : NdS} (hC : Can C) (hi : i < C.length) (hz : nd C i = z.n) (hn : fr C i (nd C i).c = none) (hf : NdF w z) (hs : ∀ x, z.a = some x → ¬ S x.block) :
    El S C w i ⟨⟨⟨z.n.k, z.n.p, z.n.m, z.n.t, z.n.d.length⟩, z.n.d⟩, z.a, z.cap⟩ := by
  refine ⟨?_, ⟨hf.k, hf.p, hf.m, hf.t, ?_, hf.d, hf.l⟩, hs⟩
  · rw [mb_none hn]
    have o := one_c (hC.v.one _ (nd_mem hi))
    unfold own1 entN
    rw [hz] at o ⊢
    by_cases hk : z.n.k = 1
    · rw [if_pos hk]
    · rw [if_neg hk, o.2.2.1 hk]; rfl
  · have := hf.l
    have e1 : IntKind.i64.min = -9223372036854775808 := by decide
    have e2 : IntKind.i64.max = 9223372036854775807 := by decide
    simp [Lit.wf]
    omega
theorem lnk_el {S : Nat → Prop} {C : List Nd} {w : World} {i : Nat} {z : NdS} {y : Nd} (hz : nd C i = z.n) (hy : fr C i (nd C i).c = some y) (hf : NdF w z) (hp : y.p.size ≤ 140737488355328) :
    El S C w i ⟨⟨⟨3, z.n.p, z.n.m, y.p, 0⟩, []⟩, none, 0⟩ := by
  refine ⟨?_, ⟨(show (Lit.int .i64 3).wf = true by decide), hf.p, hf.m, hp, (show (Lit.int .i64 0).wf = true by decide), ArgInts.nil, Nat.zero_le _⟩, fun x hx => by cases hx⟩
  rw [mb_some hy, hz]; rfl
end Go.Proofs.YtmbimnnacjbdfaaGreatDoor.Flt
