/-
  A row of members of the call's own, made and stored into. Nothing of the program.
-/
import Derived.Test.YtmbimnnacjbdfaaDoorMbsLit
import Derived.Test.YtmbimnnacjbdfaaDoorPk06
import Derived.OwnWalk
import Derived.Laws.CopyRow
namespace Go.Proofs.YtmbimnnacjbdfaaDoor.Flt
open Go.RowKit Go.Proofs.YtmbimnnacjbdfaaDoor.Fit

abbrev mb0 : MbS := ⟨⟨⟨0, emp, 0, emp, 0⟩, []⟩, none, 0⟩
theorem cells0_at (n : Nat) : (mbCells (List.replicate n mb0)).toArray = madeCells (Value.agg (mbC 0 emp 0 emp 0 none 0 0).toArray).cells (n * 6) := by
  apply Array.ext
  · rw [size_madeCells, List.size_toArray, mbCells_len, List.length_replicate]
  · intro i h1 h2
    have hi : i < n * 6 := by rw [size_madeCells] at h2; exact h2
    have hl : i / 6 < n := by omega
    have := mbCells_at (List.replicate n mb0) (i / 6) mb0 (by rw [List.getElem?_replicate, if_pos hl]) (i % 6) ((mbV mb0)[i % 6]'(by simp; omega)) (List.getElem?_eq_getElem _)
    rw [show i / 6 * 6 + i % 6 = i by omega] at this
    have h3 : (mbCells (List.replicate n mb0)).toArray[i]? = some ((mbV mb0)[i % 6]'(by simp; omega)) := by simpa using this
    rw [Array.getElem?_eq_getElem h1] at h3
    rw [Option.some.inj h3]
    simp only [madeCells, Array.getElem_map, Array.getElem_range]
    have : i % 6 < 6 := by omega
    rcases (show i % 6 = 0 ∨ i % 6 = 1 ∨ i % 6 = 2 ∨ i % 6 = 3 ∨ i % 6 = 4 ∨ i % 6 = 5 by omega) with e | e | e | e | e | e <;> simp [e, Value.cells]
theorem mbV_one (u : MbS) : ∀ v ∈ mbV u, v.oneCell' = true := by simp [Value.oneCell']
theorem mbCells_set : ∀ (us : List MbS) (i : Nat) (u : MbS), i < us.length → (mbCells us).take (i * 6) ++ mbV u ++ (mbCells us).drop (i * 6 + 6) = mbCells (us.set i u)
  | [], i, u, h => by simp at h
  | y :: us, 0, u, _ => by
    rw [mbCells_cons, List.set_cons_zero, mbCells_cons]
    simp
  | y :: us, i + 1, u, h => by
    rw [mbCells_cons, List.set_cons_succ, mbCells_cons, ← mbCells_set us i u (by simpa using h)]
    have hl : (mbV y).length = 6 := by simp
    rw [show (i + 1) * 6 = (mbV y).length + i * 6 by rw [hl]; omega, List.take_append, Nat.add_assoc, List.drop_append]
    have e1 : (mbV y).take ((mbV y).length + i * 6) = mbV y := List.take_of_length_le (by omega)
    have e2 : (mbV y).drop ((mbV y).length + (i * 6 + 6)) = [] := List.drop_eq_nil_of_le (by omega)
    rw [e1, e2, Nat.add_sub_cancel_left, Nat.add_sub_cancel_left]
    simp
section
variable {P : Program} {w : World} {ops : Array Oper} {rest : List Oper} {o : Oper} {a : Act} {Q : Exit → Act → World → Prop}
/-- 'make([]api.Member, n)' -/
theorem wpList_make_mbs (hgd : o.guard = none) (l c : Operand) (t e : TypeId) (ho : o.op = .makeSlice t l c) (ht : P.underlying t = some (.slice e)) (i0 : TypeInfo) (hI : Hid (P.info? e = some i0 ∧ i0.zero = some (.agg (mbC 0 emp 0 emp 0 none 0 0).toArray) ∧ i0.size = 6 ∧ i0.bytes = 80))
    (n : Nat) (hl : a.eval l = .int .i64 (n : Int)) (hc : a.eval c = .int .i64 (n : Int)) (hn : n ≤ 1000000)
    (K : ∀ w', ObjAt w' w.heap.size e (mbCells (List.replicate n mb0)) → Below w.heap.size w w' → wpList P ops Q rest (a.put o.dst (.slice (some ⟨w.heap.size, 0, none⟩) n n)) w') : wpList P ops Q (o :: rest) a w := by
  refine wpList_make_full w hgd l c t ho w.heap.size e i0 _ 6 ht hI.out.1 hI.out.2.1 hI.out.2.2.1 .i64 .i64 n n n hl hc rfl rfl (by rw [hI.out.2.2.2]; omega) (by unfold maxLen; omega) (Nat.le_refl _) fun w' h1 h2 => ?_
  refine K w' ?_ ((Below.refl _ _).grown h2 (Nat.le_refl _) (fun _ h => by cases h))
  obtain ⟨h3, h4⟩ := h1
  rcases h4 with ⟨hv, _⟩ | ⟨g, cap, cur, hv, _, hh, _, _, hs, hx⟩
  · cases hv
  · injection hv with e1 _ e3
    injection e1 with e1; injection e1 with e1 _
    subst e1; subst e3
    unfold ObjAt
    rw [cells0_at]
    have e : cur = madeCells (Value.agg (mbC 0 emp 0 emp 0 none 0 0).toArray).cells (n * 6) := by
      have h5 : cur.toList.take (n * 6) = cur.toList := List.take_of_length_le (by simp [hs])
      rw [h5] at hx
      exact Array.ext' hx
    rw [← e]
    exact hh
/-- a member into its place -/
theorem wpList_store_mb (hgd : o.guard = none) (T : TypeId) (x y : Operand) (ho : o.op = .store T x y) (g q i : Nat) (hx : a.eval x = .pointer (some ⟨g, q, none⟩)) (hq : q = i * 6)
    (u : MbS) (hy : a.eval y = .agg (mbV u).toArray) (hs : (P.info? T).map (·.size) = some 6) (T' : TypeId) (us : List MbS) (hg : ObjAt w g T' (mbCells us)) (hi : i < us.length)
    (K : ∀ w', ObjAt w' g T' (mbCells (us.set i u)) → TurnB w w' g → wpList P ops Q rest (a.put o.dst undef) w') : wpList P ops Q (o :: rest) a w := by
  subst hq
  refine wpList_plain hgd fun K' hK => ?_
  have hb : i * 6 + 0 + (mbV u).length ≤ (mbCells us).toArray.size := by
    rw [List.size_toArray, mbCells_len]; simp; omega
  have hst := run_storeCells_at (P := P) g (i * 6) T' (mbV u) 0 (mbCells us).toArray w hg hb (mbV_one u)
  have e : ((mbCells us).toArray.toList.take (i * 6 + 0) ++ mbV u ++ (mbCells us).toArray.toList.drop (i * 6 + 0 + (mbV u).length)).toArray = (mbCells (us.set i u)).toArray := by
    rw [← mbCells_set us i u hi]; simp
  rw [e] at hst
  cases hq : P.info? T with
  | none => simp [hq] at hs
  | some j =>
    have hj : j.size = 6 := by simpa [hq] using hs
    have hrun : (storeVar T ⟨g, i * 6, none⟩ (.agg (mbV u).toArray)).run P w = .ok () (w.setRow g (mbCells (us.set i u)).toArray) := by
      have hsz : (Value.agg (mbV u).toArray).cells.size = 6 := rfl
      simp only [storeVar, Sem.run_bind, sizeOf, typeInfo, hsz]
      simp [hq, hj, Value.cells]
      exact hst
    unfold Oper.wp execOp
    simp only [ho, hx, hy, Instr.storeAt, Instr.sureAddr, Sem.run_bind, Sem.run_pure, Result.andThen_ok, hrun]
    have hT : Turned w (w.setRow g (mbCells (us.set i u)).toArray) g := ⟨_, rfl⟩
    exact hK _ _ (K _ (setRow_heap w g _ _ T' _ hg) ⟨fun hB => hT.below hB, fun hk => hT.other hk, hT.size⟩)
end
end Go.Proofs.YtmbimnnacjbdfaaDoor.Flt
