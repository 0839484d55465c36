/-
  Literals of strings and of slices of strings. Nothing of the program.
-/
import Derived.Test.YtjokgiheabmolaaLsArg
import Derived.Test.YtjokgiheabmolaaObj
namespace Go.Proofs.Ytjokgiheabmolaa.Hep
open Go.RowKit

/-- what a literal asks of the elements' type -/
def ElemV (P : Program) (e : TypeId) : Prop := ∃ i0 z, P.info? e = some i0 ∧ i0.zero = some z ∧ i0.size = 1 ∧ z.cells = #[z]
theorem elemV_s {P : Program} {e : TypeId} (h : (P.info? e).map (fun i => (i.zero, i.size)) = some (some (.string ⟨#[]⟩), 1)) : ElemV P e := by
  cases hq : P.info? e with
  | none => simp [hq] at h
  | some i => simp [hq] at h; exact ⟨i, _, hq, h.1, h.2, by simp [Value.cells]⟩
theorem elemV_l {P : Program} {e : TypeId} (h : (P.info? e).map (fun i => (i.zero, i.size)) = some (some (.slice none 0 0), 1)) : ElemV P e := by
  cases hq : P.info? e with
  | none => simp [hq] at h
  | some i => simp [hq] at h; exact ⟨i, _, hq, h.1, h.2, by simp [Value.cells]⟩
section
variable {P : Program} {w : World} {ops : Array Oper} {rest : List Oper} {o : Oper} {a : Act} {Q : Exit → Act → World → Prop}
theorem run_lit1 (t e : TypeId) (ht : P.underlying t = some (.slice e)) (hI : ElemV P e) (x : Value) (hx : x.cells = #[x]) :
    (Instr.buildSlice t 1 #[(0, x)]).run P w = .ok (.slice (some ⟨w.heap.size, 0, none⟩) 1 1) (w.alloc (.cells #[x] e)) := by
  obtain ⟨i, z, h1, h2, h3, h4⟩ := hI
  simp [Instr.buildSlice, run_underlying ht, sizeOf, typeInfo, zeroValue, h1, h2, h3, h4, Instr.fill, newRow, hx]
  rw [show Array.range 1 = #[0] by decide]; simp
theorem run_lit2 (t e : TypeId) (ht : P.underlying t = some (.slice e)) (hI : ElemV P e) (x y : Value) (hx : x.cells = #[x]) (hy : y.cells = #[y]) :
    (Instr.buildSlice t 2 #[(0, x), (1, y)]).run P w = .ok (.slice (some ⟨w.heap.size, 0, none⟩) 2 2) (w.alloc (.cells #[x, y] e)) := by
  obtain ⟨i, z, h1, h2, h3, h4⟩ := hI
  simp [Instr.buildSlice, run_underlying ht, sizeOf, typeInfo, zeroValue, h1, h2, h3, h4, Instr.fill, newRow, hx, hy]
  rw [show Array.range 2 = #[0, 1] by decide]; simp
theorem run_lit3 (t e : TypeId) (ht : P.underlying t = some (.slice e)) (hI : ElemV P e) (x y u : Value) (hx : x.cells = #[x]) (hy : y.cells = #[y]) (hu : u.cells = #[u]) :
    (Instr.buildSlice t 3 #[(0, x), (1, y), (2, u)]).run P w = .ok (.slice (some ⟨w.heap.size, 0, none⟩) 3 3) (w.alloc (.cells #[x, y, u] e)) := by
  obtain ⟨i, z, h1, h2, h3, h4⟩ := hI
  simp [Instr.buildSlice, run_underlying ht, sizeOf, typeInfo, zeroValue, h1, h2, h3, h4, Instr.fill, newRow, hx, hy, hu]
  rw [show Array.range 3 = #[0, 1, 2] by decide]; simp
theorem wpList_lit1 (hgd : o.guard = none) (t e : TypeId) (p : Operand) (ho : o.op = .buildSlice t 1 #[(0, p)]) (ht : P.underlying t = some (.slice e)) (hI : ElemV P e) (x : Value) (hp : a.eval p = x) (hx : x.cells = #[x])
    (K : ∀ w', ObjAt w' w.heap.size e [x] → Below w.heap.size w w' → wpList P ops Q rest (a.put o.dst (.slice (some ⟨w.heap.size, 0, none⟩) 1 1)) w') : wpList P ops Q (o :: rest) a w := by
  refine wpList_plain hgd fun K' hK => ?_
  have hrun := run_lit1 (P := P) (w := w) t e ht hI x hx
  unfold Oper.wp
  simp only [execOp, ho, List.map_toArray, List.map_cons, List.map_nil, hp, hrun, Sem.run_bind, Sem.run_pure, Result.andThen_ok]
  exact hK _ _ (K _ (heap_alloc_new w _) ((Below.refl _ _).alloc (Nat.le_refl _) _))
theorem wpList_lit2 (hgd : o.guard = none) (t e : TypeId) (p q : Operand) (ho : o.op = .buildSlice t 2 #[(0, p), (1, q)]) (ht : P.underlying t = some (.slice e)) (hI : ElemV P e) (x y : Value) (hp : a.eval p = x) (hq : a.eval q = y) (hx : x.cells = #[x]) (hy : y.cells = #[y])
    (K : ∀ w', ObjAt w' w.heap.size e [x, y] → Below w.heap.size w w' → wpList P ops Q rest (a.put o.dst (.slice (some ⟨w.heap.size, 0, none⟩) 2 2)) w') : wpList P ops Q (o :: rest) a w := by
  refine wpList_plain hgd fun K' hK => ?_
  have hrun := run_lit2 (P := P) (w := w) t e ht hI x y hx hy
  unfold Oper.wp
  simp only [execOp, ho, List.map_toArray, List.map_cons, List.map_nil, hp, hq, hrun, Sem.run_bind, Sem.run_pure, Result.andThen_ok]
  exact hK _ _ (K _ (heap_alloc_new w _) ((Below.refl _ _).alloc (Nat.le_refl _) _))
theorem wpList_lit3 (hgd : o.guard = none) (t e : TypeId) (p q r : Operand) (ho : o.op = .buildSlice t 3 #[(0, p), (1, q), (2, r)]) (ht : P.underlying t = some (.slice e)) (hI : ElemV P e) (x y u : Value) (hp : a.eval p = x) (hq : a.eval q = y) (hr : a.eval r = u) (hx : x.cells = #[x]) (hy : y.cells = #[y]) (hu : u.cells = #[u])
    (K : ∀ w', ObjAt w' w.heap.size e [x, y, u] → Below w.heap.size w w' → wpList P ops Q rest (a.put o.dst (.slice (some ⟨w.heap.size, 0, none⟩) 3 3)) w') : wpList P ops Q (o :: rest) a w := by
  refine wpList_plain hgd fun K' hK => ?_
  have hrun := run_lit3 (P := P) (w := w) t e ht hI x y u hx hy hu
  unfold Oper.wp
  simp only [execOp, ho, List.map_toArray, List.map_cons, List.map_nil, hp, hq, hr, hrun, Sem.run_bind, Sem.run_pure, Result.andThen_ok]
  exact hK _ _ (K _ (heap_alloc_new w _) ((Below.refl _ _).alloc (Nat.le_refl _) _))
/-- a literal behind a guard: where the walk stands still -/
theorem upon_lit {K : Act → World → Prop} {v : Value} {w1 : World} {m : Sem Value} (hrun : m.run P w = .ok v w1) (k : K (a.put o.dst v) w1) :
    Oper.upon P o a K Q ((m.run P w).andThen fun a w' => Result.ok (Next.value a) w') := by
  rw [hrun]
  simp only [Result.andThen]
  rw [Oper.upon_value]
  exact k
end
theorem _root_.Go.Proofs.Ytjokgiheabmolaa.ArgSs.of_obj {w : World} {g : Nat} {e : TypeId} {ys : List ByteArray} {n : Nat} (h : ObjAt w g e (ssC ys)) (hn : ys.length = n) (hm : n ≤ 1000) (hs : ∀ y ∈ ys, y.size ≤ 140737488355328) : ArgSs w (some ⟨g, 0, none⟩) n n ys :=
  ⟨hn, Nat.le_refl _, by unfold maxLen; omega, h.ss, hs⟩
theorem ls_obj {w : World} {g : Nat} {e : TypeId} (qs : List (Option Addr × Nat × List ByteArray)) (h : ObjAt w g e (qs.map fun q => .slice q.1 q.2.2.length q.2.1)) (hm : qs.length ≤ 1000) (hq : ∀ q ∈ qs, ArgSs w q.1 q.2.2.length q.2.1 q.2.2) :
    ArgLs w (some ⟨g, 0, none⟩) qs.length qs.length (qs.map (·.2.2)) :=
  ⟨by simp, Nat.le_refl _, by unfold maxLen; omega, fun i l hi => by
    rw [List.getElem?_map] at hi
    cases hj : qs[i]? with
    | none => rw [hj] at hi; cases hi
    | some q =>
      rw [hj] at hi
      obtain rfl := Option.some.inj hi
      exact ⟨g, 0, q.1, q.2.1, rfl, h.lt, by rw [Nat.zero_add, h.cell, List.getElem?_map, hj]; rfl, hq q (List.mem_of_getElem? hj)⟩⟩
theorem ls_one {w : World} {g n c : Nat} {e : TypeId} {a : Option Addr} {ys : List ByteArray} (h : ObjAt w g e [.slice a n c]) (h1 : ArgSs w a n c ys) : ArgLs w (some ⟨g, 0, none⟩) 1 1 [ys] := by
  obtain rfl := h1.n
  exact ls_obj [(a, c, ys)] h (by simp) fun q hq => by obtain rfl := List.mem_singleton.mp hq; exact h1
theorem ls_two {w : World} {g n c n' c' : Nat} {e : TypeId} {a a' : Option Addr} {ys zs : List ByteArray} (h : ObjAt w g e [.slice a n c, .slice a' n' c']) (h1 : ArgSs w a n c ys) (h2 : ArgSs w a' n' c' zs) : ArgLs w (some ⟨g, 0, none⟩) 2 2 [ys, zs] := by
  obtain rfl := h1.n
  obtain rfl := h2.n
  exact ls_obj [(a, c, ys), (a', c', zs)] h (by simp) fun q hq => by
    rcases List.mem_cons.mp hq with rfl | hq
    · exact h1
    · obtain rfl := List.mem_singleton.mp hq; exact h2
theorem ls_three {w : World} {g n c n' c' m d : Nat} {e : TypeId} {a a' b : Option Addr} {ys zs us : List ByteArray} (h : ObjAt w g e [.slice a n c, .slice a' n' c', .slice b m d]) (h1 : ArgSs w a n c ys) (h2 : ArgSs w a' n' c' zs) (h3 : ArgSs w b m d us) : ArgLs w (some ⟨g, 0, none⟩) 3 3 [ys, zs, us] := by
  obtain rfl := h1.n
  obtain rfl := h2.n
  obtain rfl := h3.n
  exact ls_obj [(a, c, ys), (a', c', zs), (b, d, us)] h (by simp) fun q hq => by
    rcases List.mem_cons.mp hq with rfl | hq
    · exact h1
    · rcases List.mem_cons.mp hq with rfl | hq
      · exact h2
      · obtain rfl := List.mem_singleton.mp hq; exact h3
end Go.Proofs.Ytjokgiheabmolaa.Hep
