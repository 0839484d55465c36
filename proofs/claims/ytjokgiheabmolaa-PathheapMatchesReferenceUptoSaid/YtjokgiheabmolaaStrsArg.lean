/-
  A slice of strings: that came in, or of the call's own; appends, literals. Nothing of the program.
-/
import Derived.Test.YtjokgiheabmolaaRowsArg
import Derived.Test.YtjokgiheabmolaaObj
import Derived.Test.YtjokgiheabmolaaOwnApart
import Derived.Maps.AppendAt
import Derived.Deep.Strs
namespace Go.Proofs.Ytjokgiheabmolaa
open Go.RowKit Go.ChangeShapes Go.Deep

abbrev ssC (ys : List ByteArray) : List Value := ys.map Value.string
/-- strings lie at block b from off on -/
def SsAt (w : World) (b off : Nat) (ys : List ByteArray) : Prop := ∀ i y, ys[i]? = some y → w.cell? ⟨b, off + i, none⟩ = some (.string y)
theorem SsAt.block {w w' : World} {b off : Nat} {ys : List ByteArray} (h : SsAt w b off ys) (e : w'.heap[b]? = w.heap[b]?) : SsAt w' b off ys := fun i y hi => by
  have := h i y hi
  unfold World.cell? at this ⊢
  rw [e]; exact this
theorem SsAt.below {w w' : World} {b off B : Nat} {ys : List ByteArray} (h : SsAt w b off ys) (hb : Below B w w') (hB : b < B) : SsAt w' b off ys := h.block (hb.block b hB)
/-- strings in a slice -/
def SsIn (w : World) (a : Option Addr) (ys : List ByteArray) : Prop := ys = [] ∨ ∃ b off, a = some ⟨b, off, none⟩ ∧ b < w.heap.size ∧ SsAt w b off ys
theorem SsIn.below {w w' : World} {a : Option Addr} {ys : List ByteArray} (h : SsIn w a ys) (hb : Below w.heap.size w w') : SsIn w' a ys := by
  rcases h with h | ⟨b, off, h1, h2, h3⟩
  · exact .inl h
  · exact .inr ⟨b, off, h1, Nat.lt_of_lt_of_le h2 hb.size, h3.below hb h2⟩
/-- WHAT A WALK IS TOLD OF A SLICE OF STRINGS -/
structure ArgSs (w : World) (a : Option Addr) (len cap : Nat) (ys : List ByteArray) : Prop where
  n : ys.length = len
  c : len ≤ cap
  m : cap ≤ maxLen
  r : SsIn w a ys
  s : ∀ y ∈ ys, y.size ≤ 140737488355328
theorem ArgSs.below {w w' : World} {a : Option Addr} {len cap : Nat} {ys : List ByteArray} (h : ArgSs w a len cap ys) (hb : Below w.heap.size w w') : ArgSs w' a len cap ys := ⟨h.n, h.c, h.m, h.r.below hb, h.s⟩
theorem ArgSs.get {w : World} {a : Option Addr} {len cap : Nat} {ys : List ByteArray} (h : ArgSs w a len cap ys) (i : Nat) (hi : i < len) :
    ∃ b off y, a = some ⟨b, off, none⟩ ∧ b < w.heap.size ∧ ys[i]? = some y ∧ y.size ≤ 140737488355328 ∧ SsAt w b off ys ∧ w.cell? ⟨b, off + i, none⟩ = some (.string y) := by
  have hlt : i < ys.length := by rw [h.n]; exact hi
  have hg : ys[i]? = some ys[i] := List.getElem?_eq_getElem hlt
  rcases h.r with h0 | ⟨b, off, h1, h2, h3⟩
  · simp [h0] at hlt
  · exact ⟨b, off, _, h1, h2, hg, h.s _ (List.getElem_mem _), h3, h3 i _ hg⟩

section
variable {H : Type} {enc : TypeId × Value → H} {P : Program} {w : World} {base : Nat} {held : Bool}
theorem open_ss {t e : TypeId} {a : Option Addr} {len cap : Nat} {d : DataW H} {p : List MemPlace}
    (ht : P.underlying t = some (.slice e)) (he : P.underlying e = some .string) (hs : P.cellsOf e = 1)
    (h : DataW.Trod enc P w base (fun _ => true) held t (.slice a len cap) d p) (hw : ∀ n ∈ d.weights P t, n ≤ reachBytes) : ∃ ys, ArgSs w a len cap ys := by
  obtain ⟨fuel, hf⟩ := h
  rcases open_slice ht hf with ⟨hcs, _⟩ | ⟨x, len', cap', m, n, D, Pl, hcs, _, hl, hm, hmm, hd, hx⟩
  · simp [Value.cells] at hcs
    obtain ⟨rfl, rfl, rfl⟩ := hcs
    exact ⟨[], rfl, Nat.le_refl _, Nat.zero_le _, .inl rfl, fun _ h => by cases h⟩
  · simp [Value.cells] at hcs
    obtain ⟨rfl, rfl, rfl⟩ := hcs
    simp only [if_true] at hmm
    simp only [Prod.mk.injEq] at hd
    obtain ⟨rfl, _⟩ := hd
    have hreach := reachBytes_lt
    have each : ∀ i, i < m → ∃ y : ByteArray, w.cell? (x.add i) = some (.string y) ∧ (i < len → y.size ≤ 140737488355328) := by
      intro i hi
      obtain ⟨cs', g1, g2⟩ := hx i hi
      rw [hs] at g1
      obtain ⟨_, hlen, hcell⟩ := World.cells?_some g1
      match cs', hlen with
      | [v], _ =>
      obtain ⟨y, e0, x0, _⟩ := DataW.trod_string he g2
      simp only [List.cons.injEq, and_true] at e0
      subst e0
      have hc := hcell 0 (by simp)
      rw [Nat.mul_one, add_add, Nat.add_zero] at hc
      refine ⟨y, by simpa using hc, fun hil => ?_⟩
      have hmem : ∀ z, z ∈ (D i).weights P e → z ≤ reachBytes := fun z hz => hw z (by
        simp only [DataW.weights, ht, List.mem_cons, List.mem_append]
        exact .inr (.inl (weightsAll_mem (x := D i) hz _ (List.mem_map.2 ⟨i, by simpa using hil, rfl⟩))))
      have hD : D i = .lit (.string y.data.toList) := (Prod.mk.inj x0).1
      have b1 := hmem y.data.toList.length (by rw [hD]; simp [DataW.weights])
      rw [← Lib.size_eq] at b1
      omega
    obtain ⟨A, hA⟩ := choose_lt each
    refine ⟨(List.range len).map A, by simp, hl, hm, ?_, fun y hy => ?_⟩
    · rcases Nat.eq_zero_or_pos len with h0' | h0'
      · subst h0'; exact .inl rfl
      · have hc0 := (hA 0 (by omega)).1
        obtain ⟨b, off, spot⟩ := x
        have hspot : spot = none := by simpa [Addr.add] using World.cell?_spot hc0
        subst hspot
        refine .inr ⟨b, off, rfl, ?_, fun i y hy => ?_⟩
        · exact World.block_lt_of_cell? w (⟨b, off, none⟩ : Addr) (by simpa [Go.WideShapes.add_plain] using hc0)
        · rw [List.getElem?_map] at hy
          have hi : i < len := by
            rcases Nat.lt_or_ge i len with h | h
            · exact h
            · rw [List.getElem?_eq_none (by simpa using h)] at hy; cases hy
          rw [List.getElem?_range hi] at hy
          obtain rfl := Option.some.inj hy
          have := (hA i (by omega)).1
          rwa [Go.WideShapes.add_plain] at this
    · obtain ⟨r, hr', rfl⟩ := List.mem_map.1 hy
      have hlt : r < len := by simpa using hr'
      exact (hA r (by omega)).2 hlt
end

/-- strings of the call's own, in plain words -/
theorem SsIn.of_own {w : World} {base n : Nat} {e : TypeId} {v : Value} {ys : List ByteArray} (h : w.ownsRow base e 1 v n (ssC ys)) :
    ∃ a c, v = .slice a n c ∧ n = ys.length ∧ n ≤ c ∧ c ≤ maxLen ∧ SsIn w a ys ∧ (∀ x, a = some x → base ≤ x.block ∧ x.off = 0 ∧ x.block < w.heap.size ∧ ∀ k, w.frozen? ⟨x.block, k, none⟩ = false) := by
  have hl := h.1
  rw [List.length_map, Nat.mul_one] at hl
  rcases h.2 with ⟨hv, h0⟩ | ⟨g, cap, cur, hv, hb, hh, hc, hm, hs, ht⟩
  · subst h0
    exact ⟨none, 0, hv, hl.symm, Nat.le_refl _, Nat.zero_le _, .inl (List.length_eq_zero_iff.mp hl), fun x hx => by cases hx⟩
  · have hlt : g < w.heap.size := (Array.getElem?_eq_some_iff.1 hh).1
    refine ⟨some ⟨g, 0, none⟩, cap, hv, hl.symm, hc, hm, ?_, fun x hx => by cases hx; exact ⟨hb, rfl, hlt, fun k => by unfold World.frozen?; rw [hh]; simp⟩⟩
    refine .inr ⟨g, 0, rfl, hlt, fun i y hi => ?_⟩
    have hin : i < n := by rw [← hl]; exact (List.getElem?_eq_some_iff.mp hi).1
    have := congrArg (fun l => l[i]?) ht
    simp only [List.getElem?_take] at this
    rw [if_pos (by omega), List.getElem?_map, hi] at this
    unfold World.cell?
    rw [hh]
    simpa using this
theorem ArgSs.of_own {w : World} {base n : Nat} {e : TypeId} {v : Value} {ys : List ByteArray} (h : w.ownsRow base e 1 v n (ssC ys)) (hf : ∀ y ∈ ys, y.size ≤ 140737488355328) :
    ∃ a c, v = .slice a n c ∧ ArgSs w a n c ys := by
  obtain ⟨a, c, rfl, hn, hc, hm, hi, _⟩ := SsIn.of_own h
  exact ⟨a, c, rfl, hn.symm, hc, hm, hi, hf⟩
theorem ss_one (ys : List ByteArray) : ∀ v ∈ ssC ys, v.oneCell' = true := by simp [Value.oneCell']
theorem SsAt.news {w : World} {b off : Nat} {ys : List ByteArray} (h : SsAt w b off ys) : ∀ j u, (ssC ys)[j]? = some u → w.cell? ((⟨b, off, none⟩ : Addr).add j) = some u := fun j u hj => by
  rw [List.getElem?_map] at hj
  cases hy : ys[j]? with
  | none => rw [hy] at hj; cases hj
  | some y =>
    rw [hy] at hj
    obtain rfl := Option.some.inj hj
    rw [add_plain']; exact h j y hy
theorem ObjAt.ss {w : World} {g : Nat} {T : TypeId} {ys : List ByteArray} (h : ObjAt w g T (ssC ys)) : SsIn w (some ⟨g, 0, none⟩) ys :=
  .inr ⟨g, 0, rfl, h.lt, fun i y hi => by rw [Nat.zero_add, h.cell, List.getElem?_map, hi]; rfl⟩
/-- what an append asks of the elements' type -/
def ElemS (P : Program) (e : TypeId) : Prop := ∃ i0, P.info? e = some i0 ∧ i0.zero = some (.string ⟨#[]⟩) ∧ i0.size = 1 ∧ i0.bytes = 16
theorem elemS {P : Program} {e : TypeId} (h : (P.info? e).map (fun i => (i.zero, i.size, i.bytes)) = some (some (.string ⟨#[]⟩), 1, 16)) : ElemS P e := by
  cases hq : P.info? e with
  | none => simp [hq] at h
  | some i => simp [hq] at h; exact ⟨i, hq, h.1, h.2.1, h.2.2⟩
section
variable {P : Program} {w : World} {ops : Array Oper} {rest : List Oper} {o : Oper} {a : Act} {Q : Exit → Act → World → Prop}
theorem run_append_ss (t ty e : TypeId) (base : Nat) (hT : P.underlying t = some (.slice e)) (hI : ElemS P e)
    (v : Value) (n : Nat) (ys : List ByteArray) (hown : w.ownsRow base e 1 v n (ssC ys))
    (b : Option Addr) (m c : Nat) (xs : List ByteArray) (hy : SsIn w b xs) (hl : xs.length = m) (h47 : n + m ≤ 8796093022208) (hbase : base ≤ w.heap.size) :
    ∃ v' w', (Builtin.append_ #[t, t] ty #[v, .slice b m c]).run P w = .ok v' w' ∧ w'.ownsRow base e 1 v' (n + m) (ssC (ys ++ xs)) ∧ Below base w w' ∧ (∀ k, k < w.heap.size → some k ≠ v.ownBlock → w'.heap[k]? = w.heap[k]?) ∧ (v'.ownBlock = v.ownBlock ∨ v'.ownBlock = some w.heap.size) := by
  obtain ⟨i0, h1, h2, h3, h4⟩ := hI
  rcases hy with hy | ⟨b', off, rfl, _, hy⟩
  · subst hy
    obtain rfl : m = 0 := hl.symm
    exact ⟨v, w, run_append_empty (P := P) w base t ty e i0 1 hT h1 v n _ hown b c, by simpa using hown, Below.refl _ _, fun _ _ _ => rfl, .inl rfl⟩
  · obtain ⟨v', w', hr, k1, k2, _, k3⟩ := run_append_own_at (P := P) w base t ty e i0 _ 1 16 hT h1 h2 h3 h4 rfl (by decide) v n _ hown ⟨b', off, none⟩ m c (ssC xs) (by rw [List.length_map, hl, Nat.mul_one]) hy.news (ss_one xs) (by unfold maxLen; omega) (by omega) hbase
    exact ⟨v', w', hr, by rw [ssC, List.map_append]; exact k1, (Below.refl _ _).grown k2 hbase (fun k hk => (own_under hown k hk).1), fun k hk hr => k2.block k hk hr, k3⟩
theorem wpList_append_ss (hgd : o.guard = none) (s x : Operand) (t : TypeId) (ho : o.op = .call { callee := .builtin .append, args := #[s, x], argTypes := #[t, t] })
    (e : TypeId) (base : Nat) (hT : P.underlying t = some (.slice e)) (hI : ElemS P e)
    (v : Value) (n : Nat) (ys : List ByteArray) (hs : a.eval s = v) (hown : w.ownsRow base e 1 v n (ssC ys))
    (b : Option Addr) (m c : Nat) (xs : List ByteArray) (hx : a.eval x = .slice b m c) (hy : SsIn w b xs) (hl : xs.length = m) (h47 : n + m ≤ 8796093022208) (hbase : base ≤ w.heap.size)
    (K : ∀ v' w', w'.ownsRow base e 1 v' (n + m) (ssC (ys ++ xs)) → Below base w w' → (∀ k, k < w.heap.size → some k ≠ v.ownBlock → w'.heap[k]? = w.heap[k]?) → (v'.ownBlock = v.ownBlock ∨ v'.ownBlock = some w.heap.size) → wpList P ops Q rest (a.put o.dst v') w') : wpList P ops Q (o :: rest) a w := by
  obtain ⟨v', w', hr, k1, k2, k3, k4⟩ := run_append_ss (P := P) (w := w) t o.type e base hT hI v n ys hown b m c xs hy hl h47 hbase
  refine wpList_plain hgd fun K' hK => ?_
  unfold Oper.wp
  simp [execOp, ho, resolve, invoke, builtin, hs, hx, hr, Result.andThen]
  exact hK _ _ (K _ _ k1 k2 k3 k4)
theorem step_append_ss {K : Act → World → Prop} {E : Prop} (hgd : o.guard = none) (s x : Operand) (t : TypeId) (ho : o.op = .call { callee := .builtin .append, args := #[s, x], argTypes := #[t, t] })
    (e : TypeId) (base : Nat) (hT : P.underlying t = some (.slice e)) (hI : ElemS P e)
    (v : Value) (n : Nat) (ys : List ByteArray) (hs : a.eval s = v) (hown : w.ownsRow base e 1 v n (ssC ys))
    (b : Option Addr) (m c : Nat) (xs : List ByteArray) (hx : a.eval x = .slice b m c) (hy : SsIn w b xs) (hl : xs.length = m) (h47 : n + m ≤ 8796093022208) (hbase : base ≤ w.heap.size)
    (k : ∀ v' w', w'.ownsRow base e 1 v' (n + m) (ssC (ys ++ xs)) → Below base w w' → (∀ k, k < w.heap.size → some k ≠ v.ownBlock → w'.heap[k]? = w.heap[k]?) → (v'.ownBlock = v.ownBlock ∨ v'.ownBlock = some w.heap.size) → K (a.put o.dst v') w') :
    if Region.wanted o (yielded ops a.tmps) = true then Oper.wp P o a w K Q else E := by
  have hw : Region.wanted o (yielded ops a.tmps) = true := by simp [Region.wanted, hgd]
  rw [if_pos hw]
  obtain ⟨v', w', hr, h1, h2, h3, h4⟩ := run_append_ss (P := P) (w := w) t o.type e base hT hI v n ys hown b m c xs hy hl h47 hbase
  unfold Oper.wp
  simp [execOp, ho, resolve, invoke, builtin, hs, hx, hr, Result.andThen]
  exact k _ _ h1 h2 h3 h4
theorem own_lit_ss0 (w : World) (e : TypeId) : (w.alloc (.cells #[] e)).ownsRow w.heap.size e 1 (.slice (some ⟨w.heap.size, 0, none⟩) 0 0) 0 (ssC []) :=
  ⟨rfl, .inr ⟨w.heap.size, 0, #[], rfl, Nat.le_refl _, heap_alloc_new w _, Nat.le_refl _, Nat.zero_le _, rfl, rfl⟩⟩
theorem wpList_lit_ss0 (hgd : o.guard = none) (t e : TypeId) (ho : o.op = .buildSlice t 0 #[]) (ht : P.underlying t = some (.slice e)) (hI : ElemS P e)
    (K : ∀ w', w'.ownsRow w.heap.size e 1 (.slice (some ⟨w.heap.size, 0, none⟩) 0 0) 0 (ssC []) → Below w.heap.size w w' → wpList P ops Q rest (a.put o.dst (.slice (some ⟨w.heap.size, 0, none⟩) 0 0)) w') : wpList P ops Q (o :: rest) a w := by
  obtain ⟨i, h1, h2, h3, h4⟩ := hI
  refine wpList_plain hgd fun K' hK => ?_
  have hrun : (Instr.buildSlice t 0 #[]).run P w = .ok (.slice (some ⟨w.heap.size, 0, none⟩) 0 0) (w.alloc (.cells #[] e)) := by
    simp [Instr.buildSlice, run_underlying ht, sizeOf, typeInfo, h1, Instr.fill, newRow]
    rw [show Array.range 0 = #[] by decide, Array.map_empty]
  unfold Oper.wp
  simp [execOp, ho, hrun, Result.andThen]
  exact hK _ _ (K _ (own_lit_ss0 w e) ((Below.refl _ _).alloc (Nat.le_refl _) _))
theorem run_lit_ss1 (t e : TypeId) (ht : P.underlying t = some (.slice e)) (hI : ElemS P e) (y : ByteArray) :
    (Instr.buildSlice t 1 #[(0, .string y)]).run P w = .ok (.slice (some ⟨w.heap.size, 0, none⟩) 1 1) (w.alloc (.cells (ssC [y]).toArray e)) := by
  obtain ⟨i, h1, h2, h3, h4⟩ := hI
  simp [Instr.buildSlice, run_underlying ht, sizeOf, typeInfo, zeroValue, h1, h2, h3, Instr.fill, newRow, Value.cells]
  rw [show Array.range 1 = #[0] by decide]; simp
theorem wpList_lit_ss1 (hgd : o.guard = none) (t e : TypeId) (x : Operand) (ho : o.op = .buildSlice t 1 #[(0, x)]) (ht : P.underlying t = some (.slice e)) (hI : ElemS P e) (y : ByteArray) (hx : a.eval x = .string y)
    (K : ∀ w', ObjAt w' w.heap.size e (ssC [y]) → Below w.heap.size w w' → wpList P ops Q rest (a.put o.dst (.slice (some ⟨w.heap.size, 0, none⟩) 1 1)) w') : wpList P ops Q (o :: rest) a w := by
  refine wpList_plain hgd fun K' hK => ?_
  have hrun := run_lit_ss1 (P := P) (w := w) t e ht hI y
  unfold Oper.wp
  simp only [execOp, ho, List.map_toArray, List.map_cons, List.map_nil, hx, hrun, Sem.run_bind, Sem.run_pure, Result.andThen_ok]
  exact hK _ _ (K _ (heap_alloc_new w _) ((Below.refl _ _).alloc (Nat.le_refl _) _))
end
end Go.Proofs.Ytjokgiheabmolaa
