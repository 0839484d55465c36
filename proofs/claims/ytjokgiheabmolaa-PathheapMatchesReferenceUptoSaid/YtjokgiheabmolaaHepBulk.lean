/-
  The row's own bound on what comes in, and what it says of lists of strings. Nothing of the program.
-/
import Derived.Test.YtjokgiheabmolaaUptoBulk
import Derived.Test.YtjokgiheabmolaaPaArg
namespace Go.Proofs.Ytjokgiheabmolaa
open Go.RowKit Go.ChangeShapes Go.Deep

theorem weigh_one {H : Type} {d : DataW H} {n : Nat} (h : Rows.uptoSmall H ([d] ++ []) = true) (h1 : n ≤ Rows.uptoBulk d) : n ≤ 1048576 := by
  have hb : Rows.uptoBulkAll ([d] ++ []) ≤ 1048576 := of_decide_eq_true h
  simp only [List.append_nil, Rows.uptoBulkAll] at hb
  omega
theorem weigh_three {H : Type} {d d' d'' : DataW H} {n n' n'' : Nat} (h : Rows.uptoSmall H ([d, d', d''] ++ []) = true) (h1 : n ≤ Rows.uptoBulk d) (h2 : n' ≤ Rows.uptoBulk d') (h3 : n'' ≤ Rows.uptoBulk d'') : n + n' + n'' ≤ 1048576 := by
  have hb : Rows.uptoBulkAll ([d, d', d''] ++ []) ≤ 1048576 := of_decide_eq_true h
  simp only [List.append_nil, Rows.uptoBulkAll] at hb
  omega
theorem weigh_sum {H : Type} {α : Type} (D : Nat → DataW H) (A : Nat → List α) : ∀ l : List Nat, (∀ i ∈ l, (A i).length + 1 ≤ Rows.uptoBulk (D i)) → l.length + (l.map A).flatten.length ≤ Rows.uptoBulkAll (l.map D)
  | [], _ => by simp
  | i :: l, h => by
    have h1 := h i List.mem_cons_self
    have h2 := weigh_sum D A l fun j hj => h j (List.mem_cons_of_mem _ hj)
    simp only [List.map_cons, List.flatten_cons, List.length_append, List.length_cons, Rows.uptoBulkAll]
    omega
section
variable {H : Type} {enc : TypeId × Value → H} {P : Program} {w : World} {base : Nat} {held : Bool}
/-- a slice that came in has fewer elements than it weighs -/
theorem weigh_slice1 {t e : TypeId} {a : Option Addr} {len cap : Nat} {d : DataW H} {p : List MemPlace}
    (ht : P.underlying t = some (.slice e)) (h : DataW.Trod enc P w base (fun _ => true) held t (.slice a len cap) d p) : len + 1 ≤ Rows.uptoBulk d := by
  obtain ⟨fuel, hf⟩ := h
  rcases DataW.trod_slice ht hf with ⟨hcs, hx⟩ | ⟨x, l, c, es, rs, n, _, hcs, hx, _, _, _, hl, _⟩
  · simp [Value.cells] at hcs
    obtain ⟨_, rfl, _⟩ := hcs
    simp only [Prod.mk.injEq] at hx
    obtain ⟨rfl, _⟩ := hx
    exact weigh_pos _
  · simp [Value.cells] at hcs
    obtain ⟨_, rfl, _⟩ := hcs
    simp only [Prod.mk.injEq] at hx
    obtain ⟨rfl, _⟩ := hx
    have h1 := weigh_all (es.map (·.1))
    rw [List.length_map] at h1
    simp only [Rows.uptoBulk]
    omega
theorem open_ls_bulk {t e s : TypeId} {a : Option Addr} {len cap : Nat} {d : DataW H} {p : List MemPlace}
    (ht : P.underlying t = some (.slice e)) (he : P.underlying e = some (.slice s)) (hS : P.underlying s = some .string) (c1 : P.cellsOf e = 1) (c2 : P.cellsOf s = 1)
    (h : DataW.Trod enc P w base (fun _ => true) held t (.slice a len cap) d p) (hw : ∀ n ∈ d.weights P t, n ≤ reachBytes) : ∃ ls, ArgLs w a len cap ls ∧ len + ls.flatten.length ≤ Rows.uptoBulk d := by
  obtain ⟨fuel, hf⟩ := h
  rcases open_slice ht hf with ⟨hcs, _⟩ | ⟨x, len', cap', m, n, D, Pl, hcs, _, hl, hm, hmm, hd, hx⟩
  · simp [Value.cells] at hcs
    obtain ⟨rfl, rfl, rfl⟩ := hcs
    exact ⟨[], ⟨rfl, Nat.le_refl _, Nat.zero_le _, fun i l h => by cases h⟩, Nat.zero_le _⟩
  · simp [Value.cells] at hcs
    obtain ⟨rfl, rfl, rfl⟩ := hcs
    simp only [if_true] at hmm
    simp only [Prod.mk.injEq] at hd
    obtain ⟨rfl, _⟩ := hd
    have each : ∀ i, i < len → ∃ q : Option Addr × Nat × List ByteArray, w.cell? (x.add i) = some (.slice q.1 q.2.2.length q.2.1) ∧ ArgSs w q.1 q.2.2.length q.2.1 q.2.2 ∧ q.2.2.length + 1 ≤ Rows.uptoBulk (D i) := by
      intro i hi
      obtain ⟨cs', g1, g2⟩ := hx i (by omega)
      rw [c1] at g1
      obtain ⟨_, hlen, hcell⟩ := World.cells?_some g1
      match cs', hlen with
      | [v], _ =>
      have hc := hcell 0 (by simp)
      rw [Nat.mul_one, add_add, Nat.add_zero] at hc
      have hc : w.cell? (x.add i) = some v := by simpa using hc
      obtain ⟨a', l', c', rfl⟩ : ∃ a' l' c', v = .slice a' l' c' := by
        rcases open_slice he g2 with ⟨q, _⟩ | ⟨x', l', c', _, _, _, _, q, _⟩
        · exact ⟨none, 0, 0, by simpa using q⟩
        · exact ⟨some x', l', c', by simpa using q⟩
      obtain ⟨ys, hy⟩ := open_ss (w := w) (a := a') (len := l') (cap := c') he hS c2 ⟨n, g2⟩ (fun z hz => hw z (by
        simp only [DataW.weights, ht, List.mem_cons, List.mem_append]
        exact .inr (.inl (weightsAll_mem (x := D i) hz _ (List.mem_map.2 ⟨i, by simpa using hi, rfl⟩)))))
      have hB := weigh_slice1 (w := w) (a := a') (len := l') (cap := c') he ⟨n, g2⟩
      obtain rfl := hy.n
      exact ⟨(a', c', ys), hc, hy, hB⟩
    obtain ⟨A, hA⟩ := choose_lt each
    refine ⟨(List.range len).map fun i => (A i).2.2, ⟨by simp, hl, hm, fun i l hi => ?_⟩, ?_⟩
    · rw [List.getElem?_map] at hi
      have hil : i < len := by
        rcases Nat.lt_or_ge i len with h | h
        · exact h
        · rw [List.getElem?_eq_none (by simpa using h)] at hi; cases hi
      rw [List.getElem?_range hil] at hi
      obtain rfl := Option.some.inj hi
      obtain ⟨hc, hs, _⟩ := hA i hil
      have hc0 := (hA 0 (by omega)).1
      obtain ⟨b, off, spot⟩ := x
      have hspot : spot = none := by simpa [Addr.add] using World.cell?_spot hc0
      subst hspot
      rw [Go.WideShapes.add_plain] at hc
      exact ⟨b, off, _, _, rfl, World.block_lt_of_cell? w (⟨b, off + i, none⟩ : Addr) hc, hc, hs⟩
    · have h1 := weigh_sum D (fun i => (A i).2.2) (List.range len) fun i hi => (hA i (by simpa using hi)).2.2
      rw [List.length_range] at h1
      simp only [Rows.uptoBulk]
      omega
theorem open_pa_bulk {t e s : TypeId} {f0 f1 : Field} {a : Option Addr} {len cap : Nat} {d : DataW H} {p : List MemPlace}
    (ht : P.underlying t = some (.slice e)) (he : P.underlying e = some (.struct #[f0, f1])) (h0 : P.underlying f0.type = some (.int .i64)) (h1 : P.underlying f1.type = some (.slice s)) (hS : P.underlying s = some .string)
    (hs : (P.cellsOf e, f0.offset, P.cellsOf f0.type, f1.offset, P.cellsOf f1.type, P.cellsOf s) = (2, 0, 1, 1, 1, 1))
    (h : DataW.Trod enc P w base (fun _ => true) held t (.slice a len cap) d p) (hw : ∀ n ∈ d.weights P t, n ≤ reachBytes) : ∃ us, ArgPa w a len cap us ∧ len + (us.map (·.2)).flatten.length ≤ Rows.uptoBulk d := by
  simp only [Prod.mk.injEq] at hs
  obtain ⟨s1, s2, s3, s4, s5, s6⟩ := hs
  obtain ⟨fuel, hf⟩ := h
  rcases open_slice ht hf with ⟨hcs, _⟩ | ⟨x, len', cap', m, n, D, Pl, hcs, _, hl, hm, hmm, hd, hx⟩
  · simp [Value.cells] at hcs
    obtain ⟨rfl, rfl, rfl⟩ := hcs
    exact ⟨[], ⟨rfl, Nat.le_refl _, Nat.zero_le _, fun i l h => by cases h⟩, Nat.zero_le _⟩
  · simp [Value.cells] at hcs
    obtain ⟨rfl, rfl, rfl⟩ := hcs
    simp only [if_true] at hmm
    simp only [Prod.mk.injEq] at hd
    obtain ⟨rfl, _⟩ := hd
    have each : ∀ i, i < len → ∃ y : (Int × List ByteArray) × Option Addr × Nat, w.cell? (x.add (i * 2)) = some (.int .i64 y.1.1) ∧ w.cell? (x.add (i * 2 + 1)) = some (.slice y.2.1 y.1.2.length y.2.2) ∧ ArgSs w y.2.1 y.1.2.length y.2.2 y.1.2 ∧ y.1.2.length + 1 ≤ Rows.uptoBulk (D i) := by
      intro i hi
      obtain ⟨cs', g1, g2⟩ := hx i (by omega)
      rw [s1] at g1
      obtain ⟨_, hlen, hcell⟩ := World.cells?_some g1
      obtain ⟨xs, k, _, hxe, _, hxl, hfd⟩ := DataW.trod_struct he g2
      match cs', hlen with
      | [v0, v1], _ =>
      match xs, hxl with
      | [y0, y1], _ =>
      have u0 := hfd 0 f0 rfl
      have u1 := hfd 1 f1 rfl
      rw [s2, s3] at u0
      rw [s4, s5] at u1
      simp at u0 u1
      obtain ⟨z0, e0, x0, _⟩ := DataW.trod_int h0 u0
      simp only [List.cons.injEq, and_true] at e0
      subst e0
      have c0 := hcell 0 (by omega)
      have c1 := hcell 1 (by omega)
      rw [add_add] at c0 c1
      simp at c0 c1
      simp only [Prod.mk.injEq] at hxe
      have hD : D i = .agg [y0.1, y1.1] := by rw [hxe.1]; rfl
      obtain ⟨a', l', c', rfl⟩ : ∃ a' l' c', v1 = .slice a' l' c' := by
        rcases open_slice h1 u1 with ⟨q, _⟩ | ⟨x', l', c', _, _, _, _, q, _⟩
        · exact ⟨none, 0, 0, by simpa using q⟩
        · exact ⟨some x', l', c', by simpa using q⟩
      have hmem : ∀ z, z ∈ (D i).weights P e → z ≤ reachBytes := fun z hz => hw z (by
        simp only [DataW.weights, ht, List.mem_cons, List.mem_append]
        exact .inr (.inl (weightsAll_mem (x := D i) hz _ (List.mem_map.2 ⟨i, by simpa using hi, rfl⟩))))
      obtain ⟨ys, hy⟩ := open_ss (w := w) (a := a') (len := l') (cap := c') h1 hS s6 ⟨_, u1⟩ (fun z hz => hmem z (by rw [hD]; simp [DataW.weights, DataW.weightsEach, he]; exact .inr hz))
      have hB := weigh_slice1 (w := w) (a := a') (len := l') (cap := c') h1 ⟨_, u1⟩
      obtain rfl := hy.n
      refine ⟨((z0, ys), a', c'), c0, c1, hy, ?_⟩
      show ys.length + 1 ≤ Rows.uptoBulk (D i)
      rw [hD]
      simp only [Rows.uptoBulk, Rows.uptoBulkAll]
      omega
    obtain ⟨A, hA⟩ := choose_lt each
    refine ⟨(List.range len).map fun i => (A i).1, ⟨by simp, hl, hm, fun i u hi => ?_⟩, ?_⟩
    · rw [List.getElem?_map] at hi
      have hil : i < len := by
        rcases Nat.lt_or_ge i len with h | h
        · exact h
        · rw [List.getElem?_eq_none (by simpa using h)] at hi; cases hi
      rw [List.getElem?_range hil] at hi
      obtain rfl := Option.some.inj hi
      obtain ⟨hc, hc', hs, _⟩ := hA i hil
      have hc0 := (hA 0 (by omega)).1
      obtain ⟨b, off, spot⟩ := x
      have hspot : spot = none := by simpa [Addr.add] using World.cell?_spot hc0
      subst hspot
      rw [Go.WideShapes.add_plain] at hc hc'
      exact ⟨b, off, _, _, rfl, World.block_lt_of_cell? w (⟨b, off + i * 2, none⟩ : Addr) hc, hc, by rw [Nat.add_assoc]; exact hc', hs⟩
    · have h1 := weigh_sum D (fun i => (A i).1.2) (List.range len) fun i hi => (hA i (by simpa using hi)).2.2.2
      rw [List.length_range] at h1
      rw [List.map_map]
      simp only [Rows.uptoBulk]
      exact Nat.le_trans h1 (by omega)
end
end Go.Proofs.Ytjokgiheabmolaa
