/-
  A slice of slices of integers, and a slice of bools, that came in, opened. Nothing of the program.
-/
import Derived.Test.YtjokgiheabmolaaArrArg
import Derived.Deep.Matrix
import Derived.Deep.Grids
import Derived.SizedLaws
namespace Go.Proofs.Ytjokgiheabmolaa
open Go.RowKit Go.ChangeShapes Go.Deep

/-- WHAT A WALK IS TOLD OF A SLICE OF SLICES OF INTEGERS THAT CAME IN: rows: each row's address, length, capacity, elements -/
def ArgRows (k : IntKind) (w : World) (a : Option Addr) (len cap : Nat) (rows : List (Option Addr × Nat × Nat × List Int)) : Prop :=
  rows.length = len ∧ len ≤ cap ∧ cap ≤ maxLen ∧ (∀ y ∈ rows, ArgInts k w y.1 y.2.1 y.2.2.1 y.2.2.2) ∧
  (len = 0 ∨ ∃ b off, a = some ⟨b, off, none⟩ ∧ b < w.heap.size ∧ ∀ i y, rows[i]? = some y → w.cell? ⟨b, off + i, none⟩ = some (.slice y.1 y.2.1 y.2.2.1))
/-- likewise of a slice of bools -/
def ArgBools (w : World) (a : Option Addr) (len cap : Nat) (bs : List Bool) : Prop :=
  bs.length = len ∧ len ≤ cap ∧ cap ≤ maxLen ∧ (len = 0 ∨ ∃ b off, a = some ⟨b, off, none⟩ ∧ b < w.heap.size ∧ ∀ i y, bs[i]? = some y → w.cell? ⟨b, off + i, none⟩ = some (.bool y))

theorem cells_at {w : World} {a : Addr} {n : Nat} {V : Nat → Value} (h : ∀ i, i < n → w.cell? (a.add i) = some (V i)) (hp : 0 < n) :
    ∃ b off, a = ⟨b, off, none⟩ ∧ b < w.heap.size ∧ ∀ j, j < n → w.cell? ⟨b, off + j, none⟩ = some (V j) := by
  obtain ⟨b, off, spot⟩ := a
  have hspot : spot = none := by simpa [Addr.add] using World.cell?_spot (h 0 hp)
  subst hspot
  have hc : ∀ j, j < n → w.cell? ⟨b, off + j, none⟩ = some (V j) := fun j hj => by rw [← Go.WideShapes.add_plain]; exact h j hj
  refine ⟨b, off, rfl, ?_, hc⟩
  have h0 := hc 0 hp
  rcases Nat.lt_or_ge b w.heap.size with hl | hl
  · exact hl
  · rw [World.cell?] at h0
    simp [Array.getElem?_eq_none hl] at h0

theorem ArgInts.below {k : IntKind} {w w' : World} {a : Option Addr} {len cap : Nat} {zs : List Int} (h : ArgInts k w a len cap zs) (hb : Below w.heap.size w w') : ArgInts k w' a len cap zs := by
  obtain ⟨h1, h2, h3, h4, h5⟩ := h
  refine ⟨h1, h2, h3, h4, h5.imp id ?_⟩
  rintro ⟨b, off, h6, h7, h8⟩
  exact ⟨b, off, h6, Nat.lt_of_lt_of_le h7 hb.size, fun i hi => (hb.cell (p := ⟨b, off + i, none⟩) h7).trans (h8 i hi)⟩
theorem ArgRows.below {k : IntKind} {w w' : World} {a : Option Addr} {len cap : Nat} {rows : List (Option Addr × Nat × Nat × List Int)} (h : ArgRows k w a len cap rows) (hb : Below w.heap.size w w') : ArgRows k w' a len cap rows := by
  obtain ⟨h1, h2, h3, h4, h5⟩ := h
  refine ⟨h1, h2, h3, fun y hy => (h4 y hy).below hb, h5.imp id ?_⟩
  rintro ⟨b, off, h6, h7, h8⟩
  exact ⟨b, off, h6, Nat.lt_of_lt_of_le h7 hb.size, fun i y hi => (hb.cell (p := ⟨b, off + i, none⟩) h7).trans (h8 i y hi)⟩
theorem ArgBools.below {w w' : World} {a : Option Addr} {len cap : Nat} {bs : List Bool} (h : ArgBools w a len cap bs) (hb : Below w.heap.size w w') : ArgBools w' a len cap bs := by
  obtain ⟨h1, h2, h3, h5⟩ := h
  refine ⟨h1, h2, h3, h5.imp id ?_⟩
  rintro ⟨b, off, h6, h7, h8⟩
  exact ⟨b, off, h6, Nat.lt_of_lt_of_le h7 hb.size, fun i y hi => (hb.cell (p := ⟨b, off + i, none⟩) h7).trans (h8 i y hi)⟩
/-- row i of a slice of slices -/
theorem ArgRows.get {k : IntKind} {w : World} {a : Option Addr} {len cap : Nat} {rows : List (Option Addr × Nat × Nat × List Int)} (h : ArgRows k w a len cap rows) (i : Nat) (hi : i < len) :
    ∃ b off y, a = some ⟨b, off, none⟩ ∧ b < w.heap.size ∧ rows[i]? = some y ∧ y ∈ rows ∧ w.cell? ⟨b, off + i, none⟩ = some (.slice y.1 y.2.1 y.2.2.1) ∧ ArgInts k w y.1 y.2.1 y.2.2.1 y.2.2.2 := by
  obtain ⟨h1, h2, h3, h4, h5⟩ := h
  obtain ⟨b, off, h6, h7, h8⟩ := h5.resolve_left (by omega)
  have hg : rows[i]? = some rows[i] := List.getElem?_eq_getElem (by omega)
  exact ⟨b, off, rows[i], h6, h7, hg, List.getElem_mem _, h8 i _ hg, h4 _ (List.getElem_mem _)⟩

section
variable {H : Type} {enc : TypeId × Value → H} {P : Program} {w : World} {base : Nat} {held : Bool}

theorem open_rows {t e q : TypeId} {k : IntKind} {a : Option Addr} {len cap : Nat} {d : DataW H} {p : List MemPlace}
    (ht : P.underlying t = some (.slice e)) (he : P.underlying e = some (.slice q)) (hq : P.underlying q = some (.int k)) (hs : (P.cellsOf e, P.cellsOf q) = (1, 1))
    (h : DataW.Trod enc P w base (fun _ => true) held t (.slice a len cap) d p) : ∃ rows, ArgRows k w a len cap rows := by
  simp only [Prod.mk.injEq] at hs
  obtain ⟨fuel, hf⟩ := h
  rcases open_int_rows ht he hq hs.1 hs.2 hf with ⟨hcs, _⟩ | ⟨x, len', cap', A, L, C, Z, hcs, _, hl, hm, _, hr⟩
  · simp [Value.cells] at hcs
    obtain ⟨rfl, rfl, rfl⟩ := hcs
    exact ⟨[], rfl, Nat.le_refl _, hm0, fun _ h => by simp at h, .inl rfl⟩
  · simp [Value.cells] at hcs
    obtain ⟨rfl, rfl, rfl⟩ := hcs
    refine ⟨(List.range len).map fun r => (A r, L r, C r, (Z r).take (L r)), by simp, hl, hm, fun y hy => ?_, ?_⟩
    · obtain ⟨r, hr', rfl⟩ := List.mem_map.1 hy
      have hlt : r < len := by simpa using hr'
      obtain ⟨_, h1, h2, h3, h4, h5, h6⟩ := hr r (by omega)
      simp only
      cases hA : A r with
      | none =>
        have hc := h5 hA
        have hl0 : L r = 0 := by omega
        rw [hc, hl0]
        exact ArgInts.nil
      | some a' => exact ArgInts.mk' h1 h2 h3 (fun i hi => (h6 a' hA).2 i (by omega)) h4
    · rcases Nat.eq_zero_or_pos len with h0 | h0
      · exact .inl h0
      · obtain ⟨b, off, rfl, hb, hc⟩ := cells_at (V := fun r => .slice (A r) (L r) (C r)) (n := len) (fun i hi => (hr i (by omega)).1) h0
        refine .inr ⟨b, off, rfl, hb, fun i y hy => ?_⟩
        rw [List.getElem?_map] at hy
        have hi : i < len := by
          rcases Nat.lt_or_ge i len with h | h
          · exact h
          · rw [List.getElem?_eq_none (by simpa using h)] at hy; cases hy
        rw [List.getElem?_range hi] at hy
        obtain rfl := Option.some.inj hy
        exact hc i hi
where hm0 : (0 : Nat) ≤ maxLen := Nat.zero_le _

theorem weightsAll_mem {e : TypeId} {x : DataW H} {n : Nat} (hn : n ∈ x.weights P e) : ∀ l : List (DataW H), x ∈ l → n ∈ DataW.weightsAll P e l
  | y :: r, h => by
    simp only [DataW.weightsAll, List.mem_append]
    rcases List.mem_cons.1 h with rfl | h
    · exact .inl hn
    · exact .inr (weightsAll_mem hn r h)

/-- the same, and what the reach says of each row -/
theorem open_rows_sized {t e q : TypeId} {k : IntKind} {a : Option Addr} {len cap : Nat} {d : DataW H} {p : List MemPlace}
    (ht : P.underlying t = some (.slice e)) (he : P.underlying e = some (.slice q)) (hq : P.underlying q = some (.int k)) (hs : (P.cellsOf e, P.cellsOf q) = (1, 1)) (hb : 0 < P.bytesOf q)
    (h : DataW.Trod enc P w base (fun _ => true) held t (.slice a len cap) d p) (hw : ∀ n ∈ d.weights P t, n ≤ reachBytes) : ∃ rows, ArgRows k w a len cap rows ∧ ∀ y ∈ rows, y.2.1 ≤ 140737488355328 := by
  obtain ⟨rows, hr⟩ := open_rows (k := k) ht he hq hs h
  refine ⟨rows, hr, fun y hy => ?_⟩
  obtain ⟨r1, r2, r3, r4, r5⟩ := hr
  simp only [Prod.mk.injEq] at hs
  obtain ⟨fuel, hf⟩ := h
  rcases open_int_rows ht he hq hs.1 hs.2 hf with ⟨hcs, _⟩ | ⟨x, len', cap', A, L, C, Z, hcs, _, hl, hm, hd, hrr⟩
  · simp [Value.cells] at hcs
    obtain ⟨rfl, rfl, rfl⟩ := hcs
    obtain rfl := List.length_eq_zero_iff.1 r1
    simp at hy
  · simp [Value.cells] at hcs
    obtain ⟨rfl, rfl, rfl⟩ := hcs
    simp only [Prod.mk.injEq] at hd
    obtain ⟨rfl, _⟩ := hd
    obtain ⟨i, hi⟩ := List.getElem?_of_mem hy
    have hil : i < len := by
      rcases Nat.lt_or_ge i len with h | h
      · exact h
      · rw [List.getElem?_eq_none (by omega)] at hi; cases hi
    obtain ⟨b, off, hx, _, hc⟩ := r5.resolve_left (by omega)
    obtain ⟨c1, c2, c3, c4, _⟩ := hrr i (by omega)
    have hv := hc i y hi
    cases hx
    rw [← Go.WideShapes.add_plain, c1] at hv
    simp only [Option.some.injEq, Value.slice.injEq] at hv
    rw [← hv.2.1]
    have hreach := reachBytes_lt
    cases hA : A i with
    | none =>
      have := (hrr i (by omega)).2.2.2.2.2.1 hA
      omega
    | some a' =>
      have := hw ((Z i).length * P.bytesOf q) (by
        simp only [DataW.weights, ht, List.mem_cons, List.mem_append]
        refine .inr (.inl (weightsAll_mem (x := intRow k (A i) (L i) (Z i)) ?_ _ (List.mem_map.2 ⟨i, by simpa using hil, rfl⟩)))
        simp [intRow, hA, DataW.weights, he, lits]
        left
        congr 1
        omega)
      have h2 : (Z i).length * 1 ≤ (Z i).length * P.bytesOf q := Nat.mul_le_mul_left _ hb
      omega

theorem open_boolList {t e : TypeId} {a : Option Addr} {len cap : Nat} {d : DataW H} {p : List MemPlace}
    (ht : P.underlying t = some (.slice e)) (he : P.underlying e = some .bool) (hs : P.cellsOf e = 1)
    (h : DataW.Trod enc P w base (fun _ => true) held t (.slice a len cap) d p) : ∃ bs, ArgBools w a len cap bs := by
  obtain ⟨fuel, hf⟩ := h
  rcases open_bools ht he hs hf with ⟨hcs, _⟩ | ⟨x, len', cap', B, hcs, _, hl, hm, _, hr⟩
  · simp [Value.cells] at hcs
    obtain ⟨rfl, rfl, rfl⟩ := hcs
    exact ⟨[], rfl, Nat.le_refl _, Nat.zero_le _, .inl rfl⟩
  · simp [Value.cells] at hcs
    obtain ⟨rfl, rfl, rfl⟩ := hcs
    refine ⟨(List.range len).map B, by simp, hl, hm, ?_⟩
    rcases Nat.eq_zero_or_pos len with h0 | h0
    · exact .inl h0
    · obtain ⟨b, off, rfl, hb, hc⟩ := cells_at (V := fun r => .bool (B r)) (n := len) (fun i hi => hr i (by omega)) h0
      refine .inr ⟨b, off, rfl, hb, fun i y hy => ?_⟩
      rw [List.getElem?_map] at hy
      have hi : i < len := by
        rcases Nat.lt_or_ge i len with h | h
        · exact h
        · rw [List.getElem?_eq_none (by simpa using h)] at hy; cases hy
      rw [List.getElem?_range hi] at hy
      obtain rfl := Option.some.inj hy
      exact hc i hi
end
end Go.Proofs.Ytjokgiheabmolaa
