/-
  A slice of slices of integers, and a slice of bools, that came in, opened. Nothing of the program.
-/
import Derived.Test.YtbbaleambgaanaaGreatDoorArrArg
import Derived.Deep.Matrix
import Derived.Deep.Grids
import Derived.SizedLaws
import Derived.Test.YtbbaleambgaanaaGreatDoorPk02
import Derived.Test.YtbbaleambgaanaaGreatDoorPk05
import Derived.Deep.Strs
import Derived.Maps.AppendAt
import Derived.Test.YtbbaleambgaanaaGreatDoorPk28
import Derived.Test.YtbbaleambgaanaaGreatDoorPk20
namespace Go.Proofs.YtbbaleambgaanaaGreatDoor
open Go.RowKit Go.ChangeShapes Go.Deep

/-- WHAT A WALK IS TOLD OF A SLICE OF SLICES OF INTEGERS THAT CAME IN: rows: each row's address, length, capacity, elements -/
def ArgRows (k : IntKind) (w : World) (a : Option Addr) (len cap : Nat) (rows : List (Option Addr × Nat × Nat × List Int)) : Prop :=
  rows.length = len ∧ len ≤ cap ∧ cap ≤ maxLen ∧ (∀ y ∈ rows, ArgInts k w y.1 y.2.1 y.2.2.1 y.2.2.2) ∧
  (len = 0 ∨ ∃ b off, a = some ⟨b, off, none⟩ ∧ b < w.heap.size ∧ ∀ i y, rows[i]? = some y → w.cell? ⟨b, off + i, none⟩ = some (.slice y.1 y.2.1 y.2.2.1))
/-- likewise of a slice of bools -/
def ArgBools (w : World) (a : Option Addr) (len cap : Nat) (bs : List Bool) : Prop :=
  bs.length = len ∧ len ≤ cap ∧ cap ≤ maxLen ∧ (len = 0 ∨ ∃ b off, a = some ⟨b, off, none⟩ ∧ b < w.heap.size ∧ ∀ i y, bs[i]? = some y → w.cell? ⟨b, off + i, none⟩ = some (.bool y))

theorem cells_at {w : World} {a : Addr} {n : Nat} {V : Nat → Value} (h : ∀ i, i < n → w.cell? (a.add i) = some (V i)) (hp : 0 < n) :
    ∃ b off, a = ⟨b, off, none⟩ ∧ b < w.heap.size ∧ ∀ j, j < n → w.cell? ⟨b, off + j, none⟩ = some (V j) := by
  obtain ⟨b, off, spot⟩ := a
  have hspot : spot = none := by simpa [Addr.add] using World.cell?_spot (h 0 hp)
  subst hspot
  have hc : ∀ j, j < n → w.cell? ⟨b, off + j, none⟩ = some (V j) := fun j hj => by rw [← Go.WideShapes.add_plain]; exact h j hj
  refine ⟨b, off, rfl, ?_, hc⟩
  have h0 := hc 0 hp
  rcases Nat.lt_or_ge b w.heap.size with hl | hl
  · exact hl
  · rw [World.cell?] at h0
    simp [Array.getElem?_eq_none hl] at h0

theorem ArgInts.below {k : IntKind} {w w' : World} {a : Option Addr} {len cap : Nat} {zs : List Int} (h : ArgInts k w a len cap zs) (hb : Below w.heap.size w w') : ArgInts k w' a len cap zs := by
  obtain ⟨h1, h2, h3, h4, h5⟩ := h
  refine ⟨h1, h2, h3, h4, h5.imp id ?_⟩
  rintro ⟨b, off, h6, h7, h8⟩
  exact ⟨b, off, h6, Nat.lt_of_lt_of_le h7 hb.size, fun i hi => (hb.cell (p := ⟨b, off + i, none⟩) h7).trans (h8 i hi)⟩
theorem ArgRows.below {k : IntKind} {w w' : World} {a : Option Addr} {len cap : Nat} {rows : List (Option Addr × Nat × Nat × List Int)} (h : ArgRows k w a len cap rows) (hb : Below w.heap.size w w') : ArgRows k w' a len cap rows := by
  obtain ⟨h1, h2, h3, h4, h5⟩ := h
  refine ⟨h1, h2, h3, fun y hy => (h4 y hy).below hb, h5.imp id ?_⟩
  rintro ⟨b, off, h6, h7, h8⟩
  exact ⟨b, off, h6, Nat.lt_of_lt_of_le h7 hb.size, fun i y hi => (hb.cell (p := ⟨b, off + i, none⟩) h7).trans (h8 i y hi)⟩
theorem ArgBools.below {w w' : World} {a : Option Addr} {len cap : Nat} {bs : List Bool} (h : ArgBools w a len cap bs) (hb : Below w.heap.size w w') : ArgBools w' a len cap bs := by
  obtain ⟨h1, h2, h3, h5⟩ := h
  refine ⟨h1, h2, h3, h5.imp id ?_⟩
  rintro ⟨b, off, h6, h7, h8⟩
  exact ⟨b, off, h6, Nat.lt_of_lt_of_le h7 hb.size, fun i y hi => (hb.cell (p := ⟨b, off + i, none⟩) h7).trans (h8 i y hi)⟩
/-- row i of a slice of slices -/
theorem ArgRows.get {k : IntKind} {w : World} {a : Option Addr} {len cap : Nat} {rows : List (Option Addr × Nat × Nat × List Int)} (h : ArgRows k w a len cap rows) (i : Nat) (hi : i < len) :
    ∃ b off y, a = some ⟨b, off, none⟩ ∧ b < w.heap.size ∧ rows[i]? = some y ∧ y ∈ rows ∧ w.cell? ⟨b, off + i, none⟩ = some (.slice y.1 y.2.1 y.2.2.1) ∧ ArgInts k w y.1 y.2.1 y.2.2.1 y.2.2.2 := by
  obtain ⟨h1, h2, h3, h4, h5⟩ := h
  obtain ⟨b, off, h6, h7, h8⟩ := h5.resolve_left (by omega)
  have hg : rows[i]? = some rows[i] := List.getElem?_eq_getElem (by omega)
  exact ⟨b, off, rows[i], h6, h7, hg, List.getElem_mem _, h8 i _ hg, h4 _ (List.getElem_mem _)⟩

section
variable {H : Type} {enc : TypeId × Value → H} {P : Program} {w : World} {base : Nat} {held : Bool}

theorem open_rows {t e q : TypeId} {k : IntKind} {a : Option Addr} {len cap : Nat} {d : DataW H} {p : List MemPlace}
    (ht : P.underlying t = some (.slice e)) (he : P.underlying e = some (.slice q)) (hq : P.underlying q = some (.int k)) (hs : (P.cellsOf e, P.cellsOf q) = (1, 1))
    (h : DataW.Trod enc P w base (fun _ => true) held t (.slice a len cap) d p) : ∃ rows, ArgRows k w a len cap rows := by
  simp only [Prod.mk.injEq] at hs
  obtain ⟨fuel, hf⟩ := h
  rcases open_int_rows ht he hq hs.1 hs.2 hf with ⟨hcs, _⟩ | ⟨x, len', cap', A, L, C, Z, hcs, _, hl, hm, _, hr⟩
  · simp [Value.cells] at hcs
    obtain ⟨rfl, rfl, rfl⟩ := hcs
    exact ⟨[], rfl, Nat.le_refl _, hm0, fun _ h => by simp at h, .inl rfl⟩
  · simp [Value.cells] at hcs
    obtain ⟨rfl, rfl, rfl⟩ := hcs
    refine ⟨(List.range len).map fun r => (A r, L r, C r, (Z r).take (L r)), by simp, hl, hm, fun y hy => ?_, ?_⟩
    · obtain ⟨r, hr', rfl⟩ := List.mem_map.1 hy
      have hlt : r < len := by simpa using hr'
      obtain ⟨_, h1, h2, h3, h4, h5, h6⟩ := hr r (by omega)
      simp only
      cases hA : A r with
      | none =>
        have hc := h5 hA
        have hl0 : L r = 0 := by omega
        rw [hc, hl0]
        exact ArgInts.nil
      | some a' => exact ArgInts.mk' h1 h2 h3 (fun i hi => (h6 a' hA).2 i (by omega)) h4
    · rcases Nat.eq_zero_or_pos len with h0 | h0
      · exact .inl h0
      · obtain ⟨b, off, rfl, hb, hc⟩ := cells_at (V := fun r => .slice (A r) (L r) (C r)) (n := len) (fun i hi => (hr i (by omega)).1) h0
        refine .inr ⟨b, off, rfl, hb, fun i y hy => ?_⟩
        rw [List.getElem?_map] at hy
        have hi : i < len := by
          rcases Nat.lt_or_ge i len with h | h
          · exact h
          · rw [List.getElem?_eq_none (by simpa using h)] at hy; cases hy
        rw [List.getElem?_range hi] at hy
        obtain rfl := Option.some.inj hy
        exact hc i hi
where hm0 : (0 : Nat) ≤ maxLen := Nat.zero_le _

theorem weightsAll_mem {e : TypeId} {x : DataW H} {n : Nat} (hn : n ∈ x.weights P e) : ∀ l : List (DataW H), x ∈ l → n ∈ DataW.weightsAll P e l
  | y :: r, h => by
    simp only [DataW.weightsAll, List.mem_append]
    rcases List.mem_cons.1 h with rfl | h
    · exact .inl hn
    · exact .inr (weightsAll_mem hn r h)

/-- the same, and what the reach says of each row -/
theorem open_rows_sized {t e q : TypeId} {k : IntKind} {a : Option Addr} {len cap : Nat} {d : DataW H} {p : List MemPlace}
    (ht : P.underlying t = some (.slice e)) (he : P.underlying e = some (.slice q)) (hq : P.underlying q = some (.int k)) (hs : (P.cellsOf e, P.cellsOf q) = (1, 1)) (hb : 0 < P.bytesOf q)
    (h : DataW.Trod enc P w base (fun _ => true) held t (.slice a len cap) d p) (hw : ∀ n ∈ d.weights P t, n ≤ reachBytes) : ∃ rows, ArgRows k w a len cap rows ∧ ∀ y ∈ rows, y.2.1 ≤ 140737488355328 := by
  obtain ⟨rows, hr⟩ := open_rows (k := k) ht he hq hs h
  refine ⟨rows, hr, fun y hy => ?_⟩
  obtain ⟨r1, r2, r3, r4, r5⟩ := hr
  simp only [Prod.mk.injEq] at hs
  obtain ⟨fuel, hf⟩ := h
  rcases open_int_rows ht he hq hs.1 hs.2 hf with ⟨hcs, _⟩ | ⟨x, len', cap', A, L, C, Z, hcs, _, hl, hm, hd, hrr⟩
  · simp [Value.cells] at hcs
    obtain ⟨rfl, rfl, rfl⟩ := hcs
    obtain rfl := List.length_eq_zero_iff.1 r1
    simp at hy
  · simp [Value.cells] at hcs
    obtain ⟨rfl, rfl, rfl⟩ := hcs
    simp only [Prod.mk.injEq] at hd
    obtain ⟨rfl, _⟩ := hd
    obtain ⟨i, hi⟩ := List.getElem?_of_mem hy
    have hil : i < len := by
      rcases Nat.lt_or_ge i len with h | h
      · exact h
      · rw [List.getElem?_eq_none (by omega)] at hi; cases hi
    obtain ⟨b, off, hx, _, hc⟩ := r5.resolve_left (by omega)
    obtain ⟨c1, c2, c3, c4, _⟩ := hrr i (by omega)
    have hv := hc i y hi
    cases hx
    rw [← Go.WideShapes.add_plain, c1] at hv
    simp only [Option.some.injEq, Value.slice.injEq] at hv
    rw [← hv.2.1]
    have hreach := reachBytes_lt
    cases hA : A i with
    | none =>
      have := (hrr i (by omega)).2.2.2.2.2.1 hA
      omega
    | some a' =>
      have := hw ((Z i).length * P.bytesOf q) (by
        simp only [DataW.weights, ht, List.mem_cons, List.mem_append]
        refine .inr (.inl (weightsAll_mem (x := intRow k (A i) (L i) (Z i)) ?_ _ (List.mem_map.2 ⟨i, by simpa using hil, rfl⟩)))
        simp [intRow, hA, DataW.weights, he, lits]
        left
        congr 1
        omega)
      have h2 : (Z i).length * 1 ≤ (Z i).length * P.bytesOf q := Nat.mul_le_mul_left _ hb
      omega

theorem open_boolList {t e : TypeId} {a : Option Addr} {len cap : Nat} {d : DataW H} {p : List MemPlace}
    (ht : P.underlying t = some (.slice e)) (he : P.underlying e = some .bool) (hs : P.cellsOf e = 1)
    (h : DataW.Trod enc P w base (fun _ => true) held t (.slice a len cap) d p) : ∃ bs, ArgBools w a len cap bs := by
  obtain ⟨fuel, hf⟩ := h
  rcases open_bools ht he hs hf with ⟨hcs, _⟩ | ⟨x, len', cap', B, hcs, _, hl, hm, _, hr⟩
  · simp [Value.cells] at hcs
    obtain ⟨rfl, rfl, rfl⟩ := hcs
    exact ⟨[], rfl, Nat.le_refl _, Nat.zero_le _, .inl rfl⟩
  · simp [Value.cells] at hcs
    obtain ⟨rfl, rfl, rfl⟩ := hcs
    refine ⟨(List.range len).map B, by simp, hl, hm, ?_⟩
    rcases Nat.eq_zero_or_pos len with h0 | h0
    · exact .inl h0
    · obtain ⟨b, off, rfl, hb, hc⟩ := cells_at (V := fun r => .bool (B r)) (n := len) (fun i hi => hr i (by omega)) h0
      refine .inr ⟨b, off, rfl, hb, fun i y hy => ?_⟩
      rw [List.getElem?_map] at hy
      have hi : i < len := by
        rcases Nat.lt_or_ge i len with h | h
        · exact h
        · rw [List.getElem?_eq_none (by simpa using h)] at hy; cases hy
      rw [List.getElem?_range hi] at hy
      obtain rfl := Option.some.inj hy
      exact hc i hi
end
end Go.Proofs.YtbbaleambgaanaaGreatDoor
/-
  A slice of entries (an integer, a string, an integer, a string, an integer) that came in, opened; what the reach says of the strings. Nothing of the program.
-/
namespace Go.Proofs.YtbbaleambgaanaaGreatDoor.Fit
open Go.RowKit Go.ChangeShapes Go.Deep

/-- the cells of entries -/
def entCells (es : List Ent) : List Value := es.flatMap fun e => [.int .i64 e.k, .string e.p, .int .i64 e.m, .string e.t, .int .i64 e.s]
theorem entCells_len : ∀ es : List Ent, (entCells es).length = es.length * 5
  | [] => rfl
  | e :: es => by
    have := entCells_len es
    unfold entCells at this ⊢
    rw [List.flatMap_cons, List.length_append, this, List.length_cons]
    simp; omega
theorem entCells_snoc (es : List Ent) (e : Ent) : entCells (es ++ [e]) = entCells es ++ [.int .i64 e.k, .string e.p, .int .i64 e.m, .string e.t, .int .i64 e.s] := by unfold entCells; simp
theorem entCells_at : ∀ (es : List Ent) (i : Nat) (e : Ent), es[i]? = some e → (entCells es)[i * 5]? = some (.int .i64 e.k) ∧ (entCells es)[i * 5 + 1]? = some (.string e.p) ∧ (entCells es)[i * 5 + 2]? = some (.int .i64 e.m) ∧ (entCells es)[i * 5 + 3]? = some (.string e.t) ∧ (entCells es)[i * 5 + 4]? = some (.int .i64 e.s)
  | [], i, e, h => by simp at h
  | q :: es, i, e, h => by
    have c : entCells (q :: es) = .int .i64 q.k :: .string q.p :: .int .i64 q.m :: .string q.t :: .int .i64 q.s :: entCells es := by unfold entCells; rw [List.flatMap_cons]; rfl
    rw [c]
    cases i with
    | zero => simp at h; subst h; exact ⟨rfl, rfl, rfl, rfl, rfl⟩
    | succ i =>
      have := entCells_at es i e (by simpa using h)
      rw [show (i + 1) * 5 = i * 5 + 5 by omega]
      exact this

/-- entries lie at block b from off on -/
def EntsAt (w : World) (b off : Nat) (es : List Ent) : Prop := ∀ i e, es[i]? = some e →
  w.cell? ⟨b, off + i * 5, none⟩ = some (.int .i64 e.k) ∧ w.cell? ⟨b, off + i * 5 + 1, none⟩ = some (.string e.p) ∧ w.cell? ⟨b, off + i * 5 + 2, none⟩ = some (.int .i64 e.m) ∧ w.cell? ⟨b, off + i * 5 + 3, none⟩ = some (.string e.t) ∧ w.cell? ⟨b, off + i * 5 + 4, none⟩ = some (.int .i64 e.s)
def EntsIn (w : World) (a : Option Addr) (es : List Ent) : Prop := es = [] ∨ ∃ b off, a = some ⟨b, off, none⟩ ∧ b < w.heap.size ∧ EntsAt w b off es
theorem EntsAt.below {w w' : World} {b off B : Nat} {es : List Ent} (h : EntsAt w b off es) (hb : Below B w w') (hB : b < B) : EntsAt w' b off es := fun i e hi => by
  obtain ⟨c0, c1, c2, c3, c4⟩ := h i e hi
  exact ⟨(hb.cell (p := ⟨b, off + i * 5, none⟩) hB).trans c0, (hb.cell (p := ⟨b, off + i * 5 + 1, none⟩) hB).trans c1, (hb.cell (p := ⟨b, off + i * 5 + 2, none⟩) hB).trans c2, (hb.cell (p := ⟨b, off + i * 5 + 3, none⟩) hB).trans c3, (hb.cell (p := ⟨b, off + i * 5 + 4, none⟩) hB).trans c4⟩
theorem EntsIn.below {w w' : World} {a : Option Addr} {es : List Ent} (h : EntsIn w a es) (hb : Below w.heap.size w w') : EntsIn w' a es := by
  rcases h with h | ⟨b, off, h1, h2, h3⟩
  · exact .inl h
  · exact .inr ⟨b, off, h1, Nat.lt_of_lt_of_le h2 hb.size, h3.below hb h2⟩

/-- WHAT A WALK IS TOLD OF A SLICE OF ENTRIES THAT CAME IN -/
structure ArgEnts (w : World) (a : Option Addr) (len cap : Nat) (es : List Ent) : Prop where
  n : es.length = len
  c : len ≤ cap
  m : cap ≤ maxLen
  r : EntsIn w a es
  s : ∀ e ∈ es, e.p.size ≤ 140737488355328 ∧ e.t.size ≤ 140737488355328 ∧ (Lit.int .i64 e.k).wf = true ∧ (Lit.int .i64 e.m).wf = true ∧ (Lit.int .i64 e.s).wf = true
theorem ArgEnts.below {w w' : World} {a : Option Addr} {len cap : Nat} {es : List Ent} (h : ArgEnts w a len cap es) (hb : Below w.heap.size w w') : ArgEnts w' a len cap es := ⟨h.n, h.c, h.m, h.r.below hb, h.s⟩
theorem ArgEnts.get {w : World} {a : Option Addr} {len cap : Nat} {es : List Ent} (h : ArgEnts w a len cap es) (i : Nat) (hi : i < len) :
    ∃ b off e, a = some ⟨b, off, none⟩ ∧ b < w.heap.size ∧ es[i]? = some e ∧ e ∈ es ∧ EntsAt w b off es := by
  have hlt : i < es.length := by rw [h.n]; exact hi
  have hg : es[i]? = some es[i] := List.getElem?_eq_getElem hlt
  rcases h.r with h0 | ⟨b, off, h1, h2, h3⟩
  · simp [h0] at hlt
  · exact ⟨b, off, _, h1, h2, hg, List.getElem_mem _, h3⟩

instance : Inhabited Ent := ⟨⟨0, emp, 0, emp, 0⟩⟩
section
variable {H : Type} {enc : TypeId × Value → H} {P : Program} {w : World} {base : Nat} {held : Bool}

theorem open_ents {t e : TypeId} {f0 f1 f2 f3 f4 : Field} {a : Option Addr} {len cap : Nat} {d : DataW H} {p : List MemPlace}
    (ht : P.underlying t = some (.slice e)) (he : P.underlying e = some (.struct #[f0, f1, f2, f3, f4])) (h0 : P.underlying f0.type = some (.int .i64)) (h1 : P.underlying f1.type = some .string) (h2 : P.underlying f2.type = some (.int .i64)) (h3 : P.underlying f3.type = some .string) (h4 : P.underlying f4.type = some (.int .i64))
    (hs : (P.cellsOf e, f0.offset, P.cellsOf f0.type, f1.offset, P.cellsOf f1.type, f2.offset, P.cellsOf f2.type, f3.offset, P.cellsOf f3.type, f4.offset, P.cellsOf f4.type) = (5, 0, 1, 1, 1, 2, 1, 3, 1, 4, 1))
    (h : DataW.Trod enc P w base (fun _ => true) held t (.slice a len cap) d p) (hw : ∀ n ∈ d.weights P t, n ≤ reachBytes) : ∃ es, ArgEnts w a len cap es := by
  simp only [Prod.mk.injEq] at hs
  obtain ⟨s, o0, z0, o1, z1, o2, z2, o3, z3, o4, z4⟩ := hs
  obtain ⟨fuel, hf⟩ := h
  rcases open_slice ht hf with ⟨hcs, _⟩ | ⟨x, len', cap', m, n, D, Pl, hcs, _, hl, hm, hmm, hd, hx⟩
  · simp [Value.cells] at hcs
    obtain ⟨rfl, rfl, rfl⟩ := hcs
    exact ⟨[], rfl, Nat.le_refl _, Nat.zero_le _, .inl rfl, fun _ h => by cases h⟩
  · simp [Value.cells] at hcs
    obtain ⟨rfl, rfl, rfl⟩ := hcs
    simp only [if_true] at hmm
    simp only [Prod.mk.injEq] at hd
    obtain ⟨rfl, _⟩ := hd
    have hreach := reachBytes_lt
    have each : ∀ i, i < m → ∃ y : Ent, (w.cell? (x.add (i * 5)) = some (.int .i64 y.k) ∧ w.cell? (x.add (i * 5 + 1)) = some (.string y.p) ∧ w.cell? (x.add (i * 5 + 2)) = some (.int .i64 y.m) ∧ w.cell? (x.add (i * 5 + 3)) = some (.string y.t) ∧ w.cell? (x.add (i * 5 + 4)) = some (.int .i64 y.s)) ∧
        (i < len → y.p.size ≤ 140737488355328 ∧ y.t.size ≤ 140737488355328 ∧ (Lit.int .i64 y.k).wf = true ∧ (Lit.int .i64 y.m).wf = true ∧ (Lit.int .i64 y.s).wf = true) := by
      intro i hi
      obtain ⟨cs', g1, g2⟩ := hx i hi
      rw [s] at g1
      obtain ⟨_, hlen, hcell⟩ := World.cells?_some g1
      obtain ⟨xs, k, _, hxe, _, hxl, hfd⟩ := DataW.trod_struct he g2
      match cs', hlen with
      | [v0, v1, v2, v3, v4], _ =>
      match xs, hxl with
      | [y0, y1, y2, y3, y4], _ =>
      have u0 := hfd 0 f0 rfl
      have u1 := hfd 1 f1 rfl
      have u2 := hfd 2 f2 rfl
      have u3 := hfd 3 f3 rfl
      have u4 := hfd 4 f4 rfl
      rw [o0, z0] at u0; rw [o1, z1] at u1; rw [o2, z2] at u2; rw [o3, z3] at u3; rw [o4, z4] at u4
      simp at u0 u1 u2 u3 u4
      obtain ⟨k0, e0, x0, w0⟩ := DataW.trod_int h0 u0
      obtain ⟨k1, e1, x1, _⟩ := DataW.trod_string h1 u1
      obtain ⟨k2, e2, x2, w2⟩ := DataW.trod_int h2 u2
      obtain ⟨k3, e3, x3, _⟩ := DataW.trod_string h3 u3
      obtain ⟨k4, e4, x4, w4⟩ := DataW.trod_int h4 u4
      simp only [List.cons.injEq, and_true] at e0 e1 e2 e3 e4
      subst e0; subst e1; subst e2; subst e3; subst e4
      have c0 := hcell 0 (by omega)
      have c1 := hcell 1 (by omega)
      have c2 := hcell 2 (by omega)
      have c3 := hcell 3 (by omega)
      have c4 := hcell 4 (by omega)
      rw [add_add] at c0 c1 c2 c3 c4
      simp at c0 c1 c2 c3 c4
      refine ⟨⟨k0, k1, k2, k3, k4⟩, ⟨c0, c1, c2, c3, c4⟩, fun hil => ?_⟩
      simp only [Prod.mk.injEq] at hxe
      have hD : D i = .agg [.lit (.int .i64 k0), .lit (.string k1.data.toList), .lit (.int .i64 k2), .lit (.string k3.data.toList), .lit (.int .i64 k4)] := by
        rw [hxe.1, x0, x1, x2, x3, x4]; rfl
      have hmem : ∀ z, z ∈ (D i).weights P e → z ≤ reachBytes := fun z hz => hw z (by
        simp only [DataW.weights, ht, List.mem_cons, List.mem_append]
        exact .inr (.inl (weightsAll_mem (x := D i) hz _ (List.mem_map.2 ⟨i, by simpa using hil, rfl⟩))))
      have b1 := hmem k1.data.toList.length (by rw [hD]; simp [DataW.weights, DataW.weightsEach, he])
      have b3 := hmem k3.data.toList.length (by rw [hD]; simp [DataW.weights, DataW.weightsEach, he])
      rw [← Lib.size_eq] at b1 b3
      exact ⟨by show k1.size ≤ _; omega, by show k3.size ≤ _; omega, w0, w2, w4⟩
    obtain ⟨A, hA⟩ := choose_lt each
    refine ⟨(List.range len).map A, by simp, hl, hm, ?_, fun y hy => ?_⟩
    · rcases Nat.eq_zero_or_pos len with h0' | h0'
      · subst h0'; exact .inl rfl
      · have hc0 := (hA 0 (by omega)).1.1
        obtain ⟨b, off, spot⟩ := x
        have hspot : spot = none := by simpa [Addr.add] using World.cell?_spot hc0
        subst hspot
        refine .inr ⟨b, off, rfl, ?_, fun i y hy => ?_⟩
        · exact World.block_lt_of_cell? w (⟨b, off, none⟩ : Addr) (by simpa [Go.WideShapes.add_plain] using hc0)
        · rw [List.getElem?_map] at hy
          have hi : i < len := by
            rcases Nat.lt_or_ge i len with h | h
            · exact h
            · rw [List.getElem?_eq_none (by simpa using h)] at hy; cases hy
          rw [List.getElem?_range hi] at hy
          obtain rfl := Option.some.inj hy
          obtain ⟨⟨c0, c1, c2, c3, c4⟩, _⟩ := hA i (by omega)
          rw [Go.WideShapes.add_plain] at c0 c1 c2 c3 c4
          exact ⟨c0, by rw [Nat.add_assoc]; exact c1, by rw [Nat.add_assoc]; exact c2, by rw [Nat.add_assoc]; exact c3, by rw [Nat.add_assoc]; exact c4⟩
    · obtain ⟨r, hr', rfl⟩ := List.mem_map.1 hy
      have hlt : r < len := by simpa using hr'
      exact (hA r (by omega)).2 hlt
end
end Go.Proofs.YtbbaleambgaanaaGreatDoor.Fit
/-
  Several rows of the call's own beside one another: an append onto one of them leaves the others; literals of one element. Nothing of the program.
-/
namespace Go.Proofs.YtbbaleambgaanaaGreatDoor
open Go.RowKit

/-- two values that own no block together -/
def Apart (u v : Value) : Prop := ∀ k, u.ownBlock = some k → v.ownBlock ≠ some k
theorem Apart.symm {u v : Value} (h : Apart u v) : Apart v u := fun k hv hu => h k hu hv
theorem Apart.none_l (v : Value) (n c : Nat) : Apart (.slice none n c) v := fun k h => by cases h
theorem own_under {w : World} {base n size : Nat} {e : TypeId} {v : Value} {xs : List Value} (h : w.ownsRow base e size v n xs) : ∀ k, v.ownBlock = some k → base ≤ k ∧ k < w.heap.size := by
  intro k hk
  rcases h.2 with ⟨h', _⟩ | ⟨g', cap', cur, hv, hb', hh, _⟩
  · rw [h'] at hk; cases hk
  · rw [hv] at hk
    obtain rfl : g' = k := by simpa [Value.ownBlock] using hk
    exact ⟨hb', (Array.getElem?_eq_some_iff.1 hh).1⟩
theorem own_grown {w w' : World} {base n size : Nat} {e : TypeId} {v : Value} {xs : List Value} {r : Option Nat} (h : w.ownsRow base e size v n xs) (hg : w.grownBy w' r) (hd : ∀ k, v.ownBlock = some k → r ≠ some k) : w'.ownsRow base e size v n xs := by
  obtain ⟨h1, h2⟩ := h
  refine ⟨h1, h2.imp id ?_⟩
  rintro ⟨g, cap, cur, hv, hb, hh, r'⟩
  have hlt : g < w.heap.size := (Array.getElem?_eq_some_iff.1 hh).1
  have ho : v.ownBlock = some g := by rw [hv]; rfl
  exact ⟨g, cap, cur, hv, hb, (hg.block g hlt (fun e => hd g ho e.symm)).trans hh, r'⟩
theorem own_stay' {w w' : World} {base B n size : Nat} {e : TypeId} {v : Value} {xs : List Value} (h : w.ownsRow base e size v n xs) (hb : Below B w w') (hB : w.heap.size ≤ B) : w'.ownsRow base e size v n xs := by
  obtain ⟨h1, h2⟩ := h
  refine ⟨h1, ?_⟩
  rcases h2 with h2 | ⟨g', cap', cur, hv, hb', hh, r⟩
  · exact Or.inl h2
  · have hlt : g' < w.heap.size := (Array.getElem?_eq_some_iff.1 hh).1
    exact Or.inr ⟨g', cap', cur, hv, hb', by rw [hb.block g' (by omega)]; exact hh, r⟩
theorem Apart.next {w : World} {base n size : Nat} {e : TypeId} {u v v' : Value} {xs : List Value} (h : Apart u v) (hu : w.ownsRow base e size u n xs) (hv : v'.ownBlock = v.ownBlock ∨ v'.ownBlock = some w.heap.size) : Apart u v' := fun k hk hk' => by
  rcases hv with hv | hv
  · rw [hv] at hk'; exact h k hk hk'
  · rw [hv] at hk'
    have := (own_under hu k hk).2
    simp only [Option.some.injEq] at hk'
    omega
theorem own_slice {w : World} {base n size : Nat} {e : TypeId} {v : Value} {xs : List Value} (h : w.ownsRow base e size v n xs) : ∃ a c, v = .slice a n c ∧ n ≤ c ∧ c ≤ maxLen := by
  rcases h.2 with ⟨rfl, rfl⟩ | ⟨g, cap, cur, rfl, _, _, hc, hm, _⟩
  · exact ⟨none, 0, rfl, Nat.le_refl _, Nat.zero_le _⟩
  · exact ⟨_, cap, rfl, hc, hm⟩
theorem info_of {P : Program} {e : TypeId} {z : Value} {s b : Nat} (h : (P.info? e).map (fun i => (i.zero, i.size, i.bytes)) = some (some z, s, b)) :
    ∃ i0, Hid (P.info? e = some i0 ∧ i0.zero = some z ∧ i0.size = s ∧ i0.bytes = b) := by
  cases hq : P.info? e with
  | none => simp [hq] at h
  | some i => simp [hq] at h; exact ⟨i, rfl, h.1, h.2.1, h.2.2⟩

section
variable {P : Program} {w : World} {ops : Array Oper} {rest : List Oper} {o : Oper} {a : Act} {Q : Exit → Act → World → Prop}

theorem wpList_append_apart (hgd : o.guard = none) (s x : Operand) (t : TypeId) (ho : o.op = .call { callee := .builtin .append, args := #[s, x], argTypes := #[t, t] })
    (base : Nat) (e : TypeId) (i0 : TypeInfo) (z : Value) (size bytes : Nat) (hT : P.underlying t = some (.slice e)) (hI : Hid (P.info? e = some i0 ∧ i0.zero = some z ∧ i0.size = size ∧ i0.bytes = bytes)) (hz : z.cells.size = size) (h0 : 0 < size)
    (v : Value) (n : Nat) (xs : List Value) (hs : a.eval s = v) (hown : w.ownsRow base e size v n xs)
    (ad : Addr) (m c : Nat) (news : List Value) (hx : a.eval x = .slice (some ad) m c) (hl : news.length = m * size) (hnews : ∀ j u, news[j]? = some u → w.cell? (ad.add j) = some u) (h1 : ∀ u ∈ news, u.oneCell' = true)
    (h63 : n + m ≤ maxLen) (h47 : (n + m) * bytes ≤ 140737488355328) (hbase : base ≤ w.heap.size)
    (K : ∀ v' w', w'.ownsRow base e size v' (n + m) (xs ++ news) → w.grownBy w' v.ownBlock → (v'.ownBlock = v.ownBlock ∨ v'.ownBlock = some w.heap.size) → Below base w w' → wpList P ops Q rest (a.put o.dst v') w') : wpList P ops Q (o :: rest) a w := by
  obtain ⟨v', w', hr, k1, k2, _, k3⟩ := run_append_own_at (P := P) w base t o.type e i0 z size bytes hT hI.out.1 hI.out.2.1 hI.out.2.2.1 hI.out.2.2.2 hz h0 v n xs hown ad m c news hl hnews h1 h63 h47 hbase
  refine wpList_plain hgd fun K' hK => ?_
  unfold Oper.wp
  simp [execOp, ho, resolve, invoke, builtin, hs, hx, hr, Result.andThen]
  exact hK _ _ (K _ _ k1 k2 k3 ((Below.refl _ _).grown k2 hbase (fun k hk => (own_under hown k hk).1)))

/-- .. of a row known whole -/
theorem wpList_append_obj (hgd : o.guard = none) (s x : Operand) (t : TypeId) (ho : o.op = .call { callee := .builtin .append, args := #[s, x], argTypes := #[t, t] })
    (base : Nat) (e : TypeId) (i0 : TypeInfo) (z : Value) (size bytes : Nat) (hT : P.underlying t = some (.slice e)) (hI : Hid (P.info? e = some i0 ∧ i0.zero = some z ∧ i0.size = size ∧ i0.bytes = bytes)) (hz : z.cells.size = size) (h0 : 0 < size)
    (v : Value) (n : Nat) (xs : List Value) (hs : a.eval s = v) (hown : w.ownsRow base e size v n xs)
    (b c : Nat) (T : TypeId) (news : List Value) (hx : a.eval x = .slice (some ⟨b, 0, none⟩) 1 c) (hl : news.length = size) (hob : ObjAt w b T news) (h1 : ∀ u ∈ news, u.oneCell' = true)
    (h63 : n + 1 ≤ maxLen) (h47 : (n + 1) * bytes ≤ 140737488355328) (hbase : base ≤ w.heap.size)
    (K : ∀ v' w', w'.ownsRow base e size v' (n + 1) (xs ++ news) → w.grownBy w' v.ownBlock → (v'.ownBlock = v.ownBlock ∨ v'.ownBlock = some w.heap.size) → Below base w w' → wpList P ops Q rest (a.put o.dst v') w') : wpList P ops Q (o :: rest) a w :=
  wpList_append_apart hgd s x t ho base e i0 z size bytes hT hI hz h0 v n xs hs hown ⟨b, 0, none⟩ 1 c news hx (by omega) (fun j u hj => by rw [add_plain', Nat.zero_add, hob.cell, hj]) h1 h63 h47 hbase K

/-- a literal of one struct of five cells -/
theorem wpList_lit_five (hgd : o.guard = none) (t e : TypeId) (x : Operand) (ho : o.op = .buildSlice t 1 #[(0, x)]) (ht : P.underlying t = some (.slice e)) (z : Value) (hI : (P.info? e).map (fun i => (i.zero, i.size)) = some (some z, 5))
    (u0 u1 u2 u3 u4 : Value) (hx : a.eval x = .agg #[u0, u1, u2, u3, u4])
    (K : ∀ w', ObjAt w' w.heap.size e [u0, u1, u2, u3, u4] → Below w.heap.size w w' → wpList P ops Q rest (a.put o.dst (.slice (some ⟨w.heap.size, 0, none⟩) 1 1)) w') : wpList P ops Q (o :: rest) a w := by
  refine wpList_plain hgd fun K' hK => ?_
  cases hq : P.info? e with
  | none => simp [hq] at hI
  | some i =>
    simp [hq] at hI
    have hrun : (Instr.buildSlice t 1 #[(0, .agg #[u0, u1, u2, u3, u4])]).run P w = .ok (.slice (some ⟨w.heap.size, 0, none⟩) 1 1) (w.alloc (.cells #[u0, u1, u2, u3, u4] e)) := by
      simp [Instr.buildSlice, run_underlying ht, sizeOf, typeInfo, zeroValue, hq, hI.1, hI.2, Instr.fill, newRow, Value.cells]
      rw [show Array.range 5 = #[0, 1, 2, 3, 4] by decide]; simp
    unfold Oper.wp
    simp [execOp, ho, hx, hrun, Result.andThen]
    exact hK _ _ (K _ (heap_alloc_new w _) ((Below.refl _ _).alloc (Nat.le_refl _) _))

/-- a literal of one 64-bit integer -/
theorem wpList_lit_i64 (hgd : o.guard = none) (t e : TypeId) (x : Operand) (ho : o.op = .buildSlice t 1 #[(0, x)]) (ht : P.underlying t = some (.slice e)) (hI : (P.info? e).map (fun i => (i.zero, i.size)) = some (some (.int .i64 0), 1))
    (c : Int) (hx : a.eval x = .int .i64 c)
    (K : ∀ w', ObjAt w' w.heap.size e [.int .i64 c] → Below w.heap.size w w' → wpList P ops Q rest (a.put o.dst (.slice (some ⟨w.heap.size, 0, none⟩) 1 1)) w') : wpList P ops Q (o :: rest) a w := by
  refine wpList_plain hgd fun K' hK => ?_
  cases hq : P.info? e with
  | none => simp [hq] at hI
  | some i =>
    simp [hq] at hI
    have hrun : (Instr.buildSlice t 1 #[(0, .int .i64 c)]).run P w = .ok (.slice (some ⟨w.heap.size, 0, none⟩) 1 1) (w.alloc (.cells #[.int .i64 c] e)) := by
      simp [Instr.buildSlice, run_underlying ht, sizeOf, typeInfo, zeroValue, hq, hI.1, hI.2, Instr.fill, newRow, Value.cells]
      rw [show Array.range 1 = #[0] by decide]; simp
    unfold Oper.wp
    simp [execOp, ho, hx, hrun, Result.andThen]
    exact hK _ _ (K _ (heap_alloc_new w _) ((Below.refl _ _).alloc (Nat.le_refl _) _))
end
end Go.Proofs.YtbbaleambgaanaaGreatDoor
/-
  Layer 12: plain mathematics: encodings one behind the other. No memory; and rows of entries of the call's own.
-/
namespace Go.Proofs.YtbbaleambgaanaaGreatDoor.Etr
open Go.Lib Go.RowKit Go.Proofs.YtbbaleambgaanaaGreatDoor.Fit Pxr Pnm

def flat (vs : List Ent) : List Int := vs.flatMap enZ
/-- where each of them begins -/
def stZ (vs : List Ent) : List Int := (List.range vs.length).map fun i => ((flat (vs.take i)).length : Int)
theorem flat_snoc (vs : List Ent) (e : Ent) : flat (vs ++ [e]) = flat vs ++ enZ e := by unfold flat; simp
theorem flat_app (a b : List Ent) : flat (a ++ b) = flat a ++ flat b := by unfold flat; simp
theorem stZ_len (vs : List Ent) : (stZ vs).length = vs.length := by unfold stZ; simp
theorem stZ_snoc (vs : List Ent) (e : Ent) : stZ (vs ++ [e]) = stZ vs ++ [((flat vs).length : Int)] := by
  unfold stZ
  rw [List.length_append, List.length_singleton, List.range_succ, List.map_append]
  congr 1
  · refine List.map_congr_left fun i hi => ?_
    have : i < vs.length := List.mem_range.1 hi
    rw [List.take_append_of_le_length (by omega)]
  · simp
theorem stZ_at {vs : List Ent} {i : Nat} (h : i < vs.length) : (stZ vs).getD i 0 = ((flat (vs.take i)).length : Int) := by
  unfold stZ
  rw [List.getD_eq_getElem?_getD, List.getElem?_map, List.getElem?_range h]
  rfl
theorem flat_at {vs : List Ent} {i : Nat} {e : Ent} (h : vs[i]? = some e) : (flat vs).drop (flat (vs.take i)).length = enZ e ++ flat (vs.drop (i + 1)) ∧ (flat (vs.take i)).length ≤ (flat vs).length ∧ (flat (vs.take (i + 1))).length = (flat (vs.take i)).length + (enZ e).length := by
  have hl : i < vs.length := (List.getElem?_eq_some_iff.1 h).1
  have he : vs[i] = e := (List.getElem?_eq_some_iff.1 h).2
  have h1 : vs = vs.take i ++ (e :: vs.drop (i + 1)) := by
    conv => lhs; rw [← List.take_append_drop i vs, List.drop_eq_getElem_cons hl, he]
  have h2 : flat vs = flat (vs.take i) ++ (enZ e ++ flat (vs.drop (i + 1))) := by
    conv => lhs; rw [h1, flat_app]
    congr 1
  refine ⟨?_, ?_, ?_⟩
  · rw [h2]; exact List.drop_left
  · rw [h2, List.length_append]; omega
  · have h3 : vs.take (i + 1) = vs.take i ++ [e] := by rw [List.take_add_one, h]; rfl
    rw [h3, flat_snoc, List.length_append]
theorem en_le {e : Ent} : (enZ e).length ≤ 300000 ∧ (ckE e = 0 → 512 ≤ (enZ e).length) := by
  by_cases h : ckE e = 0
  · obtain ⟨l1, l2⟩ := en_len h
    have := fm_len h
    rw [l1, l2]
    refine ⟨?_, fun _ => by omega⟩
    split
    · omega
    · unfold blkN; omega
  · rw [enZ_bad h]; exact ⟨Nat.zero_le _, fun h' => absurd h' h⟩
theorem flat_le : ∀ vs : List Ent, (flat vs).length ≤ 300000 * vs.length
  | [] => Nat.zero_le _
  | e :: vs => by
    have h1 := flat_le vs
    have h2 := (en_le (e := e)).1
    have h3 : flat (e :: vs) = enZ e ++ flat vs := by unfold flat; rw [List.flatMap_cons]
    rw [h3, List.length_append, List.length_cons]
    omega
theorem flat_bytes (vs : List Ent) : Bytes (flat vs) := by
  intro z hz
  unfold flat at hz
  obtain ⟨e, _, he⟩ := List.mem_flatMap.1 hz
  exact en_bytes e z he
theorem dcd_end {Z : List Int} {o : Nat} (h : o = Z.length) : dcd Z 4 o 0 = ⟨ez, o, 4, o, 4⟩ := by
  obtain ⟨_, n2, n3⟩ := nx_stop (Z := Z) (E := 4) (o := o) (by omega)
  rw [if_neg (by omega)] at n2
  unfold dcd
  rw [n2, n3, if_pos (by decide), h]

theorem entsIn_own {w : World} {base n : Nat} {e : TypeId} {v : Value} {es : List Ent} (h : w.ownsRow base e 5 v n (entCells es)) :
    ∃ a c, v = .slice a n c ∧ n = es.length ∧ EntsIn w a es := by
  have hl := h.1
  rw [entCells_len] at hl
  have hn : n = es.length := by omega
  rcases h.2 with ⟨hv, h0⟩ | ⟨g, cap, cur, hv, hb, hh, hc, hm, hs, ht⟩
  · subst h0
    exact ⟨none, 0, hv, hn, .inl (List.length_eq_zero_iff.1 hn.symm)⟩
  · have hlt : g < w.heap.size := (Array.getElem?_eq_some_iff.1 hh).1
    refine ⟨some ⟨g, 0, none⟩, cap, hv, hn, .inr ⟨g, 0, rfl, hlt, fun i r hi => ?_⟩⟩
    obtain ⟨c0, c1, c2, c3, c4⟩ := entCells_at es i r hi
    have hir : i < es.length := (List.getElem?_eq_some_iff.1 hi).1
    have get : ∀ j u, j < n * 5 → (entCells es)[j]? = some u → w.cell? ⟨g, j, none⟩ = some u := fun j u hj hu => by
      rw [← ht, List.getElem?_take, if_pos hj] at hu
      rw [World.cell?, hh]
      simpa using hu
    rw [Nat.zero_add]
    exact ⟨get _ _ (by omega) c0, get _ _ (by omega) c1, get _ _ (by omega) c2, get _ _ (by omega) c3, get _ _ (by omega) c4⟩
end Go.Proofs.YtbbaleambgaanaaGreatDoor.Etr
