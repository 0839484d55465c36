/-
  An array of integers that came in by value, opened; a copy into the midst of a row of the call's own. Nothing of the program.
-/
import Derived.Test.YthcbiohmghaobaaDoorPz02
import Derived.Deep.RegionLaw
import Derived.Deep.Matrix
import Derived.Deep.Grids
import Derived.SizedLaws
import Derived.Deep.Strs
namespace Go.Proofs.YthcbiohmghaobaaDoor
open Go.RowKit Go.ChangeShapes

theorem okWide_arr {P : Program} {w : World} {r : Reach} {b0 : Nat} {t e : TypeId} {n : Nat} {v : Value} (ht : P.underlying t = some (.array n e)) (h : Value.okWide P w r b0 t v) : ∃ cs, v = .agg cs := by
  unfold Value.okWide at h
  rw [ht] at h
  obtain ⟨cs, h, _⟩ := h
  exact ⟨cs, h⟩

theorem open_arr {H : Type} {enc : TypeId × Value → H} {P : Program} {w : World} {base : Nat} {spare : Nat → Bool} {held : Bool} {t e : TypeId} {n : Nat} {k : IntKind} {cs : Array Value} {d : DataW H} {p : List MemPlace}
    (ht : P.underlying t = some (.array n e)) (he : P.underlying e = some (.int k)) (hce : P.cellsOf e = 1) (hct : P.cellsOf t = n) (h : DataW.Trod enc P w base spare held t (.agg cs) d p) :
    ∃ zs : List Int, cs = (zs.map (Value.int k)).toArray ∧ zs.length = n ∧ ∀ z ∈ zs, (Lit.int k z).wf = true := by
  obtain ⟨fuel, hf⟩ := h
  obtain ⟨xs, m, _, _, hl, hx, hi⟩ := DataW.trod_array ht hf
  simp only [Value.cells] at hl hi
  rw [hct] at hl
  have cell : ∀ i, i < n → ∃ z : Int, cs.toList[i]? = some (.int k z) ∧ (Lit.int k z).wf = true := by
    intro i h
    have h1 := hi i h
    rw [hce, Nat.mul_one, List.getElem?_eq_getElem (by omega)] at h1
    obtain ⟨z, h2, _, h3⟩ := DataW.trod_int he h1
    refine ⟨z, ?_, h3⟩
    have h4 := congrArg (fun l : List Value => l[0]?) h2
    simp only [List.getElem?_take, List.getElem?_drop, Nat.add_zero] at h4
    simpa using h4
  refine ⟨cs.toList.map intOf, ?_, by simpa using hl, ?_⟩
  · apply Array.ext'
    rw [List.map_map]
    apply List.ext_getElem?
    intro i
    by_cases h : i < n
    · obtain ⟨z, hz, _⟩ := cell i h
      simp only [List.getElem?_map, hz]
      rfl
    · rw [List.getElem?_eq_none (by omega), List.getElem?_eq_none (by rw [List.length_map]; omega)]
  · intro z hz
    obtain ⟨v, hv, rfl⟩ := List.mem_map.1 hz
    obtain ⟨i, hi'⟩ := List.getElem?_of_mem hv
    have hlt : i < n := by
      rcases Nat.lt_or_ge i n with h | h
      · exact h
      · rw [List.getElem?_eq_none (by omega)] at hi'; cases hi'
    obtain ⟨z, hz, hw⟩ := cell i hlt
    rw [hi'] at hz
    obtain rfl := Option.some.inj hz
    exact hw

theorem Bytes.of_wf {zs : List Int} (h : ∀ z ∈ zs, (Lit.int .u8 z).wf = true) : Bytes zs := fun z hz => bounds_u8 (h z hz)

/-- the cells of a row of the call's own -/
theorem own_cells {w : World} {base n : Nat} {e : TypeId} {v : Value} {zs : List Int} (h : w.ownsRow base e 1 v n (zs.map (.int .u8))) (hn : 0 < n) :
    ∃ g cap, ∃ L : List Value, v = .slice (some ⟨g, 0, none⟩) n cap ∧ base ≤ g ∧ g < w.heap.size ∧ w.heap[g]? = some (.cells L.toArray e (0, 0)) ∧ L.length = cap ∧ L.take n = zs.map (.int .u8) ∧ n ≤ cap ∧ cap ≤ maxLen := by
  rcases h.2 with ⟨_, h'⟩ | ⟨g, cap, cur, rfl, hb, hg, hc, hm, hs, ht⟩
  · omega
  · exact ⟨g, cap, cur.toList, rfl, hb, (own_lt h).2, by simpa using hg, by simpa using hs, by simpa using ht, hc, hm⟩
theorem splice_take (L : List Value) (zs ys : List Int) (off n : Nat) (hL : L.take n = zs.map (.int .u8)) (hn : zs.length = n) (hf : off + ys.length ≤ n) : (splice L off (ys.map (.int .u8))).take n = (lay zs off ys).map (.int .u8) := by
  obtain ⟨r, rfl⟩ : ∃ r, L = zs.map (.int .u8) ++ r := ⟨L.drop n, by rw [← hL, List.take_append_drop]⟩
  have hl : (zs.map (Value.int .u8)).length = n := by rw [List.length_map, hn]
  have e1 : (zs.map (Value.int .u8) ++ r).take off = (zs.map (Value.int .u8)).take off := List.take_append_of_le_length (by omega)
  have e2 : (zs.map (Value.int .u8) ++ r).drop (off + (ys.map (Value.int .u8)).length) = (zs.map (Value.int .u8)).drop (off + (ys.map (Value.int .u8)).length) ++ r := List.drop_append_of_le_length (by rw [List.length_map]; omega)
  unfold splice lay
  rw [e1, e2, ← List.append_assoc, ← List.append_assoc, List.take_left' (by simp; omega)]
  simp
theorem RowAt.of_cells {w : World} {g n : Nat} {e : TypeId} {L : List Value} {zs : List Int} (hg : w.heap[g]? = some (.cells L.toArray e (0, 0))) (hL : L.take n = zs.map (.int .u8)) (hn : zs.length = n) (hz : Bytes zs) : RowAt w g 0 zs := by
  refine ⟨fun i hi => ?_, hz⟩
  rw [Nat.zero_add, cell_of_row w g i _ _ _ hg]
  have h := congrArg (fun l : List Value => l[i]?) hL
  simp only [List.getElem?_take, if_pos (show i < n by omega), List.getElem?_map, List.getElem?_eq_getElem hi] at h
  simp only [List.getElem?_toArray, h, List.getD_eq_getElem?_getD, List.getElem?_eq_getElem hi]
  rfl
end Go.Proofs.YthcbiohmghaobaaDoor
/-
  A slice of slices of integers, and a slice of bools, that came in, opened. Nothing of the program.
-/
namespace Go.Proofs.YthcbiohmghaobaaDoor
open Go.RowKit Go.ChangeShapes Go.Deep

/-- WHAT A WALK IS TOLD OF A SLICE OF SLICES OF INTEGERS THAT CAME IN: rows: each row's address, length, capacity, elements -/
def ArgRows (k : IntKind) (w : World) (a : Option Addr) (len cap : Nat) (rows : List (Option Addr × Nat × Nat × List Int)) : Prop :=
  rows.length = len ∧ len ≤ cap ∧ cap ≤ maxLen ∧ (∀ y ∈ rows, ArgInts k w y.1 y.2.1 y.2.2.1 y.2.2.2) ∧
  (len = 0 ∨ ∃ b off, a = some ⟨b, off, none⟩ ∧ b < w.heap.size ∧ ∀ i y, rows[i]? = some y → w.cell? ⟨b, off + i, none⟩ = some (.slice y.1 y.2.1 y.2.2.1))
/-- likewise of a slice of bools -/
def ArgBools (w : World) (a : Option Addr) (len cap : Nat) (bs : List Bool) : Prop :=
  bs.length = len ∧ len ≤ cap ∧ cap ≤ maxLen ∧ (len = 0 ∨ ∃ b off, a = some ⟨b, off, none⟩ ∧ b < w.heap.size ∧ ∀ i y, bs[i]? = some y → w.cell? ⟨b, off + i, none⟩ = some (.bool y))

theorem cells_at {w : World} {a : Addr} {n : Nat} {V : Nat → Value} (h : ∀ i, i < n → w.cell? (a.add i) = some (V i)) (hp : 0 < n) :
    ∃ b off, a = ⟨b, off, none⟩ ∧ b < w.heap.size ∧ ∀ j, j < n → w.cell? ⟨b, off + j, none⟩ = some (V j) := by
  obtain ⟨b, off, spot⟩ := a
  have hspot : spot = none := by simpa [Addr.add] using World.cell?_spot (h 0 hp)
  subst hspot
  have hc : ∀ j, j < n → w.cell? ⟨b, off + j, none⟩ = some (V j) := fun j hj => by rw [← Go.WideShapes.add_plain]; exact h j hj
  refine ⟨b, off, rfl, ?_, hc⟩
  have h0 := hc 0 hp
  rcases Nat.lt_or_ge b w.heap.size with hl | hl
  · exact hl
  · rw [World.cell?] at h0
    simp [Array.getElem?_eq_none hl] at h0

theorem ArgInts.below {k : IntKind} {w w' : World} {a : Option Addr} {len cap : Nat} {zs : List Int} (h : ArgInts k w a len cap zs) (hb : Below w.heap.size w w') : ArgInts k w' a len cap zs := by
  obtain ⟨h1, h2, h3, h4, h5⟩ := h
  refine ⟨h1, h2, h3, h4, h5.imp id ?_⟩
  rintro ⟨b, off, h6, h7, h8⟩
  exact ⟨b, off, h6, Nat.lt_of_lt_of_le h7 hb.size, fun i hi => (hb.cell (p := ⟨b, off + i, none⟩) h7).trans (h8 i hi)⟩
theorem ArgRows.below {k : IntKind} {w w' : World} {a : Option Addr} {len cap : Nat} {rows : List (Option Addr × Nat × Nat × List Int)} (h : ArgRows k w a len cap rows) (hb : Below w.heap.size w w') : ArgRows k w' a len cap rows := by
  obtain ⟨h1, h2, h3, h4, h5⟩ := h
  refine ⟨h1, h2, h3, fun y hy => (h4 y hy).below hb, h5.imp id ?_⟩
  rintro ⟨b, off, h6, h7, h8⟩
  exact ⟨b, off, h6, Nat.lt_of_lt_of_le h7 hb.size, fun i y hi => (hb.cell (p := ⟨b, off + i, none⟩) h7).trans (h8 i y hi)⟩
theorem ArgBools.below {w w' : World} {a : Option Addr} {len cap : Nat} {bs : List Bool} (h : ArgBools w a len cap bs) (hb : Below w.heap.size w w') : ArgBools w' a len cap bs := by
  obtain ⟨h1, h2, h3, h5⟩ := h
  refine ⟨h1, h2, h3, h5.imp id ?_⟩
  rintro ⟨b, off, h6, h7, h8⟩
  exact ⟨b, off, h6, Nat.lt_of_lt_of_le h7 hb.size, fun i y hi => (hb.cell (p := ⟨b, off + i, none⟩) h7).trans (h8 i y hi)⟩
/-- row i of a slice of slices -/
theorem ArgRows.get {k : IntKind} {w : World} {a : Option Addr} {len cap : Nat} {rows : List (Option Addr × Nat × Nat × List Int)} (h : ArgRows k w a len cap rows) (i : Nat) (hi : i < len) :
    ∃ b off y, a = some ⟨b, off, none⟩ ∧ b < w.heap.size ∧ rows[i]? = some y ∧ y ∈ rows ∧ w.cell? ⟨b, off + i, none⟩ = some (.slice y.1 y.2.1 y.2.2.1) ∧ ArgInts k w y.1 y.2.1 y.2.2.1 y.2.2.2 := by
  obtain ⟨h1, h2, h3, h4, h5⟩ := h
  obtain ⟨b, off, h6, h7, h8⟩ := h5.resolve_left (by omega)
  have hg : rows[i]? = some rows[i] := List.getElem?_eq_getElem (by omega)
  exact ⟨b, off, rows[i], h6, h7, hg, List.getElem_mem _, h8 i _ hg, h4 _ (List.getElem_mem _)⟩

section
variable {H : Type} {enc : TypeId × Value → H} {P : Program} {w : World} {base : Nat} {held : Bool}

theorem open_rows {t e q : TypeId} {k : IntKind} {a : Option Addr} {len cap : Nat} {d : DataW H} {p : List MemPlace}
    (ht : P.underlying t = some (.slice e)) (he : P.underlying e = some (.slice q)) (hq : P.underlying q = some (.int k)) (hs : (P.cellsOf e, P.cellsOf q) = (1, 1))
    (h : DataW.Trod enc P w base (fun _ => true) held t (.slice a len cap) d p) : ∃ rows, ArgRows k w a len cap rows := by
  simp only [Prod.mk.injEq] at hs
  obtain ⟨fuel, hf⟩ := h
  rcases open_int_rows ht he hq hs.1 hs.2 hf with ⟨hcs, _⟩ | ⟨x, len', cap', A, L, C, Z, hcs, _, hl, hm, _, hr⟩
  · simp [Value.cells] at hcs
    obtain ⟨rfl, rfl, rfl⟩ := hcs
    exact ⟨[], rfl, Nat.le_refl _, hm0, fun _ h => by simp at h, .inl rfl⟩
  · simp [Value.cells] at hcs
    obtain ⟨rfl, rfl, rfl⟩ := hcs
    refine ⟨(List.range len).map fun r => (A r, L r, C r, (Z r).take (L r)), by simp, hl, hm, fun y hy => ?_, ?_⟩
    · obtain ⟨r, hr', rfl⟩ := List.mem_map.1 hy
      have hlt : r < len := by simpa using hr'
      obtain ⟨_, h1, h2, h3, h4, h5, h6⟩ := hr r (by omega)
      simp only
      cases hA : A r with
      | none =>
        have hc := h5 hA
        have hl0 : L r = 0 := by omega
        rw [hc, hl0]
        exact ArgInts.nil
      | some a' => exact ArgInts.mk' h1 h2 h3 (fun i hi => (h6 a' hA).2 i (by omega)) h4
    · rcases Nat.eq_zero_or_pos len with h0 | h0
      · exact .inl h0
      · obtain ⟨b, off, rfl, hb, hc⟩ := cells_at (V := fun r => .slice (A r) (L r) (C r)) (n := len) (fun i hi => (hr i (by omega)).1) h0
        refine .inr ⟨b, off, rfl, hb, fun i y hy => ?_⟩
        rw [List.getElem?_map] at hy
        have hi : i < len := by
          rcases Nat.lt_or_ge i len with h | h
          · exact h
          · rw [List.getElem?_eq_none (by simpa using h)] at hy; cases hy
        rw [List.getElem?_range hi] at hy
        obtain rfl := Option.some.inj hy
        exact hc i hi
where hm0 : (0 : Nat) ≤ maxLen := Nat.zero_le _

theorem weightsAll_mem {e : TypeId} {x : DataW H} {n : Nat} (hn : n ∈ x.weights P e) : ∀ l : List (DataW H), x ∈ l → n ∈ DataW.weightsAll P e l
  | y :: r, h => by
    simp only [DataW.weightsAll, List.mem_append]
    rcases List.mem_cons.1 h with rfl | h
    · exact .inl hn
    · exact .inr (weightsAll_mem hn r h)

/-- the same, and what the reach says of each row -/
theorem open_rows_sized {t e q : TypeId} {k : IntKind} {a : Option Addr} {len cap : Nat} {d : DataW H} {p : List MemPlace}
    (ht : P.underlying t = some (.slice e)) (he : P.underlying e = some (.slice q)) (hq : P.underlying q = some (.int k)) (hs : (P.cellsOf e, P.cellsOf q) = (1, 1)) (hb : 0 < P.bytesOf q)
    (h : DataW.Trod enc P w base (fun _ => true) held t (.slice a len cap) d p) (hw : ∀ n ∈ d.weights P t, n ≤ reachBytes) : ∃ rows, ArgRows k w a len cap rows ∧ ∀ y ∈ rows, y.2.1 ≤ 140737488355328 := by
  obtain ⟨rows, hr⟩ := open_rows (k := k) ht he hq hs h
  refine ⟨rows, hr, fun y hy => ?_⟩
  obtain ⟨r1, r2, r3, r4, r5⟩ := hr
  simp only [Prod.mk.injEq] at hs
  obtain ⟨fuel, hf⟩ := h
  rcases open_int_rows ht he hq hs.1 hs.2 hf with ⟨hcs, _⟩ | ⟨x, len', cap', A, L, C, Z, hcs, _, hl, hm, hd, hrr⟩
  · simp [Value.cells] at hcs
    obtain ⟨rfl, rfl, rfl⟩ := hcs
    obtain rfl := List.length_eq_zero_iff.1 r1
    simp at hy
  · simp [Value.cells] at hcs
    obtain ⟨rfl, rfl, rfl⟩ := hcs
    simp only [Prod.mk.injEq] at hd
    obtain ⟨rfl, _⟩ := hd
    obtain ⟨i, hi⟩ := List.getElem?_of_mem hy
    have hil : i < len := by
      rcases Nat.lt_or_ge i len with h | h
      · exact h
      · rw [List.getElem?_eq_none (by omega)] at hi; cases hi
    obtain ⟨b, off, hx, _, hc⟩ := r5.resolve_left (by omega)
    obtain ⟨c1, c2, c3, c4, _⟩ := hrr i (by omega)
    have hv := hc i y hi
    cases hx
    rw [← Go.WideShapes.add_plain, c1] at hv
    simp only [Option.some.injEq, Value.slice.injEq] at hv
    rw [← hv.2.1]
    have hreach := reachBytes_lt
    cases hA : A i with
    | none =>
      have := (hrr i (by omega)).2.2.2.2.2.1 hA
      omega
    | some a' =>
      have := hw ((Z i).length * P.bytesOf q) (by
        simp only [DataW.weights, ht, List.mem_cons, List.mem_append]
        refine .inr (.inl (weightsAll_mem (x := intRow k (A i) (L i) (Z i)) ?_ _ (List.mem_map.2 ⟨i, by simpa using hil, rfl⟩)))
        simp [intRow, hA, DataW.weights, he, lits]
        left
        congr 1
        omega)
      have h2 : (Z i).length * 1 ≤ (Z i).length * P.bytesOf q := Nat.mul_le_mul_left _ hb
      omega

theorem open_boolList {t e : TypeId} {a : Option Addr} {len cap : Nat} {d : DataW H} {p : List MemPlace}
    (ht : P.underlying t = some (.slice e)) (he : P.underlying e = some .bool) (hs : P.cellsOf e = 1)
    (h : DataW.Trod enc P w base (fun _ => true) held t (.slice a len cap) d p) : ∃ bs, ArgBools w a len cap bs := by
  obtain ⟨fuel, hf⟩ := h
  rcases open_bools ht he hs hf with ⟨hcs, _⟩ | ⟨x, len', cap', B, hcs, _, hl, hm, _, hr⟩
  · simp [Value.cells] at hcs
    obtain ⟨rfl, rfl, rfl⟩ := hcs
    exact ⟨[], rfl, Nat.le_refl _, Nat.zero_le _, .inl rfl⟩
  · simp [Value.cells] at hcs
    obtain ⟨rfl, rfl, rfl⟩ := hcs
    refine ⟨(List.range len).map B, by simp, hl, hm, ?_⟩
    rcases Nat.eq_zero_or_pos len with h0 | h0
    · exact .inl h0
    · obtain ⟨b, off, rfl, hb, hc⟩ := cells_at (V := fun r => .bool (B r)) (n := len) (fun i hi => hr i (by omega)) h0
      refine .inr ⟨b, off, rfl, hb, fun i y hy => ?_⟩
      rw [List.getElem?_map] at hy
      have hi : i < len := by
        rcases Nat.lt_or_ge i len with h | h
        · exact h
        · rw [List.getElem?_eq_none (by simpa using h)] at hy; cases hy
      rw [List.getElem?_range hi] at hy
      obtain rfl := Option.some.inj hy
      exact hc i hi
end
end Go.Proofs.YthcbiohmghaobaaDoor
/-
  A slice of calls (an integer, a string, an integer, a slice of bytes, a string) that came in, opened; what the reach says of the strings and of the bytes. Nothing of the program. (gen_VacArg.py writes it.)
-/
namespace Go.Proofs.YthcbiohmghaobaaDoor.Vfs
open Go.RowKit Go.ChangeShapes Go.Deep

/-- a call: kind, path, mode, data, target -/
structure Va where
  k : Int
  p : ByteArray
  m : Int
  d : List Int
  t : ByteArray
/-- a call in memory: the call; its data's address and capacity -/
structure VaS where
  n : Va
  a : Option Addr
  cap : Nat
/-- its cells -/
abbrev vaL (k : Int) (p : ByteArray) (m : Int) (a : Option Addr) (n cap : Nat) (t : ByteArray) : List Value := [.int .i64 k, .string p, .int .i64 m, .slice a n cap, .string t]
abbrev vaV (y : VaS) : List Value := vaL y.n.k y.n.p y.n.m y.a y.n.d.length y.cap y.n.t
instance : Inhabited VaS := ⟨⟨⟨0, ⟨#[]⟩, 0, [], ⟨#[]⟩⟩, none, 0⟩⟩
/-- the cells of nodes -/
def vaCells (ys : List VaS) : List Value := ys.flatMap vaV
theorem vaCells_cons (y : VaS) (ys : List VaS) : vaCells (y :: ys) = vaV y ++ vaCells ys := by unfold vaCells; rw [List.flatMap_cons]
theorem vaCells_append (xs ys : List VaS) : vaCells (xs ++ ys) = vaCells xs ++ vaCells ys := by unfold vaCells; rw [List.flatMap_append]
theorem vaCells_len : ∀ ys : List VaS, (vaCells ys).length = ys.length * 5
  | [] => rfl
  | y :: ys => by
    rw [vaCells_cons, List.length_append, vaCells_len ys, List.length_cons]
    simp; omega
theorem vaCells_at : ∀ (ys : List VaS) (i : Nat) (y : VaS), ys[i]? = some y → ∀ j v, (vaV y)[j]? = some v → (vaCells ys)[i * 5 + j]? = some v
  | [], i, y, h, _, _, _ => by simp at h
  | q :: ys, i, y, h, j, v, hv => by
    rw [vaCells_cons]
    have hj : j < 5 := by
      have := (List.getElem?_eq_some_iff.mp hv).1
      simpa using this
    cases i with
    | zero =>
      simp at h; subst h
      rw [Nat.zero_mul, Nat.zero_add, List.getElem?_append_left (by simpa using hj)]
      exact hv
    | succ i =>
      rw [List.getElem?_append_right (by simp; omega)]
      have := vaCells_at ys i y (by simpa using h) j v hv
      rw [← this]
      congr 1
      simp; omega

/-- nodes lie at block b from off on -/
def VasAt (w : World) (b off : Nat) (ys : List VaS) : Prop := ∀ i y, ys[i]? = some y → ∀ j v, (vaV y)[j]? = some v → w.cell? ⟨b, off + i * 5 + j, none⟩ = some v
theorem VasAt.c {w : World} {b off : Nat} {ys : List VaS} (h : VasAt w b off ys) {i : Nat} {y : VaS} (hi : ys[i]? = some y) :
    w.cell? ⟨b, off + i * 5, none⟩ = some (.int .i64 y.n.k) ∧ w.cell? ⟨b, off + i * 5 + 1, none⟩ = some (.string y.n.p) ∧ w.cell? ⟨b, off + i * 5 + 2, none⟩ = some (.int .i64 y.n.m) ∧ w.cell? ⟨b, off + i * 5 + 3, none⟩ = some (.slice y.a y.n.d.length y.cap) ∧ w.cell? ⟨b, off + i * 5 + 4, none⟩ = some (.string y.n.t) :=
  ⟨h i y hi 0 _ rfl, h i y hi 1 _ rfl, h i y hi 2 _ rfl, h i y hi 3 _ rfl, h i y hi 4 _ rfl⟩
theorem VasAt.block {w w' : World} {b off : Nat} {ys : List VaS} (h : VasAt w b off ys) (e : w'.heap[b]? = w.heap[b]?) : VasAt w' b off ys := fun i y hi j v hv => by
  have := h i y hi j v hv
  unfold World.cell? at this ⊢
  rw [e]; exact this
theorem VasAt.below {w w' : World} {b off B : Nat} {ys : List VaS} (h : VasAt w b off ys) (hb : Below B w w') (hB : b < B) : VasAt w' b off ys := h.block (hb.block b hB)
/-- nodes in a slice -/
def VasIn (w : World) (a : Option Addr) (ys : List VaS) : Prop := ys = [] ∨ ∃ b off, a = some ⟨b, off, none⟩ ∧ b < w.heap.size ∧ VasAt w b off ys
theorem VasIn.below {w w' : World} {a : Option Addr} {ys : List VaS} (h : VasIn w a ys) (hb : Below w.heap.size w w') : VasIn w' a ys := by
  rcases h with h | ⟨b, off, h1, h2, h3⟩
  · exact .inl h
  · exact .inr ⟨b, off, h1, Nat.lt_of_lt_of_le h2 hb.size, h3.below hb h2⟩

/-- what a walk is told of one call -/
structure VaF (w : World) (y : VaS) : Prop where
  k : (Lit.int .i64 y.n.k).wf = true
  p : y.n.p.size ≤ 140737488355328
  m : (Lit.int .i64 y.n.m).wf = true
  d : ArgInts .u8 w y.a y.n.d.length y.cap y.n.d
  l : y.n.d.length ≤ 140737488355328
  t : y.n.t.size ≤ 140737488355328
theorem VaF.below {w w' : World} {y : VaS} (h : VaF w y) (hb : Below w.heap.size w w') : VaF w' y := ⟨h.k, h.p, h.m, h.d.below hb, h.l, h.t⟩
/-- WHAT A WALK IS TOLD OF A SLICE OF NODES THAT CAME IN -/
structure ArgVas (w : World) (a : Option Addr) (len cap : Nat) (ys : List VaS) : Prop where
  n : ys.length = len
  c : len ≤ cap
  m : cap ≤ maxLen
  r : VasIn w a ys
  s : ∀ y ∈ ys, VaF w y
theorem ArgVas.below {w w' : World} {a : Option Addr} {len cap : Nat} {ys : List VaS} (h : ArgVas w a len cap ys) (hb : Below w.heap.size w w') : ArgVas w' a len cap ys := ⟨h.n, h.c, h.m, h.r.below hb, fun y hy => (h.s y hy).below hb⟩
theorem ArgVas.get {w : World} {a : Option Addr} {len cap : Nat} {ys : List VaS} (h : ArgVas w a len cap ys) (i : Nat) (hi : i < len) :
    ∃ b off y, a = some ⟨b, off, none⟩ ∧ b < w.heap.size ∧ ys[i]? = some y ∧ VaF w y ∧ VasAt w b off ys := by
  have hlt : i < ys.length := by rw [h.n]; exact hi
  have hg : ys[i]? = some ys[i] := List.getElem?_eq_getElem hlt
  rcases h.r with h0 | ⟨b, off, h1, h2, h3⟩
  · simp [h0] at hlt
  · exact ⟨b, off, _, h1, h2, hg, h.s _ (List.getElem_mem _), h3⟩
/-- the nodes alone -/
def vas (ys : List VaS) : List Va := ys.map VaS.n
theorem vas_len (ys : List VaS) : (vas ys).length = ys.length := by unfold vas; rw [List.length_map]
theorem vas_at {ys : List VaS} {i : Nat} {y : VaS} (h : ys[i]? = some y) : (vas ys)[i]? = some y.n := by unfold vas; rw [List.getElem?_map, h]; rfl

section
variable {H : Type} {enc : TypeId × Value → H} {P : Program} {w : World} {base : Nat} {held : Bool}

theorem open_vas {t e q : TypeId} {f0 f1 f2 f3 f4 : Field} {a : Option Addr} {len cap : Nat} {d : DataW H} {p : List MemPlace}
    (ht : P.underlying t = some (.slice e)) (he : P.underlying e = some (.struct #[f0, f1, f2, f3, f4])) (h0 : P.underlying f0.type = some (.int .i64)) (h1 : P.underlying f1.type = some .string) (h2 : P.underlying f2.type = some (.int .i64)) (h3 : P.underlying f3.type = some (.slice q)) (hq : P.underlying q = some (.int .u8)) (h4 : P.underlying f4.type = some .string)
    (hs : (P.cellsOf e, f0.offset, P.cellsOf f0.type, f1.offset, P.cellsOf f1.type, f2.offset, P.cellsOf f2.type, f3.offset, P.cellsOf f3.type, f4.offset, P.cellsOf f4.type) = (5, 0, 1, 1, 1, 2, 1, 3, 1, 4, 1)) (hsq : P.cellsOf q = 1) (hbq : P.bytesOf q = 1)
    (h : DataW.Trod enc P w base (fun _ => true) held t (.slice a len cap) d p) (hw : ∀ n ∈ d.weights P t, n ≤ reachBytes) : ∃ ys, ArgVas w a len cap ys := by
  simp only [Prod.mk.injEq] at hs
  obtain ⟨s, o0, z0, o1, z1, o2, z2, o3, z3, o4, z4⟩ := hs
  obtain ⟨fuel, hf⟩ := h
  rcases open_slice ht hf with ⟨hcs, _⟩ | ⟨x, len', cap', m, n, D, Pl, hcs, _, hl, hm, hmm, hd, hx⟩
  · simp [Value.cells] at hcs
    obtain ⟨rfl, rfl, rfl⟩ := hcs
    exact ⟨[], rfl, Nat.le_refl _, Nat.zero_le _, .inl rfl, fun _ h => by cases h⟩
  · simp [Value.cells] at hcs
    obtain ⟨rfl, rfl, rfl⟩ := hcs
    simp only [if_true] at hmm
    simp only [Prod.mk.injEq] at hd
    obtain ⟨rfl, _⟩ := hd
    have hreach := reachBytes_lt
    have each : ∀ i, i < m → ∃ y : VaS, (∀ j v, (vaV y)[j]? = some v → w.cell? (x.add (i * 5 + j)) = some v) ∧ (i < len → VaF w y) := by
      intro i hi
      obtain ⟨cs', g1, g2⟩ := hx i hi
      rw [s] at g1
      obtain ⟨_, hlen, hcell⟩ := World.cells?_some g1
      obtain ⟨xs, k, _, hxe, _, hxl, hfd⟩ := DataW.trod_struct he g2
      match cs', hlen with
      | [v0, v1, v2, v3, v4], _ =>
      match xs, hxl with
      | [y0, y1, y2, y3, y4], _ =>
      have u0 := hfd 0 f0 rfl
      have u1 := hfd 1 f1 rfl
      have u2 := hfd 2 f2 rfl
      have u3 := hfd 3 f3 rfl
      have u4 := hfd 4 f4 rfl
      rw [o0, z0] at u0; rw [o1, z1] at u1; rw [o2, z2] at u2; rw [o3, z3] at u3; rw [o4, z4] at u4
      simp at u0 u1 u2 u3 u4
      obtain ⟨k0, e0, x0, w0⟩ := DataW.trod_int h0 u0
      obtain ⟨k1, e1, x1, _⟩ := DataW.trod_string h1 u1
      obtain ⟨k2, e2, x2, w2⟩ := DataW.trod_int h2 u2
      obtain ⟨k4, e4, x4, _⟩ := DataW.trod_string h4 u4
      simp only [List.cons.injEq, and_true] at e0 e1 e2 e4
      subst e0; subst e1; subst e2; subst e4
      have c : ∀ j (h : j < 5), w.cell? (x.add (i * 5 + j)) = [Value.int .i64 k0, .string k1, .int .i64 k2, v3, .string k4][j]? := fun j hj => by
        rw [← add_add]
        exact hcell j hj
      simp only [Prod.mk.injEq] at hxe
      have hmem : i < len → ∀ z, z ∈ (D i).weights P e → z ≤ reachBytes := fun hil z hz => hw z (by
        simp only [DataW.weights, ht, List.mem_cons, List.mem_append]
        exact .inr (.inl (weightsAll_mem (x := D i) hz _ (List.mem_map.2 ⟨i, by simpa using hil, rfl⟩))))
      have hD : D i = .agg [.lit (.int .i64 k0), .lit (.string k1.data.toList), .lit (.int .i64 k2), y3.1, .lit (.string k4.data.toList)] := by
        rw [hxe.1, x0, x1, x2, x4]; rfl
      rcases open_ints h3 hq hsq u3 with ⟨e3, x3⟩ | ⟨a4, l4, c4, zs, e3, _, hl4, hm4, hz4, x3, hcl, hwz⟩
      · simp only [List.cons.injEq, and_true] at e3
        subst e3
        refine ⟨⟨⟨k0, k1, k2, [], k4⟩, none, 0⟩, fun j v hv => ?_, fun hil => ?_⟩
        · rw [c j (by simpa using (List.getElem?_eq_some_iff.mp hv).1)]; exact hv
        · have b1 := hmem hil k1.data.toList.length (by rw [hD]; simp [DataW.weights, DataW.weightsEach, he])
          have b3 := hmem hil k4.data.toList.length (by rw [hD]; simp [DataW.weights, DataW.weightsEach, he])
          rw [← Lib.size_eq] at b1 b3
          exact ⟨w0, by show k1.size ≤ _; omega, w2, ArgInts.nil, Nat.zero_le _, by show k4.size ≤ _; omega⟩
      · simp only [List.cons.injEq, and_true] at e3
        subst e3
        have hzl : zs.length = c4 := by simpa using hz4
        have htl : (zs.take l4).length = l4 := by rw [List.length_take]; omega
        refine ⟨⟨⟨k0, k1, k2, zs.take l4, k4⟩, some a4, c4⟩, fun j v hv => ?_, fun hil => ?_⟩
        · rw [c j (by simpa using (List.getElem?_eq_some_iff.mp hv).1), ← hv]
          show _ = (vaL k0 k1 k2 (some a4) (zs.take l4).length c4 k4)[j]?
          rw [htl]
        · have b1 := hmem hil k1.data.toList.length (by rw [hD]; simp [DataW.weights, DataW.weightsEach, he])
          have b3 := hmem hil k4.data.toList.length (by rw [hD]; simp [DataW.weights, DataW.weightsEach, he])
          have b4 := hmem hil (((lits (H := H) .u8 (zs.take l4)).length + (lits (H := H) .u8 (zs.drop l4)).length) * P.bytesOf q) (by rw [hD, x3]; simp [DataW.weights, DataW.weightsEach, he, h3])
          rw [← Lib.size_eq] at b1 b3
          rw [hbq] at b4
          unfold lits at b4
          rw [List.length_map, List.length_map] at b4
          exact ⟨w0, by show k1.size ≤ _; omega, w2, by show ArgInts _ _ _ (zs.take l4).length _ _; rw [htl]; exact ArgInts.mk' hl4 hm4 hzl hcl hwz, by show (zs.take l4).length ≤ _; omega, by show k4.size ≤ _; omega⟩
    obtain ⟨A, hA⟩ := choose_lt each
    refine ⟨(List.range len).map A, by simp, hl, hm, ?_, fun y hy => ?_⟩
    · rcases Nat.eq_zero_or_pos len with h0' | h0'
      · subst h0'; exact .inl rfl
      · have hc0 := (hA 0 (by omega)).1 0 _ rfl
        obtain ⟨b, off, spot⟩ := x
        have hspot : spot = none := by simpa [Addr.add] using World.cell?_spot hc0
        subst hspot
        refine .inr ⟨b, off, rfl, ?_, fun i y hy j v hv => ?_⟩
        · exact World.block_lt_of_cell? w (⟨b, off, none⟩ : Addr) (by simpa [Go.WideShapes.add_plain] using hc0)
        · rw [List.getElem?_map] at hy
          have hi : i < len := by
            rcases Nat.lt_or_ge i len with h | h
            · exact h
            · rw [List.getElem?_eq_none (by simpa using h)] at hy; cases hy
          rw [List.getElem?_range hi] at hy
          obtain rfl := Option.some.inj hy
          have := (hA i (by omega)).1 j v hv
          rw [Go.WideShapes.add_plain] at this
          rw [Nat.add_assoc]; exact this
    · obtain ⟨r, hr', rfl⟩ := List.mem_map.1 hy
      have hlt : r < len := by simpa using hr'
      exact (hA r (by omega)).2 hlt
end
end Go.Proofs.YthcbiohmghaobaaDoor.Vfs
