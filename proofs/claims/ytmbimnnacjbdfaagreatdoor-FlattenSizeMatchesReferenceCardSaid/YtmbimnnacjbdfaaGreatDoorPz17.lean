/-
  An array of integers that came in by value, opened; a copy into the midst of a row of the call's own. Nothing of the program.
-/
import Derived.Test.YtmbimnnacjbdfaaGreatDoorPz03
import Derived.Deep.RegionLaw
import Derived.Deep.Matrix
import Derived.Deep.Grids
import Derived.SizedLaws
import Derived.Test.YtmbimnnacjbdfaaGreatDoorPz05
import Derived.Maps.AppendAt
import Derived.Test.YtmbimnnacjbdfaaGreatDoorRows
import Derived.Test.YtmbimnnacjbdfaaGreatDoorPz02
namespace Go.Proofs.YtmbimnnacjbdfaaGreatDoor
open Go.RowKit Go.ChangeShapes

theorem okWide_arr {P : Program} {w : World} {r : Reach} {b0 : Nat} {t e : TypeId} {n : Nat} {v : Value} (ht : P.underlying t = some (.array n e)) (h : Value.okWide P w r b0 t v) : ∃ cs, v = .agg cs := by
  unfold Value.okWide at h
  rw [ht] at h
  obtain ⟨cs, h, _⟩ := h
  exact ⟨cs, h⟩

theorem open_arr {H : Type} {enc : TypeId × Value → H} {P : Program} {w : World} {base : Nat} {spare : Nat → Bool} {held : Bool} {t e : TypeId} {n : Nat} {k : IntKind} {cs : Array Value} {d : DataW H} {p : List MemPlace}
    (ht : P.underlying t = some (.array n e)) (he : P.underlying e = some (.int k)) (hce : P.cellsOf e = 1) (hct : P.cellsOf t = n) (h : DataW.Trod enc P w base spare held t (.agg cs) d p) :
    ∃ zs : List Int, cs = (zs.map (Value.int k)).toArray ∧ zs.length = n ∧ ∀ z ∈ zs, (Lit.int k z).wf = true := by
  obtain ⟨fuel, hf⟩ := h
  obtain ⟨xs, m, _, _, hl, hx, hi⟩ := DataW.trod_array ht hf
  simp only [Value.cells] at hl hi
  rw [hct] at hl
  have cell : ∀ i, i < n → ∃ z : Int, cs.toList[i]? = some (.int k z) ∧ (Lit.int k z).wf = true := by
    intro i h
    have h1 := hi i h
    rw [hce, Nat.mul_one, List.getElem?_eq_getElem (by omega)] at h1
    obtain ⟨z, h2, _, h3⟩ := DataW.trod_int he h1
    refine ⟨z, ?_, h3⟩
    have h4 := congrArg (fun l : List Value => l[0]?) h2
    simp only [List.getElem?_take, List.getElem?_drop, Nat.add_zero] at h4
    simpa using h4
  refine ⟨cs.toList.map intOf, ?_, by simpa using hl, ?_⟩
  · apply Array.ext'
    rw [List.map_map]
    apply List.ext_getElem?
    intro i
    by_cases h : i < n
    · obtain ⟨z, hz, _⟩ := cell i h
      simp only [List.getElem?_map, hz]
      rfl
    · rw [List.getElem?_eq_none (by omega), List.getElem?_eq_none (by rw [List.length_map]; omega)]
  · intro z hz
    obtain ⟨v, hv, rfl⟩ := List.mem_map.1 hz
    obtain ⟨i, hi'⟩ := List.getElem?_of_mem hv
    have hlt : i < n := by
      rcases Nat.lt_or_ge i n with h | h
      · exact h
      · rw [List.getElem?_eq_none (by omega)] at hi'; cases hi'
    obtain ⟨z, hz, hw⟩ := cell i hlt
    rw [hi'] at hz
    obtain rfl := Option.some.inj hz
    exact hw

theorem Bytes.of_wf {zs : List Int} (h : ∀ z ∈ zs, (Lit.int .u8 z).wf = true) : Bytes zs := fun z hz => bounds_u8 (h z hz)

/-- the cells of a row of the call's own -/
theorem own_cells {w : World} {base n : Nat} {e : TypeId} {v : Value} {zs : List Int} (h : w.ownsRow base e 1 v n (zs.map (.int .u8))) (hn : 0 < n) :
    ∃ g cap, ∃ L : List Value, v = .slice (some ⟨g, 0, none⟩) n cap ∧ base ≤ g ∧ g < w.heap.size ∧ w.heap[g]? = some (.cells L.toArray e (0, 0)) ∧ L.length = cap ∧ L.take n = zs.map (.int .u8) ∧ n ≤ cap ∧ cap ≤ maxLen := by
  rcases h.2 with ⟨_, h'⟩ | ⟨g, cap, cur, rfl, hb, hg, hc, hm, hs, ht⟩
  · omega
  · exact ⟨g, cap, cur.toList, rfl, hb, (own_lt h).2, by simpa using hg, by simpa using hs, by simpa using ht, hc, hm⟩
theorem splice_take (L : List Value) (zs ys : List Int) (off n : Nat) (hL : L.take n = zs.map (.int .u8)) (hn : zs.length = n) (hf : off + ys.length ≤ n) : (splice L off (ys.map (.int .u8))).take n = (lay zs off ys).map (.int .u8) := by
  obtain ⟨r, rfl⟩ : ∃ r, L = zs.map (.int .u8) ++ r := ⟨L.drop n, by rw [← hL, List.take_append_drop]⟩
  have hl : (zs.map (Value.int .u8)).length = n := by rw [List.length_map, hn]
  have e1 : (zs.map (Value.int .u8) ++ r).take off = (zs.map (Value.int .u8)).take off := List.take_append_of_le_length (by omega)
  have e2 : (zs.map (Value.int .u8) ++ r).drop (off + (ys.map (Value.int .u8)).length) = (zs.map (Value.int .u8)).drop (off + (ys.map (Value.int .u8)).length) ++ r := List.drop_append_of_le_length (by rw [List.length_map]; omega)
  unfold splice lay
  rw [e1, e2, ← List.append_assoc, ← List.append_assoc, List.take_left' (by simp; omega)]
  simp
theorem RowAt.of_cells {w : World} {g n : Nat} {e : TypeId} {L : List Value} {zs : List Int} (hg : w.heap[g]? = some (.cells L.toArray e (0, 0))) (hL : L.take n = zs.map (.int .u8)) (hn : zs.length = n) (hz : Bytes zs) : RowAt w g 0 zs := by
  refine ⟨fun i hi => ?_, hz⟩
  rw [Nat.zero_add, cell_of_row w g i _ _ _ hg]
  have h := congrArg (fun l : List Value => l[i]?) hL
  simp only [List.getElem?_take, if_pos (show i < n by omega), List.getElem?_map, List.getElem?_eq_getElem hi] at h
  simp only [List.getElem?_toArray, h, List.getD_eq_getElem?_getD, List.getElem?_eq_getElem hi]
  rfl
end Go.Proofs.YtmbimnnacjbdfaaGreatDoor
/-
  A slice of slices of integers, and a slice of bools, that came in, opened. Nothing of the program.
-/
namespace Go.Proofs.YtmbimnnacjbdfaaGreatDoor
open Go.RowKit Go.ChangeShapes Go.Deep

/-- WHAT A WALK IS TOLD OF A SLICE OF SLICES OF INTEGERS THAT CAME IN: rows: each row's address, length, capacity, elements -/
def ArgRows (k : IntKind) (w : World) (a : Option Addr) (len cap : Nat) (rows : List (Option Addr × Nat × Nat × List Int)) : Prop :=
  rows.length = len ∧ len ≤ cap ∧ cap ≤ maxLen ∧ (∀ y ∈ rows, ArgInts k w y.1 y.2.1 y.2.2.1 y.2.2.2) ∧
  (len = 0 ∨ ∃ b off, a = some ⟨b, off, none⟩ ∧ b < w.heap.size ∧ ∀ i y, rows[i]? = some y → w.cell? ⟨b, off + i, none⟩ = some (.slice y.1 y.2.1 y.2.2.1))
/-- likewise of a slice of bools -/
def ArgBools (w : World) (a : Option Addr) (len cap : Nat) (bs : List Bool) : Prop :=
  bs.length = len ∧ len ≤ cap ∧ cap ≤ maxLen ∧ (len = 0 ∨ ∃ b off, a = some ⟨b, off, none⟩ ∧ b < w.heap.size ∧ ∀ i y, bs[i]? = some y → w.cell? ⟨b, off + i, none⟩ = some (.bool y))

theorem cells_at {w : World} {a : Addr} {n : Nat} {V : Nat → Value} (h : ∀ i, i < n → w.cell? (a.add i) = some (V i)) (hp : 0 < n) :
    ∃ b off, a = ⟨b, off, none⟩ ∧ b < w.heap.size ∧ ∀ j, j < n → w.cell? ⟨b, off + j, none⟩ = some (V j) := by
  obtain ⟨b, off, spot⟩ := a
  have hspot : spot = none := by simpa [Addr.add] using World.cell?_spot (h 0 hp)
  subst hspot
  have hc : ∀ j, j < n → w.cell? ⟨b, off + j, none⟩ = some (V j) := fun j hj => by rw [← Go.WideShapes.add_plain]; exact h j hj
  refine ⟨b, off, rfl, ?_, hc⟩
  have h0 := hc 0 hp
  rcases Nat.lt_or_ge b w.heap.size with hl | hl
  · exact hl
  · rw [World.cell?] at h0
    simp [Array.getElem?_eq_none hl] at h0

theorem ArgInts.below {k : IntKind} {w w' : World} {a : Option Addr} {len cap : Nat} {zs : List Int} (h : ArgInts k w a len cap zs) (hb : Below w.heap.size w w') : ArgInts k w' a len cap zs := by
  obtain ⟨h1, h2, h3, h4, h5⟩ := h
  refine ⟨h1, h2, h3, h4, h5.imp id ?_⟩
  rintro ⟨b, off, h6, h7, h8⟩
  exact ⟨b, off, h6, Nat.lt_of_lt_of_le h7 hb.size, fun i hi => (hb.cell (p := ⟨b, off + i, none⟩) h7).trans (h8 i hi)⟩
theorem ArgRows.below {k : IntKind} {w w' : World} {a : Option Addr} {len cap : Nat} {rows : List (Option Addr × Nat × Nat × List Int)} (h : ArgRows k w a len cap rows) (hb : Below w.heap.size w w') : ArgRows k w' a len cap rows := by
  obtain ⟨h1, h2, h3, h4, h5⟩ := h
  refine ⟨h1, h2, h3, fun y hy => (h4 y hy).below hb, h5.imp id ?_⟩
  rintro ⟨b, off, h6, h7, h8⟩
  exact ⟨b, off, h6, Nat.lt_of_lt_of_le h7 hb.size, fun i y hi => (hb.cell (p := ⟨b, off + i, none⟩) h7).trans (h8 i y hi)⟩
theorem ArgBools.below {w w' : World} {a : Option Addr} {len cap : Nat} {bs : List Bool} (h : ArgBools w a len cap bs) (hb : Below w.heap.size w w') : ArgBools w' a len cap bs := by
  obtain ⟨h1, h2, h3, h5⟩ := h
  refine ⟨h1, h2, h3, h5.imp id ?_⟩
  rintro ⟨b, off, h6, h7, h8⟩
  exact ⟨b, off, h6, Nat.lt_of_lt_of_le h7 hb.size, fun i y hi => (hb.cell (p := ⟨b, off + i, none⟩) h7).trans (h8 i y hi)⟩
/-- row i of a slice of slices -/
theorem ArgRows.get {k : IntKind} {w : World} {a : Option Addr} {len cap : Nat} {rows : List (Option Addr × Nat × Nat × List Int)} (h : ArgRows k w a len cap rows) (i : Nat) (hi : i < len) :
    ∃ b off y, a = some ⟨b, off, none⟩ ∧ b < w.heap.size ∧ rows[i]? = some y ∧ y ∈ rows ∧ w.cell? ⟨b, off + i, none⟩ = some (.slice y.1 y.2.1 y.2.2.1) ∧ ArgInts k w y.1 y.2.1 y.2.2.1 y.2.2.2 := by
  obtain ⟨h1, h2, h3, h4, h5⟩ := h
  obtain ⟨b, off, h6, h7, h8⟩ := h5.resolve_left (by omega)
  have hg : rows[i]? = some rows[i] := List.getElem?_eq_getElem (by omega)
  exact ⟨b, off, rows[i], h6, h7, hg, List.getElem_mem _, h8 i _ hg, h4 _ (List.getElem_mem _)⟩

section
variable {H : Type} {enc : TypeId × Value → H} {P : Program} {w : World} {base : Nat} {held : Bool}

theorem open_rows {t e q : TypeId} {k : IntKind} {a : Option Addr} {len cap : Nat} {d : DataW H} {p : List MemPlace}
    (ht : P.underlying t = some (.slice e)) (he : P.underlying e = some (.slice q)) (hq : P.underlying q = some (.int k)) (hs : (P.cellsOf e, P.cellsOf q) = (1, 1))
    (h : DataW.Trod enc P w base (fun _ => true) held t (.slice a len cap) d p) : ∃ rows, ArgRows k w a len cap rows := by
  simp only [Prod.mk.injEq] at hs
  obtain ⟨fuel, hf⟩ := h
  rcases open_int_rows ht he hq hs.1 hs.2 hf with ⟨hcs, _⟩ | ⟨x, len', cap', A, L, C, Z, hcs, _, hl, hm, _, hr⟩
  · simp [Value.cells] at hcs
    obtain ⟨rfl, rfl, rfl⟩ := hcs
    exact ⟨[], rfl, Nat.le_refl _, hm0, fun _ h => by simp at h, .inl rfl⟩
  · simp [Value.cells] at hcs
    obtain ⟨rfl, rfl, rfl⟩ := hcs
    refine ⟨(List.range len).map fun r => (A r, L r, C r, (Z r).take (L r)), by simp, hl, hm, fun y hy => ?_, ?_⟩
    · obtain ⟨r, hr', rfl⟩ := List.mem_map.1 hy
      have hlt : r < len := by simpa using hr'
      obtain ⟨_, h1, h2, h3, h4, h5, h6⟩ := hr r (by omega)
      simp only
      cases hA : A r with
      | none =>
        have hc := h5 hA
        have hl0 : L r = 0 := by omega
        rw [hc, hl0]
        exact ArgInts.nil
      | some a' => exact ArgInts.mk' h1 h2 h3 (fun i hi => (h6 a' hA).2 i (by omega)) h4
    · rcases Nat.eq_zero_or_pos len with h0 | h0
      · exact .inl h0
      · obtain ⟨b, off, rfl, hb, hc⟩ := cells_at (V := fun r => .slice (A r) (L r) (C r)) (n := len) (fun i hi => (hr i (by omega)).1) h0
        refine .inr ⟨b, off, rfl, hb, fun i y hy => ?_⟩
        rw [List.getElem?_map] at hy
        have hi : i < len := by
          rcases Nat.lt_or_ge i len with h | h
          · exact h
          · rw [List.getElem?_eq_none (by simpa using h)] at hy; cases hy
        rw [List.getElem?_range hi] at hy
        obtain rfl := Option.some.inj hy
        exact hc i hi
where hm0 : (0 : Nat) ≤ maxLen := Nat.zero_le _

theorem weightsAll_mem {e : TypeId} {x : DataW H} {n : Nat} (hn : n ∈ x.weights P e) : ∀ l : List (DataW H), x ∈ l → n ∈ DataW.weightsAll P e l
  | y :: r, h => by
    simp only [DataW.weightsAll, List.mem_append]
    rcases List.mem_cons.1 h with rfl | h
    · exact .inl hn
    · exact .inr (weightsAll_mem hn r h)

/-- the same, and what the reach says of each row -/
theorem open_rows_sized {t e q : TypeId} {k : IntKind} {a : Option Addr} {len cap : Nat} {d : DataW H} {p : List MemPlace}
    (ht : P.underlying t = some (.slice e)) (he : P.underlying e = some (.slice q)) (hq : P.underlying q = some (.int k)) (hs : (P.cellsOf e, P.cellsOf q) = (1, 1)) (hb : 0 < P.bytesOf q)
    (h : DataW.Trod enc P w base (fun _ => true) held t (.slice a len cap) d p) (hw : ∀ n ∈ d.weights P t, n ≤ reachBytes) : ∃ rows, ArgRows k w a len cap rows ∧ ∀ y ∈ rows, y.2.1 ≤ 140737488355328 := by
  obtain ⟨rows, hr⟩ := open_rows (k := k) ht he hq hs h
  refine ⟨rows, hr, fun y hy => ?_⟩
  obtain ⟨r1, r2, r3, r4, r5⟩ := hr
  simp only [Prod.mk.injEq] at hs
  obtain ⟨fuel, hf⟩ := h
  rcases open_int_rows ht he hq hs.1 hs.2 hf with ⟨hcs, _⟩ | ⟨x, len', cap', A, L, C, Z, hcs, _, hl, hm, hd, hrr⟩
  · simp [Value.cells] at hcs
    obtain ⟨rfl, rfl, rfl⟩ := hcs
    obtain rfl := List.length_eq_zero_iff.1 r1
    simp at hy
  · simp [Value.cells] at hcs
    obtain ⟨rfl, rfl, rfl⟩ := hcs
    simp only [Prod.mk.injEq] at hd
    obtain ⟨rfl, _⟩ := hd
    obtain ⟨i, hi⟩ := List.getElem?_of_mem hy
    have hil : i < len := by
      rcases Nat.lt_or_ge i len with h | h
      · exact h
      · rw [List.getElem?_eq_none (by omega)] at hi; cases hi
    obtain ⟨b, off, hx, _, hc⟩ := r5.resolve_left (by omega)
    obtain ⟨c1, c2, c3, c4, _⟩ := hrr i (by omega)
    have hv := hc i y hi
    cases hx
    rw [← Go.WideShapes.add_plain, c1] at hv
    simp only [Option.some.injEq, Value.slice.injEq] at hv
    rw [← hv.2.1]
    have hreach := reachBytes_lt
    cases hA : A i with
    | none =>
      have := (hrr i (by omega)).2.2.2.2.2.1 hA
      omega
    | some a' =>
      have := hw ((Z i).length * P.bytesOf q) (by
        simp only [DataW.weights, ht, List.mem_cons, List.mem_append]
        refine .inr (.inl (weightsAll_mem (x := intRow k (A i) (L i) (Z i)) ?_ _ (List.mem_map.2 ⟨i, by simpa using hil, rfl⟩)))
        simp [intRow, hA, DataW.weights, he, lits]
        left
        congr 1
        omega)
      have h2 : (Z i).length * 1 ≤ (Z i).length * P.bytesOf q := Nat.mul_le_mul_left _ hb
      omega

theorem open_boolList {t e : TypeId} {a : Option Addr} {len cap : Nat} {d : DataW H} {p : List MemPlace}
    (ht : P.underlying t = some (.slice e)) (he : P.underlying e = some .bool) (hs : P.cellsOf e = 1)
    (h : DataW.Trod enc P w base (fun _ => true) held t (.slice a len cap) d p) : ∃ bs, ArgBools w a len cap bs := by
  obtain ⟨fuel, hf⟩ := h
  rcases open_bools ht he hs hf with ⟨hcs, _⟩ | ⟨x, len', cap', B, hcs, _, hl, hm, _, hr⟩
  · simp [Value.cells] at hcs
    obtain ⟨rfl, rfl, rfl⟩ := hcs
    exact ⟨[], rfl, Nat.le_refl _, Nat.zero_le _, .inl rfl⟩
  · simp [Value.cells] at hcs
    obtain ⟨rfl, rfl, rfl⟩ := hcs
    refine ⟨(List.range len).map B, by simp, hl, hm, ?_⟩
    rcases Nat.eq_zero_or_pos len with h0 | h0
    · exact .inl h0
    · obtain ⟨b, off, rfl, hb, hc⟩ := cells_at (V := fun r => .bool (B r)) (n := len) (fun i hi => hr i (by omega)) h0
      refine .inr ⟨b, off, rfl, hb, fun i y hy => ?_⟩
      rw [List.getElem?_map] at hy
      have hi : i < len := by
        rcases Nat.lt_or_ge i len with h | h
        · exact h
        · rw [List.getElem?_eq_none (by simpa using h)] at hy; cases hy
      rw [List.getElem?_range hi] at hy
      obtain rfl := Option.some.inj hy
      exact hc i hi
end
end Go.Proofs.YtmbimnnacjbdfaaGreatDoor
/-
  Several rows of the call's own beside one another: an append onto one of them leaves the others; literals of one element. Nothing of the program.
-/
namespace Go.Proofs.YtmbimnnacjbdfaaGreatDoor
open Go.RowKit

/-- two values that own no block together -/
def Apart (u v : Value) : Prop := ∀ k, u.ownBlock = some k → v.ownBlock ≠ some k
theorem Apart.symm {u v : Value} (h : Apart u v) : Apart v u := fun k hv hu => h k hu hv
theorem Apart.none_l (v : Value) (n c : Nat) : Apart (.slice none n c) v := fun k h => by cases h
theorem own_under {w : World} {base n size : Nat} {e : TypeId} {v : Value} {xs : List Value} (h : w.ownsRow base e size v n xs) : ∀ k, v.ownBlock = some k → base ≤ k ∧ k < w.heap.size := by
  intro k hk
  rcases h.2 with ⟨h', _⟩ | ⟨g', cap', cur, hv, hb', hh, _⟩
  · rw [h'] at hk; cases hk
  · rw [hv] at hk
    obtain rfl : g' = k := by simpa [Value.ownBlock] using hk
    exact ⟨hb', (Array.getElem?_eq_some_iff.1 hh).1⟩
theorem own_grown {w w' : World} {base n size : Nat} {e : TypeId} {v : Value} {xs : List Value} {r : Option Nat} (h : w.ownsRow base e size v n xs) (hg : w.grownBy w' r) (hd : ∀ k, v.ownBlock = some k → r ≠ some k) : w'.ownsRow base e size v n xs := by
  obtain ⟨h1, h2⟩ := h
  refine ⟨h1, h2.imp id ?_⟩
  rintro ⟨g, cap, cur, hv, hb, hh, r'⟩
  have hlt : g < w.heap.size := (Array.getElem?_eq_some_iff.1 hh).1
  have ho : v.ownBlock = some g := by rw [hv]; rfl
  exact ⟨g, cap, cur, hv, hb, (hg.block g hlt (fun e => hd g ho e.symm)).trans hh, r'⟩
theorem own_stay' {w w' : World} {base B n size : Nat} {e : TypeId} {v : Value} {xs : List Value} (h : w.ownsRow base e size v n xs) (hb : Below B w w') (hB : w.heap.size ≤ B) : w'.ownsRow base e size v n xs := by
  obtain ⟨h1, h2⟩ := h
  refine ⟨h1, ?_⟩
  rcases h2 with h2 | ⟨g', cap', cur, hv, hb', hh, r⟩
  · exact Or.inl h2
  · have hlt : g' < w.heap.size := (Array.getElem?_eq_some_iff.1 hh).1
    exact Or.inr ⟨g', cap', cur, hv, hb', by rw [hb.block g' (by omega)]; exact hh, r⟩
theorem Apart.next {w : World} {base n size : Nat} {e : TypeId} {u v v' : Value} {xs : List Value} (h : Apart u v) (hu : w.ownsRow base e size u n xs) (hv : v'.ownBlock = v.ownBlock ∨ v'.ownBlock = some w.heap.size) : Apart u v' := fun k hk hk' => by
  rcases hv with hv | hv
  · rw [hv] at hk'; exact h k hk hk'
  · rw [hv] at hk'
    have := (own_under hu k hk).2
    simp only [Option.some.injEq] at hk'
    omega
theorem own_slice {w : World} {base n size : Nat} {e : TypeId} {v : Value} {xs : List Value} (h : w.ownsRow base e size v n xs) : ∃ a c, v = .slice a n c ∧ n ≤ c ∧ c ≤ maxLen := by
  rcases h.2 with ⟨rfl, rfl⟩ | ⟨g, cap, cur, rfl, _, _, hc, hm, _⟩
  · exact ⟨none, 0, rfl, Nat.le_refl _, Nat.zero_le _⟩
  · exact ⟨_, cap, rfl, hc, hm⟩
theorem info_of {P : Program} {e : TypeId} {z : Value} {s b : Nat} (h : (P.info? e).map (fun i => (i.zero, i.size, i.bytes)) = some (some z, s, b)) :
    ∃ i0, Hid (P.info? e = some i0 ∧ i0.zero = some z ∧ i0.size = s ∧ i0.bytes = b) := by
  cases hq : P.info? e with
  | none => simp [hq] at h
  | some i => simp [hq] at h; exact ⟨i, rfl, h.1, h.2.1, h.2.2⟩

section
variable {P : Program} {w : World} {ops : Array Oper} {rest : List Oper} {o : Oper} {a : Act} {Q : Exit → Act → World → Prop}

theorem wpList_append_apart (hgd : o.guard = none) (s x : Operand) (t : TypeId) (ho : o.op = .call { callee := .builtin .append, args := #[s, x], argTypes := #[t, t] })
    (base : Nat) (e : TypeId) (i0 : TypeInfo) (z : Value) (size bytes : Nat) (hT : P.underlying t = some (.slice e)) (hI : Hid (P.info? e = some i0 ∧ i0.zero = some z ∧ i0.size = size ∧ i0.bytes = bytes)) (hz : z.cells.size = size) (h0 : 0 < size)
    (v : Value) (n : Nat) (xs : List Value) (hs : a.eval s = v) (hown : w.ownsRow base e size v n xs)
    (ad : Addr) (m c : Nat) (news : List Value) (hx : a.eval x = .slice (some ad) m c) (hl : news.length = m * size) (hnews : ∀ j u, news[j]? = some u → w.cell? (ad.add j) = some u) (h1 : ∀ u ∈ news, u.oneCell' = true)
    (h63 : n + m ≤ maxLen) (h47 : (n + m) * bytes ≤ 140737488355328) (hbase : base ≤ w.heap.size)
    (K : ∀ v' w', w'.ownsRow base e size v' (n + m) (xs ++ news) → w.grownBy w' v.ownBlock → (v'.ownBlock = v.ownBlock ∨ v'.ownBlock = some w.heap.size) → Below base w w' → wpList P ops Q rest (a.put o.dst v') w') : wpList P ops Q (o :: rest) a w := by
  obtain ⟨v', w', hr, k1, k2, _, k3⟩ := run_append_own_at (P := P) w base t o.type e i0 z size bytes hT hI.out.1 hI.out.2.1 hI.out.2.2.1 hI.out.2.2.2 hz h0 v n xs hown ad m c news hl hnews h1 h63 h47 hbase
  refine wpList_plain hgd fun K' hK => ?_
  unfold Oper.wp
  simp [execOp, ho, resolve, invoke, builtin, hs, hx, hr, Result.andThen]
  exact hK _ _ (K _ _ k1 k2 k3 ((Below.refl _ _).grown k2 hbase (fun k hk => (own_under hown k hk).1)))

/-- .. of a row known whole -/
theorem wpList_append_obj (hgd : o.guard = none) (s x : Operand) (t : TypeId) (ho : o.op = .call { callee := .builtin .append, args := #[s, x], argTypes := #[t, t] })
    (base : Nat) (e : TypeId) (i0 : TypeInfo) (z : Value) (size bytes : Nat) (hT : P.underlying t = some (.slice e)) (hI : Hid (P.info? e = some i0 ∧ i0.zero = some z ∧ i0.size = size ∧ i0.bytes = bytes)) (hz : z.cells.size = size) (h0 : 0 < size)
    (v : Value) (n : Nat) (xs : List Value) (hs : a.eval s = v) (hown : w.ownsRow base e size v n xs)
    (b c : Nat) (T : TypeId) (news : List Value) (hx : a.eval x = .slice (some ⟨b, 0, none⟩) 1 c) (hl : news.length = size) (hob : ObjAt w b T news) (h1 : ∀ u ∈ news, u.oneCell' = true)
    (h63 : n + 1 ≤ maxLen) (h47 : (n + 1) * bytes ≤ 140737488355328) (hbase : base ≤ w.heap.size)
    (K : ∀ v' w', w'.ownsRow base e size v' (n + 1) (xs ++ news) → w.grownBy w' v.ownBlock → (v'.ownBlock = v.ownBlock ∨ v'.ownBlock = some w.heap.size) → Below base w w' → wpList P ops Q rest (a.put o.dst v') w') : wpList P ops Q (o :: rest) a w :=
  wpList_append_apart hgd s x t ho base e i0 z size bytes hT hI hz h0 v n xs hs hown ⟨b, 0, none⟩ 1 c news hx (by omega) (fun j u hj => by rw [add_plain', Nat.zero_add, hob.cell, hj]) h1 h63 h47 hbase K

/-- a literal of one struct of five cells -/
theorem wpList_lit_five (hgd : o.guard = none) (t e : TypeId) (x : Operand) (ho : o.op = .buildSlice t 1 #[(0, x)]) (ht : P.underlying t = some (.slice e)) (z : Value) (hI : (P.info? e).map (fun i => (i.zero, i.size)) = some (some z, 5))
    (u0 u1 u2 u3 u4 : Value) (hx : a.eval x = .agg #[u0, u1, u2, u3, u4])
    (K : ∀ w', ObjAt w' w.heap.size e [u0, u1, u2, u3, u4] → Below w.heap.size w w' → wpList P ops Q rest (a.put o.dst (.slice (some ⟨w.heap.size, 0, none⟩) 1 1)) w') : wpList P ops Q (o :: rest) a w := by
  refine wpList_plain hgd fun K' hK => ?_
  cases hq : P.info? e with
  | none => simp [hq] at hI
  | some i =>
    simp [hq] at hI
    have hrun : (Instr.buildSlice t 1 #[(0, .agg #[u0, u1, u2, u3, u4])]).run P w = .ok (.slice (some ⟨w.heap.size, 0, none⟩) 1 1) (w.alloc (.cells #[u0, u1, u2, u3, u4] e)) := by
      simp [Instr.buildSlice, run_underlying ht, sizeOf, typeInfo, zeroValue, hq, hI.1, hI.2, Instr.fill, newRow, Value.cells]
      rw [show Array.range 5 = #[0, 1, 2, 3, 4] by decide]; simp
    unfold Oper.wp
    simp [execOp, ho, hx, hrun, Result.andThen]
    exact hK _ _ (K _ (heap_alloc_new w _) ((Below.refl _ _).alloc (Nat.le_refl _) _))

/-- a literal of one 64-bit integer -/
theorem wpList_lit_i64 (hgd : o.guard = none) (t e : TypeId) (x : Operand) (ho : o.op = .buildSlice t 1 #[(0, x)]) (ht : P.underlying t = some (.slice e)) (hI : (P.info? e).map (fun i => (i.zero, i.size)) = some (some (.int .i64 0), 1))
    (c : Int) (hx : a.eval x = .int .i64 c)
    (K : ∀ w', ObjAt w' w.heap.size e [.int .i64 c] → Below w.heap.size w w' → wpList P ops Q rest (a.put o.dst (.slice (some ⟨w.heap.size, 0, none⟩) 1 1)) w') : wpList P ops Q (o :: rest) a w := by
  refine wpList_plain hgd fun K' hK => ?_
  cases hq : P.info? e with
  | none => simp [hq] at hI
  | some i =>
    simp [hq] at hI
    have hrun : (Instr.buildSlice t 1 #[(0, .int .i64 c)]).run P w = .ok (.slice (some ⟨w.heap.size, 0, none⟩) 1 1) (w.alloc (.cells #[.int .i64 c] e)) := by
      simp [Instr.buildSlice, run_underlying ht, sizeOf, typeInfo, zeroValue, hq, hI.1, hI.2, Instr.fill, newRow, Value.cells]
      rw [show Array.range 1 = #[0] by decide]; simp
    unfold Oper.wp
    simp [execOp, ho, hx, hrun, Result.andThen]
    exact hK _ _ (K _ (heap_alloc_new w _) ((Below.refl _ _).alloc (Nat.le_refl _) _))
end
end Go.Proofs.YtmbimnnacjbdfaaGreatDoor
/-
  bytes.Equal.
-/
namespace Go.Proofs.YtmbimnnacjbdfaaGreatDoor
open Go.RowKit

theorem strs_ne {xs ys : List Int} (hx : Bytes xs) (hy : Bytes ys) (h : ¬ xs = ys) : ¬ strOfNums xs = strOfNums ys := fun e => h (by
  have h1 := numsOf_strOfNums hx
  rw [e, numsOf_strOfNums hy] at h1
  exact h1.symm)

theorem toList_ne {s t : ByteArray} (h : ¬ s = t) : (s.toList == t.toList) = false := by
  rw [beq_eq_false_iff_ne]
  exact fun e => h (by
    apply ByteArray.ext
    apply Array.ext'
    rw [ByteArray.toList_eq, ByteArray.toList_eq] at e
    exact e)

set_option maxHeartbeats 1000000 in
theorem eq_any (a : Option Addr) (n c : Nat) (xs : List Int) (b : Option Addr) (m d : Nat) (ys : List Int) (w : World) (h1 : BytesIn w a xs) (l1 : xs.length = n) (h2 : BytesIn w b ys) (l2 : ys.length = m) :
    Calls Tryz.prog 100 #[.slice a n c, .slice b m d] w fun e w' => e = .returned (.bool (decide (xs = ys))) ∧ w = w' := by
  have q1 : ((convert 25 9 (.slice a n c)).run Tryz.prog w) = .ok (.string (strOfNums xs)) w := run_str_in Tryz.underlying25 Tryz.underlying5 Tryz.underlying9 h1 n c l1
  have q2 : ((convert 25 9 (.slice b m d)).run Tryz.prog w) = .ok (.string (strOfNums ys)) w := run_str_in Tryz.underlying25 Tryz.underlying5 Tryz.underlying9 h2 m d l2
  by_cases h : xs = ys
  · subst h
    obtain ⟨s, hs⟩ := named (strOfNums xs)
    rw [← hs.out] at q1 q2
    rw [decide_eq_true rfl]
    clear h1 h2 l1 l2 hs
    go_enter Tryz.func100, Tryz.ntmps100
    go_wp2
    go_ret
    exact ⟨rfl, rfl⟩
  · have hne := strs_ne h1.bytes h2.bytes h
    rw [decide_eq_false h]
    obtain ⟨s, hs⟩ := named (strOfNums xs)
    obtain ⟨t, ht⟩ := named (strOfNums ys)
    rw [← hs.out] at q1 hne
    rw [← ht.out] at q2 hne
    have hn := toList_ne hne
    clear h1 h2 l1 l2 hs ht h
    go_enter Tryz.func100, Tryz.ntmps100
    go_wp2
    go_ret
    exact ⟨rfl, rfl⟩
end Go.Proofs.YtmbimnnacjbdfaaGreatDoor
