/-
  A slice of members (an entry: an integer, a string, an integer, a string, an integer; a slice of bytes) that came in, opened; what the reach says of the strings and of the bytes. Nothing of the program. (gen_MbsArg.py writes it.)
-/
import Derived.Test.YtmbimnnacjbdfaaDoorPk04
import Derived.Test.YtmbimnnacjbdfaaDoorFltMath
import Derived.Test.YtmbimnnacjbdfaaDoorPk03
import Derived.Deep.Strs
namespace Go.Proofs.YtmbimnnacjbdfaaDoor.Flt
open Go.RowKit Go.ChangeShapes Go.Deep

/-- a member in memory: the member; its data's address and capacity -/
structure MbS where
  n : Mb
  a : Option Addr
  cap : Nat
/-- its cells -/
abbrev mbC (k : Int) (p : ByteArray) (m : Int) (t : ByteArray) (s : Int) (a : Option Addr) (n cap : Nat) : List Value := [.int .i64 k, .string p, .int .i64 m, .string t, .int .i64 s, .slice a n cap]
abbrev mbV (y : MbS) : List Value := mbC y.n.e.k y.n.e.p y.n.e.m y.n.e.t y.n.e.s y.a y.n.d.length y.cap
instance : Inhabited MbS := ⟨⟨⟨⟨0, ⟨#[]⟩, 0, ⟨#[]⟩, 0⟩, []⟩, none, 0⟩⟩
/-- the cells of nodes -/
def mbCells (ys : List MbS) : List Value := ys.flatMap mbV
theorem mbCells_cons (y : MbS) (ys : List MbS) : mbCells (y :: ys) = mbV y ++ mbCells ys := by unfold mbCells; rw [List.flatMap_cons]
theorem mbCells_append (xs ys : List MbS) : mbCells (xs ++ ys) = mbCells xs ++ mbCells ys := by unfold mbCells; rw [List.flatMap_append]
theorem mbCells_len : ∀ ys : List MbS, (mbCells ys).length = ys.length * 6
  | [] => rfl
  | y :: ys => by
    rw [mbCells_cons, List.length_append, mbCells_len ys, List.length_cons]
    simp; omega
theorem mbCells_at : ∀ (ys : List MbS) (i : Nat) (y : MbS), ys[i]? = some y → ∀ j v, (mbV y)[j]? = some v → (mbCells ys)[i * 6 + j]? = some v
  | [], i, y, h, _, _, _ => by simp at h
  | q :: ys, i, y, h, j, v, hv => by
    rw [mbCells_cons]
    have hj : j < 6 := by
      have := (List.getElem?_eq_some_iff.mp hv).1
      simpa using this
    cases i with
    | zero =>
      simp at h; subst h
      rw [Nat.zero_mul, Nat.zero_add, List.getElem?_append_left (by simpa using hj)]
      exact hv
    | succ i =>
      rw [List.getElem?_append_right (by simp; omega)]
      have := mbCells_at ys i y (by simpa using h) j v hv
      rw [← this]
      congr 1
      simp; omega

/-- nodes lie at block b from off on -/
def MbsAt (w : World) (b off : Nat) (ys : List MbS) : Prop := ∀ i y, ys[i]? = some y → ∀ j v, (mbV y)[j]? = some v → w.cell? ⟨b, off + i * 6 + j, none⟩ = some v
theorem MbsAt.c {w : World} {b off : Nat} {ys : List MbS} (h : MbsAt w b off ys) {i : Nat} {y : MbS} (hi : ys[i]? = some y) :
    w.cell? ⟨b, off + i * 6, none⟩ = some (.int .i64 y.n.e.k) ∧ w.cell? ⟨b, off + i * 6 + 1, none⟩ = some (.string y.n.e.p) ∧ w.cell? ⟨b, off + i * 6 + 2, none⟩ = some (.int .i64 y.n.e.m) ∧ w.cell? ⟨b, off + i * 6 + 3, none⟩ = some (.string y.n.e.t) ∧ w.cell? ⟨b, off + i * 6 + 4, none⟩ = some (.int .i64 y.n.e.s) ∧ w.cell? ⟨b, off + i * 6 + 5, none⟩ = some (.slice y.a y.n.d.length y.cap) :=
  ⟨h i y hi 0 _ rfl, h i y hi 1 _ rfl, h i y hi 2 _ rfl, h i y hi 3 _ rfl, h i y hi 4 _ rfl, h i y hi 5 _ rfl⟩
theorem MbsAt.block {w w' : World} {b off : Nat} {ys : List MbS} (h : MbsAt w b off ys) (e : w'.heap[b]? = w.heap[b]?) : MbsAt w' b off ys := fun i y hi j v hv => by
  have := h i y hi j v hv
  unfold World.cell? at this ⊢
  rw [e]; exact this
theorem MbsAt.below {w w' : World} {b off B : Nat} {ys : List MbS} (h : MbsAt w b off ys) (hb : Below B w w') (hB : b < B) : MbsAt w' b off ys := h.block (hb.block b hB)
/-- nodes in a slice -/
def MbsIn (w : World) (a : Option Addr) (ys : List MbS) : Prop := ys = [] ∨ ∃ b off, a = some ⟨b, off, none⟩ ∧ b < w.heap.size ∧ MbsAt w b off ys
theorem MbsIn.below {w w' : World} {a : Option Addr} {ys : List MbS} (h : MbsIn w a ys) (hb : Below w.heap.size w w') : MbsIn w' a ys := by
  rcases h with h | ⟨b, off, h1, h2, h3⟩
  · exact .inl h
  · exact .inr ⟨b, off, h1, Nat.lt_of_lt_of_le h2 hb.size, h3.below hb h2⟩

/-- what a walk is told of one member -/
structure MbF (w : World) (y : MbS) : Prop where
  k : (Lit.int .i64 y.n.e.k).wf = true
  p : y.n.e.p.size ≤ 140737488355328
  m : (Lit.int .i64 y.n.e.m).wf = true
  t : y.n.e.t.size ≤ 140737488355328
  s : (Lit.int .i64 y.n.e.s).wf = true
  d : ArgInts .u8 w y.a y.n.d.length y.cap y.n.d
  l : y.n.d.length ≤ 140737488355328
theorem MbF.below {w w' : World} {y : MbS} (h : MbF w y) (hb : Below w.heap.size w w') : MbF w' y := ⟨h.k, h.p, h.m, h.t, h.s, h.d.below hb, h.l⟩
/-- WHAT A WALK IS TOLD OF A SLICE OF NODES THAT CAME IN -/
structure ArgMbs (w : World) (a : Option Addr) (len cap : Nat) (ys : List MbS) : Prop where
  n : ys.length = len
  c : len ≤ cap
  m : cap ≤ maxLen
  r : MbsIn w a ys
  s : ∀ y ∈ ys, MbF w y
theorem ArgMbs.below {w w' : World} {a : Option Addr} {len cap : Nat} {ys : List MbS} (h : ArgMbs w a len cap ys) (hb : Below w.heap.size w w') : ArgMbs w' a len cap ys := ⟨h.n, h.c, h.m, h.r.below hb, fun y hy => (h.s y hy).below hb⟩
theorem ArgMbs.get {w : World} {a : Option Addr} {len cap : Nat} {ys : List MbS} (h : ArgMbs w a len cap ys) (i : Nat) (hi : i < len) :
    ∃ b off y, a = some ⟨b, off, none⟩ ∧ b < w.heap.size ∧ ys[i]? = some y ∧ MbF w y ∧ MbsAt w b off ys := by
  have hlt : i < ys.length := by rw [h.n]; exact hi
  have hg : ys[i]? = some ys[i] := List.getElem?_eq_getElem hlt
  rcases h.r with h0 | ⟨b, off, h1, h2, h3⟩
  · simp [h0] at hlt
  · exact ⟨b, off, _, h1, h2, hg, h.s _ (List.getElem_mem _), h3⟩
/-- the nodes alone -/
def mms (ys : List MbS) : List Mb := ys.map MbS.n
theorem mms_len (ys : List MbS) : (mms ys).length = ys.length := by unfold mms; rw [List.length_map]
theorem mms_at {ys : List MbS} {i : Nat} {y : MbS} (h : ys[i]? = some y) : (mms ys)[i]? = some y.n := by unfold mms; rw [List.getElem?_map, h]; rfl

section
variable {H : Type} {enc : TypeId × Value → H} {P : Program} {w : World} {base : Nat} {held : Bool}

theorem open_mbs {t e q : TypeId} {g0 g1 f0 f1 f2 f3 f4 : Field} {a : Option Addr} {len cap : Nat} {d : DataW H} {p : List MemPlace}
    (ht : P.underlying t = some (.slice e)) (he : P.underlying e = some (.struct #[g0, g1])) (hg : P.underlying g0.type = some (.struct #[f0, f1, f2, f3, f4])) (h0 : P.underlying f0.type = some (.int .i64)) (h1 : P.underlying f1.type = some .string) (h2 : P.underlying f2.type = some (.int .i64)) (h3 : P.underlying f3.type = some .string) (h4 : P.underlying f4.type = some (.int .i64)) (h5 : P.underlying g1.type = some (.slice q)) (hq : P.underlying q = some (.int .u8))
    (hs : (P.cellsOf e, f0.offset, P.cellsOf f0.type, f1.offset, P.cellsOf f1.type, f2.offset, P.cellsOf f2.type, f3.offset, P.cellsOf f3.type, f4.offset, P.cellsOf f4.type, g1.offset, P.cellsOf g1.type) = (6, 0, 1, 1, 1, 2, 1, 3, 1, 4, 1, 5, 1)) (hsg : (g0.offset, P.cellsOf g0.type) = (0, 5)) (hsq : P.cellsOf q = 1) (hbq : P.bytesOf q = 1)
    (h : DataW.Trod enc P w base (fun _ => true) held t (.slice a len cap) d p) (hw : ∀ n ∈ d.weights P t, n ≤ reachBytes) : ∃ ys, ArgMbs w a len cap ys := by
  simp only [Prod.mk.injEq] at hs hsg
  obtain ⟨s, o0, z0, o1, z1, o2, z2, o3, z3, o4, z4, o5, z5⟩ := hs
  obtain ⟨og, zg⟩ := hsg
  obtain ⟨fuel, hf⟩ := h
  rcases open_slice ht hf with ⟨hcs, _⟩ | ⟨x, len', cap', m, n, D, Pl, hcs, _, hl, hm, hmm, hd, hx⟩
  · simp [Value.cells] at hcs
    obtain ⟨rfl, rfl, rfl⟩ := hcs
    exact ⟨[], rfl, Nat.le_refl _, Nat.zero_le _, .inl rfl, fun _ h => by cases h⟩
  · simp [Value.cells] at hcs
    obtain ⟨rfl, rfl, rfl⟩ := hcs
    simp only [if_true] at hmm
    simp only [Prod.mk.injEq] at hd
    obtain ⟨rfl, _⟩ := hd
    have hreach := reachBytes_lt
    have each : ∀ i, i < m → ∃ y : MbS, (∀ j v, (mbV y)[j]? = some v → w.cell? (x.add (i * 6 + j)) = some v) ∧ (i < len → MbF w y) := by
      intro i hi
      obtain ⟨cs', g1', g2⟩ := hx i hi
      rw [s] at g1'
      obtain ⟨_, hlen, hcell⟩ := World.cells?_some g1'
      obtain ⟨xs, k, _, hxe, _, hxl, hfd⟩ := DataW.trod_struct he g2
      match cs', hlen with
      | [v0, v1, v2, v3, v4, v5], _ =>
      match xs, hxl with
      | [yg, y5], _ =>
      have ug := hfd 0 g0 rfl
      have u5 := hfd 1 g1 rfl
      rw [og, zg] at ug; rw [o5, z5] at u5
      simp at ug u5
      obtain ⟨xs', k', _, hxg, _, hxl', hfd'⟩ := DataW.trod_struct hg ug
      match xs', hxl' with
      | [y0, y1, y2, y3, y4], _ =>
      have u0 := hfd' 0 f0 rfl
      have u1 := hfd' 1 f1 rfl
      have u2 := hfd' 2 f2 rfl
      have u3 := hfd' 3 f3 rfl
      have u4 := hfd' 4 f4 rfl
      rw [o0, z0] at u0; rw [o1, z1] at u1; rw [o2, z2] at u2; rw [o3, z3] at u3; rw [o4, z4] at u4
      simp at u0 u1 u2 u3 u4
      obtain ⟨k0, e0, x0, w0⟩ := DataW.trod_int h0 u0
      obtain ⟨k1, e1, x1, _⟩ := DataW.trod_string h1 u1
      obtain ⟨k2, e2, x2, w2⟩ := DataW.trod_int h2 u2
      obtain ⟨k3, e3, x3, _⟩ := DataW.trod_string h3 u3
      obtain ⟨k4, e4, x4, w4⟩ := DataW.trod_int h4 u4
      simp only [List.cons.injEq, and_true] at e0 e1 e2 e3 e4
      subst e0; subst e1; subst e2; subst e3; subst e4
      have c : ∀ j (h : j < 6), w.cell? (x.add (i * 6 + j)) = [Value.int .i64 k0, .string k1, .int .i64 k2, .string k3, .int .i64 k4, v5][j]? := fun j hj => by
        rw [← add_add]
        exact hcell j hj
      simp only [Prod.mk.injEq] at hxe
      have hyg : yg.1 = .agg [.lit (.int .i64 k0), .lit (.string k1.data.toList), .lit (.int .i64 k2), .lit (.string k3.data.toList), .lit (.int .i64 k4)] := by
        rw [hxg, x0, x1, x2, x3, x4]; rfl
      have hmem : i < len → ∀ z, z ∈ (D i).weights P e → z ≤ reachBytes := fun hil z hz => hw z (by
        simp only [DataW.weights, ht, List.mem_cons, List.mem_append]
        exact .inr (.inl (weightsAll_mem (x := D i) hz _ (List.mem_map.2 ⟨i, by simpa using hil, rfl⟩))))
      have hD : D i = .agg [.agg [.lit (.int .i64 k0), .lit (.string k1.data.toList), .lit (.int .i64 k2), .lit (.string k3.data.toList), .lit (.int .i64 k4)], y5.1] := by
        rw [hxe.1, ← hyg]; rfl
      rcases open_ints h5 hq hsq u5 with ⟨e5, x5⟩ | ⟨a5, l5, c5, zs, e5, _, hl5, hm5, hz5, x5, hcl, hwz⟩
      · simp only [List.cons.injEq, and_true] at e5
        subst e5
        refine ⟨⟨⟨⟨k0, k1, k2, k3, k4⟩, []⟩, none, 0⟩, fun j v hv => ?_, fun hil => ?_⟩
        · rw [c j (by simpa using (List.getElem?_eq_some_iff.mp hv).1)]; exact hv
        · have b1 := hmem hil k1.data.toList.length (by rw [hD]; simp [DataW.weights, DataW.weightsEach, he, hg])
          have b3 := hmem hil k3.data.toList.length (by rw [hD]; simp [DataW.weights, DataW.weightsEach, he, hg])
          rw [← Lib.size_eq] at b1 b3
          exact ⟨w0, by show k1.size ≤ _; omega, w2, by show k3.size ≤ _; omega, w4, ArgInts.nil, Nat.zero_le _⟩
      · simp only [List.cons.injEq, and_true] at e5
        subst e5
        have hzl : zs.length = c5 := by simpa using hz5
        have htl : (zs.take l5).length = l5 := by rw [List.length_take]; omega
        refine ⟨⟨⟨⟨k0, k1, k2, k3, k4⟩, zs.take l5⟩, some a5, c5⟩, fun j v hv => ?_, fun hil => ?_⟩
        · rw [c j (by simpa using (List.getElem?_eq_some_iff.mp hv).1), ← hv]
          show _ = (mbC k0 k1 k2 k3 k4 (some a5) (zs.take l5).length c5)[j]?
          rw [htl]
        · have b1 := hmem hil k1.data.toList.length (by rw [hD]; simp [DataW.weights, DataW.weightsEach, he, hg])
          have b3 := hmem hil k3.data.toList.length (by rw [hD]; simp [DataW.weights, DataW.weightsEach, he, hg])
          have b5 := hmem hil (((lits (H := H) .u8 (zs.take l5)).length + (lits (H := H) .u8 (zs.drop l5)).length) * P.bytesOf q) (by rw [hD, x5]; simp [DataW.weights, DataW.weightsEach, he, hg, h5])
          rw [← Lib.size_eq] at b1 b3
          rw [hbq] at b5
          unfold lits at b5
          rw [List.length_map, List.length_map] at b5
          exact ⟨w0, by show k1.size ≤ _; omega, w2, by show k3.size ≤ _; omega, w4, by show ArgInts _ _ _ (zs.take l5).length _ _; rw [htl]; exact ArgInts.mk' hl5 hm5 hzl hcl hwz, by show (zs.take l5).length ≤ _; omega⟩
    obtain ⟨A, hA⟩ := choose_lt each
    refine ⟨(List.range len).map A, by simp, hl, hm, ?_, fun y hy => ?_⟩
    · rcases Nat.eq_zero_or_pos len with h0' | h0'
      · subst h0'; exact .inl rfl
      · have hc0 := (hA 0 (by omega)).1 0 _ rfl
        obtain ⟨b, off, spot⟩ := x
        have hspot : spot = none := by simpa [Addr.add] using World.cell?_spot hc0
        subst hspot
        refine .inr ⟨b, off, rfl, ?_, fun i y hy j v hv => ?_⟩
        · exact World.block_lt_of_cell? w (⟨b, off, none⟩ : Addr) (by simpa [Go.WideShapes.add_plain] using hc0)
        · rw [List.getElem?_map] at hy
          have hi : i < len := by
            rcases Nat.lt_or_ge i len with h | h
            · exact h
            · rw [List.getElem?_eq_none (by simpa using h)] at hy; cases hy
          rw [List.getElem?_range hi] at hy
          obtain rfl := Option.some.inj hy
          have := (hA i (by omega)).1 j v hv
          rw [Go.WideShapes.add_plain] at this
          rw [Nat.add_assoc]; exact this
    · obtain ⟨r, hr', rfl⟩ := List.mem_map.1 hy
      have hlt : r < len := by simpa using hr'
      exact (hA r (by omega)).2 hlt
end
end Go.Proofs.YtmbimnnacjbdfaaDoor.Flt
