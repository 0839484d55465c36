/-
  A slice of members (an entry: an integer, a string, an integer, a string, an integer; a slice of bytes) that came in, opened; what the reach says of the strings and of the bytes. Nothing of the program. (gen_MbsArg.py writes it.)
-/
import Derived.Test.YtinmkgpmoclcoaaDoorPz03
import Derived.Test.YtinmkgpmoclcoaaDoorPz07
import Derived.Test.YtinmkgpmoclcoaaDoorPz02
import Derived.Deep.Strs
import Derived.Test.YtinmkgpmoclcoaaDoorPz11
import Derived.Test.YtinmkgpmoclcoaaDoorPz05
import Derived.Deep.RegionHeld3
import Derived.OwnWalk
import Derived.Laws.CopyRow
namespace Go.Proofs.YtinmkgpmoclcoaaDoor.Flt
open Go.RowKit Go.ChangeShapes Go.Deep

/-- a member in memory: the member; its data's address and capacity -/
structure MbS where
  n : Mb
  a : Option Addr
  cap : Nat
/-- its cells -/
abbrev mbC (k : Int) (p : ByteArray) (m : Int) (t : ByteArray) (s : Int) (a : Option Addr) (n cap : Nat) : List Value := [.int .i64 k, .string p, .int .i64 m, .string t, .int .i64 s, .slice a n cap]
abbrev mbV (y : MbS) : List Value := mbC y.n.e.k y.n.e.p y.n.e.m y.n.e.t y.n.e.s y.a y.n.d.length y.cap
instance : Inhabited MbS := ⟨⟨⟨⟨0, ⟨#[]⟩, 0, ⟨#[]⟩, 0⟩, []⟩, none, 0⟩⟩
/-- the cells of nodes -/
def mbCells (ys : List MbS) : List Value := ys.flatMap mbV
theorem mbCells_cons (y : MbS) (ys : List MbS) : mbCells (y :: ys) = mbV y ++ mbCells ys := by unfold mbCells; rw [List.flatMap_cons]
theorem mbCells_append (xs ys : List MbS) : mbCells (xs ++ ys) = mbCells xs ++ mbCells ys := by unfold mbCells; rw [List.flatMap_append]
theorem mbCells_len : ∀ ys : List MbS, (mbCells ys).length = ys.length * 6
  | [] => rfl
  | y :: ys => by
    rw [mbCells_cons, List.length_append, mbCells_len ys, List.length_cons]
    simp; omega
theorem mbCells_at : ∀ (ys : List MbS) (i : Nat) (y : MbS), ys[i]? = some y → ∀ j v, (mbV y)[j]? = some v → (mbCells ys)[i * 6 + j]? = some v
  | [], i, y, h, _, _, _ => by simp at h
  | q :: ys, i, y, h, j, v, hv => by
    rw [mbCells_cons]
    have hj : j < 6 := by
      have := (List.getElem?_eq_some_iff.mp hv).1
      simpa using this
    cases i with
    | zero =>
      simp at h; subst h
      rw [Nat.zero_mul, Nat.zero_add, List.getElem?_append_left (by simpa using hj)]
      exact hv
    | succ i =>
      rw [List.getElem?_append_right (by simp; omega)]
      have := mbCells_at ys i y (by simpa using h) j v hv
      rw [← this]
      congr 1
      simp; omega

/-- nodes lie at block b from off on -/
def MbsAt (w : World) (b off : Nat) (ys : List MbS) : Prop := ∀ i y, ys[i]? = some y → ∀ j v, (mbV y)[j]? = some v → w.cell? ⟨b, off + i * 6 + j, none⟩ = some v
theorem MbsAt.c {w : World} {b off : Nat} {ys : List MbS} (h : MbsAt w b off ys) {i : Nat} {y : MbS} (hi : ys[i]? = some y) :
    w.cell? ⟨b, off + i * 6, none⟩ = some (.int .i64 y.n.e.k) ∧ w.cell? ⟨b, off + i * 6 + 1, none⟩ = some (.string y.n.e.p) ∧ w.cell? ⟨b, off + i * 6 + 2, none⟩ = some (.int .i64 y.n.e.m) ∧ w.cell? ⟨b, off + i * 6 + 3, none⟩ = some (.string y.n.e.t) ∧ w.cell? ⟨b, off + i * 6 + 4, none⟩ = some (.int .i64 y.n.e.s) ∧ w.cell? ⟨b, off + i * 6 + 5, none⟩ = some (.slice y.a y.n.d.length y.cap) :=
  ⟨h i y hi 0 _ rfl, h i y hi 1 _ rfl, h i y hi 2 _ rfl, h i y hi 3 _ rfl, h i y hi 4 _ rfl, h i y hi 5 _ rfl⟩
theorem MbsAt.block {w w' : World} {b off : Nat} {ys : List MbS} (h : MbsAt w b off ys) (e : w'.heap[b]? = w.heap[b]?) : MbsAt w' b off ys := fun i y hi j v hv => by
  have := h i y hi j v hv
  unfold World.cell? at this ⊢
  rw [e]; exact this
theorem MbsAt.below {w w' : World} {b off B : Nat} {ys : List MbS} (h : MbsAt w b off ys) (hb : Below B w w') (hB : b < B) : MbsAt w' b off ys := h.block (hb.block b hB)
/-- nodes in a slice -/
def MbsIn (w : World) (a : Option Addr) (ys : List MbS) : Prop := ys = [] ∨ ∃ b off, a = some ⟨b, off, none⟩ ∧ b < w.heap.size ∧ MbsAt w b off ys
theorem MbsIn.below {w w' : World} {a : Option Addr} {ys : List MbS} (h : MbsIn w a ys) (hb : Below w.heap.size w w') : MbsIn w' a ys := by
  rcases h with h | ⟨b, off, h1, h2, h3⟩
  · exact .inl h
  · exact .inr ⟨b, off, h1, Nat.lt_of_lt_of_le h2 hb.size, h3.below hb h2⟩

/-- what a walk is told of one member -/
structure MbF (w : World) (y : MbS) : Prop where
  k : (Lit.int .i64 y.n.e.k).wf = true
  p : y.n.e.p.size ≤ 140737488355328
  m : (Lit.int .i64 y.n.e.m).wf = true
  t : y.n.e.t.size ≤ 140737488355328
  s : (Lit.int .i64 y.n.e.s).wf = true
  d : ArgInts .u8 w y.a y.n.d.length y.cap y.n.d
  l : y.n.d.length ≤ 140737488355328
theorem MbF.below {w w' : World} {y : MbS} (h : MbF w y) (hb : Below w.heap.size w w') : MbF w' y := ⟨h.k, h.p, h.m, h.t, h.s, h.d.below hb, h.l⟩
/-- WHAT A WALK IS TOLD OF A SLICE OF NODES THAT CAME IN -/
structure ArgMbs (w : World) (a : Option Addr) (len cap : Nat) (ys : List MbS) : Prop where
  n : ys.length = len
  c : len ≤ cap
  m : cap ≤ maxLen
  r : MbsIn w a ys
  s : ∀ y ∈ ys, MbF w y
theorem ArgMbs.below {w w' : World} {a : Option Addr} {len cap : Nat} {ys : List MbS} (h : ArgMbs w a len cap ys) (hb : Below w.heap.size w w') : ArgMbs w' a len cap ys := ⟨h.n, h.c, h.m, h.r.below hb, fun y hy => (h.s y hy).below hb⟩
theorem ArgMbs.get {w : World} {a : Option Addr} {len cap : Nat} {ys : List MbS} (h : ArgMbs w a len cap ys) (i : Nat) (hi : i < len) :
    ∃ b off y, a = some ⟨b, off, none⟩ ∧ b < w.heap.size ∧ ys[i]? = some y ∧ MbF w y ∧ MbsAt w b off ys := by
  have hlt : i < ys.length := by rw [h.n]; exact hi
  have hg : ys[i]? = some ys[i] := List.getElem?_eq_getElem hlt
  rcases h.r with h0 | ⟨b, off, h1, h2, h3⟩
  · simp [h0] at hlt
  · exact ⟨b, off, _, h1, h2, hg, h.s _ (List.getElem_mem _), h3⟩
/-- the nodes alone -/
def mms (ys : List MbS) : List Mb := ys.map MbS.n
theorem mms_len (ys : List MbS) : (mms ys).length = ys.length := by unfold mms; rw [List.length_map]
theorem mms_at {ys : List MbS} {i : Nat} {y : MbS} (h : ys[i]? = some y) : (mms ys)[i]? = some y.n := by unfold mms; rw [List.getElem?_map, h]; rfl

section
variable {H : Type} {enc : TypeId × Value → H} {P : Program} {w : World} {base : Nat} {held : Bool}

theorem open_mbs {t e q : TypeId} {g0 g1 f0 f1 f2 f3 f4 : Field} {a : Option Addr} {len cap : Nat} {d : DataW H} {p : List MemPlace}
    (ht : P.underlying t = some (.slice e)) (he : P.underlying e = some (.struct #[g0, g1])) (hg : P.underlying g0.type = some (.struct #[f0, f1, f2, f3, f4])) (h0 : P.underlying f0.type = some (.int .i64)) (h1 : P.underlying f1.type = some .string) (h2 : P.underlying f2.type = some (.int .i64)) (h3 : P.underlying f3.type = some .string) (h4 : P.underlying f4.type = some (.int .i64)) (h5 : P.underlying g1.type = some (.slice q)) (hq : P.underlying q = some (.int .u8))
    (hs : (P.cellsOf e, f0.offset, P.cellsOf f0.type, f1.offset, P.cellsOf f1.type, f2.offset, P.cellsOf f2.type, f3.offset, P.cellsOf f3.type, f4.offset, P.cellsOf f4.type, g1.offset, P.cellsOf g1.type) = (6, 0, 1, 1, 1, 2, 1, 3, 1, 4, 1, 5, 1)) (hsg : (g0.offset, P.cellsOf g0.type) = (0, 5)) (hsq : P.cellsOf q = 1) (hbq : P.bytesOf q = 1)
    (h : DataW.Trod enc P w base (fun _ => true) held t (.slice a len cap) d p) (hw : ∀ n ∈ d.weights P t, n ≤ reachBytes) : ∃ ys, ArgMbs w a len cap ys := by
  simp only [Prod.mk.injEq] at hs hsg
  obtain ⟨s, o0, z0, o1, z1, o2, z2, o3, z3, o4, z4, o5, z5⟩ := hs
  obtain ⟨og, zg⟩ := hsg
  obtain ⟨fuel, hf⟩ := h
  rcases open_slice ht hf with ⟨hcs, _⟩ | ⟨x, len', cap', m, n, D, Pl, hcs, _, hl, hm, hmm, hd, hx⟩
  · simp [Value.cells] at hcs
    obtain ⟨rfl, rfl, rfl⟩ := hcs
    exact ⟨[], rfl, Nat.le_refl _, Nat.zero_le _, .inl rfl, fun _ h => by cases h⟩
  · simp [Value.cells] at hcs
    obtain ⟨rfl, rfl, rfl⟩ := hcs
    simp only [if_true] at hmm
    simp only [Prod.mk.injEq] at hd
    obtain ⟨rfl, _⟩ := hd
    have hreach := reachBytes_lt
    have each : ∀ i, i < m → ∃ y : MbS, (∀ j v, (mbV y)[j]? = some v → w.cell? (x.add (i * 6 + j)) = some v) ∧ (i < len → MbF w y) := by
      intro i hi
      obtain ⟨cs', g1', g2⟩ := hx i hi
      rw [s] at g1'
      obtain ⟨_, hlen, hcell⟩ := World.cells?_some g1'
      obtain ⟨xs, k, _, hxe, _, hxl, hfd⟩ := DataW.trod_struct he g2
      match cs', hlen with
      | [v0, v1, v2, v3, v4, v5], _ =>
      match xs, hxl with
      | [yg, y5], _ =>
      have ug := hfd 0 g0 rfl
      have u5 := hfd 1 g1 rfl
      rw [og, zg] at ug; rw [o5, z5] at u5
      simp at ug u5
      obtain ⟨xs', k', _, hxg, _, hxl', hfd'⟩ := DataW.trod_struct hg ug
      match xs', hxl' with
      | [y0, y1, y2, y3, y4], _ =>
      have u0 := hfd' 0 f0 rfl
      have u1 := hfd' 1 f1 rfl
      have u2 := hfd' 2 f2 rfl
      have u3 := hfd' 3 f3 rfl
      have u4 := hfd' 4 f4 rfl
      rw [o0, z0] at u0; rw [o1, z1] at u1; rw [o2, z2] at u2; rw [o3, z3] at u3; rw [o4, z4] at u4
      simp at u0 u1 u2 u3 u4
      obtain ⟨k0, e0, x0, w0⟩ := DataW.trod_int h0 u0
      obtain ⟨k1, e1, x1, _⟩ := DataW.trod_string h1 u1
      obtain ⟨k2, e2, x2, w2⟩ := DataW.trod_int h2 u2
      obtain ⟨k3, e3, x3, _⟩ := DataW.trod_string h3 u3
      obtain ⟨k4, e4, x4, w4⟩ := DataW.trod_int h4 u4
      simp only [List.cons.injEq, and_true] at e0 e1 e2 e3 e4
      subst e0; subst e1; subst e2; subst e3; subst e4
      have c : ∀ j (h : j < 6), w.cell? (x.add (i * 6 + j)) = [Value.int .i64 k0, .string k1, .int .i64 k2, .string k3, .int .i64 k4, v5][j]? := fun j hj => by
        rw [← add_add]
        exact hcell j hj
      simp only [Prod.mk.injEq] at hxe
      have hyg : yg.1 = .agg [.lit (.int .i64 k0), .lit (.string k1.data.toList), .lit (.int .i64 k2), .lit (.string k3.data.toList), .lit (.int .i64 k4)] := by
        rw [hxg, x0, x1, x2, x3, x4]; rfl
      have hmem : i < len → ∀ z, z ∈ (D i).weights P e → z ≤ reachBytes := fun hil z hz => hw z (by
        simp only [DataW.weights, ht, List.mem_cons, List.mem_append]
        exact .inr (.inl (weightsAll_mem (x := D i) hz _ (List.mem_map.2 ⟨i, by simpa using hil, rfl⟩))))
      have hD : D i = .agg [.agg [.lit (.int .i64 k0), .lit (.string k1.data.toList), .lit (.int .i64 k2), .lit (.string k3.data.toList), .lit (.int .i64 k4)], y5.1] := by
        rw [hxe.1, ← hyg]; rfl
      rcases open_ints h5 hq hsq u5 with ⟨e5, x5⟩ | ⟨a5, l5, c5, zs, e5, _, hl5, hm5, hz5, x5, hcl, hwz⟩
      · simp only [List.cons.injEq, and_true] at e5
        subst e5
        refine ⟨⟨⟨⟨k0, k1, k2, k3, k4⟩, []⟩, none, 0⟩, fun j v hv => ?_, fun hil => ?_⟩
        · rw [c j (by simpa using (List.getElem?_eq_some_iff.mp hv).1)]; exact hv
        · have b1 := hmem hil k1.data.toList.length (by rw [hD]; simp [DataW.weights, DataW.weightsEach, he, hg])
          have b3 := hmem hil k3.data.toList.length (by rw [hD]; simp [DataW.weights, DataW.weightsEach, he, hg])
          rw [← Lib.size_eq] at b1 b3
          exact ⟨w0, by show k1.size ≤ _; omega, w2, by show k3.size ≤ _; omega, w4, ArgInts.nil, Nat.zero_le _⟩
      · simp only [List.cons.injEq, and_true] at e5
        subst e5
        have hzl : zs.length = c5 := by simpa using hz5
        have htl : (zs.take l5).length = l5 := by rw [List.length_take]; omega
        refine ⟨⟨⟨⟨k0, k1, k2, k3, k4⟩, zs.take l5⟩, some a5, c5⟩, fun j v hv => ?_, fun hil => ?_⟩
        · rw [c j (by simpa using (List.getElem?_eq_some_iff.mp hv).1), ← hv]
          show _ = (mbC k0 k1 k2 k3 k4 (some a5) (zs.take l5).length c5)[j]?
          rw [htl]
        · have b1 := hmem hil k1.data.toList.length (by rw [hD]; simp [DataW.weights, DataW.weightsEach, he, hg])
          have b3 := hmem hil k3.data.toList.length (by rw [hD]; simp [DataW.weights, DataW.weightsEach, he, hg])
          have b5 := hmem hil (((lits (H := H) .u8 (zs.take l5)).length + (lits (H := H) .u8 (zs.drop l5)).length) * P.bytesOf q) (by rw [hD, x5]; simp [DataW.weights, DataW.weightsEach, he, hg, h5])
          rw [← Lib.size_eq] at b1 b3
          rw [hbq] at b5
          unfold lits at b5
          rw [List.length_map, List.length_map] at b5
          exact ⟨w0, by show k1.size ≤ _; omega, w2, by show k3.size ≤ _; omega, w4, by show ArgInts _ _ _ (zs.take l5).length _ _; rw [htl]; exact ArgInts.mk' hl5 hm5 hzl hcl hwz, by show (zs.take l5).length ≤ _; omega⟩
    obtain ⟨A, hA⟩ := choose_lt each
    refine ⟨(List.range len).map A, by simp, hl, hm, ?_, fun y hy => ?_⟩
    · rcases Nat.eq_zero_or_pos len with h0' | h0'
      · subst h0'; exact .inl rfl
      · have hc0 := (hA 0 (by omega)).1 0 _ rfl
        obtain ⟨b, off, spot⟩ := x
        have hspot : spot = none := by simpa [Addr.add] using World.cell?_spot hc0
        subst hspot
        refine .inr ⟨b, off, rfl, ?_, fun i y hy j v hv => ?_⟩
        · exact World.block_lt_of_cell? w (⟨b, off, none⟩ : Addr) (by simpa [Go.WideShapes.add_plain] using hc0)
        · rw [List.getElem?_map] at hy
          have hi : i < len := by
            rcases Nat.lt_or_ge i len with h | h
            · exact h
            · rw [List.getElem?_eq_none (by simpa using h)] at hy; cases hy
          rw [List.getElem?_range hi] at hy
          obtain rfl := Option.some.inj hy
          have := (hA i (by omega)).1 j v hv
          rw [Go.WideShapes.add_plain] at this
          rw [Nat.add_assoc]; exact this
    · obtain ⟨r, hr', rfl⟩ := List.mem_map.1 hy
      have hlt : r < len := by simpa using hr'
      exact (hA r (by omega)).2 hlt
end
end Go.Proofs.YtinmkgpmoclcoaaDoor.Flt
/-
  Slices of members: written out, grown, owned. Nothing of the program.
-/
namespace Go.Proofs.YtinmkgpmoclcoaaDoor.Flt
open Go.RowKit

theorem MbsAt.of_cells {w : World} {g : Nat} {e : TypeId} {ys : List MbS} (h : ObjAt w g e (mbCells ys)) : MbsAt w g 0 ys := fun i y hi j v hv => by
  rw [Nat.zero_add, h.cell]
  exact mbCells_at ys i y hi j v hv
theorem MbsAt.news {w : World} {b off : Nat} {ys : List MbS} (h : MbsAt w b off ys) : ∀ j u, (mbCells ys)[j]? = some u → w.cell? ((⟨b, off, none⟩ : Addr).add j) = some u := fun j u hu => by
  rw [add_plain']
  have hj : j < (mbCells ys).length := (List.getElem?_eq_some_iff.mp hu).1
  rw [mbCells_len] at hj
  have hi : j / 6 < ys.length := by omega
  have hy : ys[j / 6]? = some ys[j / 6] := List.getElem?_eq_getElem hi
  have hr : j % 6 < (mbV ys[j / 6]).length := by simp; omega
  have hv : (mbV ys[j / 6])[j % 6]? = some (mbV ys[j / 6])[j % 6] := List.getElem?_eq_getElem hr
  have h1 := mbCells_at ys (j / 6) _ hy (j % 6) _ hv
  rw [show j / 6 * 6 + j % 6 = j by omega, hu] at h1
  have h2 := h (j / 6) _ hy (j % 6) _ hv
  rw [show off + j / 6 * 6 + j % 6 = off + j by omega] at h2
  rw [h2, h1]
theorem mbCells_one (ys : List MbS) : ∀ u ∈ mbCells ys, u.oneCell' = true := by
  intro u hu
  unfold mbCells at hu
  obtain ⟨y, _, h⟩ := List.mem_flatMap.mp hu
  revert h
  simp
  rintro (rfl | rfl | rfl | rfl | rfl | rfl) <;> rfl
/-- a slice of the call's own -/
theorem MbsIn.of_own {w : World} {base n : Nat} {e : TypeId} {v : Value} {ys : List MbS} (h : w.ownsRow base e 6 v n (mbCells ys)) :
    ∃ a c, v = .slice a n c ∧ n = ys.length ∧ n ≤ c ∧ c ≤ maxLen ∧ MbsIn w a ys ∧ (∀ x, a = some x → base ≤ x.block ∧ x.block < w.heap.size) := by
  have hl := h.1
  rw [mbCells_len] at hl
  have hn : n = ys.length := by omega
  rcases h.2 with ⟨hv, h0⟩ | ⟨g, cap, cur, hv, hb, hh, hc, hm, hs, ht⟩
  · subst h0
    exact ⟨none, 0, hv, hn, Nat.le_refl _, Nat.zero_le _, .inl (List.length_eq_zero_iff.1 hn.symm), fun x hx => by cases hx⟩
  · have hlt : g < w.heap.size := (Array.getElem?_eq_some_iff.1 hh).1
    refine ⟨some ⟨g, 0, none⟩, cap, hv, hn, hc, hm, .inr ⟨g, 0, rfl, hlt, fun i y hi j u hu => ?_⟩, fun x hx => by cases hx; exact ⟨hb, hlt⟩⟩
    have hat := mbCells_at ys i y hi j u hu
    have hir : i < ys.length := (List.getElem?_eq_some_iff.1 hi).1
    have hj6 : j < 6 := by have := (List.getElem?_eq_some_iff.mp hu).1; simpa using this
    have hlt2 : i * 6 + j < n * 6 := by omega
    rw [← ht, List.getElem?_take, if_pos hlt2] at hat
    rw [Nat.zero_add, World.cell?, hh]
    simpa using hat
/-- nodes with what a walk is told of each, in a slice of the call's own -/
theorem ArgMbs.of_own {w : World} {base n : Nat} {e : TypeId} {v : Value} {ys : List MbS} (h : w.ownsRow base e 6 v n (mbCells ys)) (hf : ∀ y ∈ ys, MbF w y) :
    ∃ a c, v = .slice a n c ∧ ArgMbs w a n c ys := by
  obtain ⟨a, c, rfl, hn, hc, hm, hi, _⟩ := MbsIn.of_own h
  exact ⟨a, c, rfl, hn.symm, hc, hm, hi, hf⟩

section
variable {P : Program} {w : World} {ops : Array Oper} {rest : List Oper} {o : Oper} {a : Act} {Q : Exit → Act → World → Prop}

theorem run_lit_mb0 (t e : TypeId) (ht : P.underlying t = some (.slice e)) (z : Value) (hI : (P.info? e).map (fun i => (i.zero, i.size)) = some (some z, 6)) :
    (Instr.buildSlice t 0 #[]).run P w = .ok (.slice (some ⟨w.heap.size, 0, none⟩) 0 0) (w.alloc (.cells #[] e)) := by
  cases hq : P.info? e with
  | none => simp [hq] at hI
  | some i =>
    simp [hq] at hI
    simp [Instr.buildSlice, run_underlying ht, sizeOf, typeInfo, hq, Instr.fill, newRow]
    rw [show Array.range 0 = #[] by decide]; simp
theorem own_lit_mb0 (w : World) (e : TypeId) : (w.alloc (.cells #[] e)).ownsRow w.heap.size e 6 (.slice (some ⟨w.heap.size, 0, none⟩) 0 0) 0 (mbCells []) :=
  ⟨rfl, .inr ⟨w.heap.size, 0, #[], rfl, Nat.le_refl _, heap_alloc_new w _, Nat.le_refl _, Nat.zero_le _, rfl, rfl⟩⟩
theorem run_lit_mb1 (t e : TypeId) (ht : P.underlying t = some (.slice e)) (z : Value) (hI : (P.info? e).map (fun i => (i.zero, i.size)) = some (some z, 6)) (y : MbS) :
    (Instr.buildSlice t 1 #[(0, .agg (mbV y).toArray)]).run P w = .ok (.slice (some ⟨w.heap.size, 0, none⟩) 1 1) (w.alloc (.cells (mbCells [y]).toArray e)) := by
  cases hq : P.info? e with
  | none => simp [hq] at hI
  | some i =>
    simp [hq] at hI
    simp [Instr.buildSlice, run_underlying ht, sizeOf, typeInfo, zeroValue, hq, hI.1, hI.2, Instr.fill, newRow, Value.cells]
    rw [show Array.range 6 = #[0, 1, 2, 3, 4, 5] by decide]; simp [mbCells]
theorem run_lit_mb2 (t e : TypeId) (ht : P.underlying t = some (.slice e)) (z : Value) (hI : (P.info? e).map (fun i => (i.zero, i.size)) = some (some z, 6)) (y y' : MbS) :
    (Instr.buildSlice t 2 #[(0, .agg (mbV y).toArray), (1, .agg (mbV y').toArray)]).run P w = .ok (.slice (some ⟨w.heap.size, 0, none⟩) 2 2) (w.alloc (.cells (mbCells [y, y']).toArray e)) := by
  cases hq : P.info? e with
  | none => simp [hq] at hI
  | some i =>
    simp [hq] at hI
    simp [Instr.buildSlice, run_underlying ht, sizeOf, typeInfo, zeroValue, hq, hI.1, hI.2, Instr.fill, newRow, Value.cells]
    rw [show Array.range 12 = #[0, 1, 2, 3, 4, 5, 6, 7, 8, 9, 10, 11] by decide]; simp [mbCells]
theorem wpList_lit_mb1 (hgd : o.guard = none) (t e : TypeId) (x : Operand) (ho : o.op = .buildSlice t 1 #[(0, x)]) (ht : P.underlying t = some (.slice e)) (z : Value) (hI : (P.info? e).map (fun i => (i.zero, i.size)) = some (some z, 6))
    (y : MbS) (hx : a.eval x = .agg (mbV y).toArray)
    (K : ∀ w', ObjAt w' w.heap.size e (mbCells [y]) → Below w.heap.size w w' → wpList P ops Q rest (a.put o.dst (.slice (some ⟨w.heap.size, 0, none⟩) 1 1)) w') : wpList P ops Q (o :: rest) a w := by
  refine wpList_plain hgd fun K' hK => ?_
  have hrun := run_lit_mb1 (P := P) (w := w) t e ht z hI y
  unfold Oper.wp
  simp only [execOp, ho, List.map_toArray, List.map_cons, List.map_nil, hx, hrun, Sem.run_bind, Sem.run_pure, Result.andThen_ok]
  exact hK _ _ (K _ (heap_alloc_new w _) ((Below.refl _ _).alloc (Nat.le_refl _) _))
/-- an operation whose guard lets it run -/
theorem wpList_wanted (hw : Region.wanted o (yielded ops a.tmps) = true) (h : ∀ K : Act → World → Prop, (∀ a w, wpList P ops Q rest a w → K a w) → o.wp P a w K Q) : wpList P ops Q (o :: rest) a w :=
  wpList_step fun K hK => by rw [if_pos hw]; exact h K hK
theorem wpList_lit_mb1_w (hw : Region.wanted o (yielded ops a.tmps) = true) (t e : TypeId) (x : Operand) (ho : o.op = .buildSlice t 1 #[(0, x)]) (ht : P.underlying t = some (.slice e)) (z : Value) (hI : (P.info? e).map (fun i => (i.zero, i.size)) = some (some z, 6))
    (y : MbS) (hx : a.eval x = .agg (mbV y).toArray)
    (K : ∀ w', ObjAt w' w.heap.size e (mbCells [y]) → Below w.heap.size w w' → wpList P ops Q rest (a.put o.dst (.slice (some ⟨w.heap.size, 0, none⟩) 1 1)) w') : wpList P ops Q (o :: rest) a w := by
  refine wpList_wanted hw fun K' hK => ?_
  have hrun := run_lit_mb1 (P := P) (w := w) t e ht z hI y
  unfold Oper.wp
  simp only [execOp, ho, List.map_toArray, List.map_cons, List.map_nil, hx, hrun, Sem.run_bind, Sem.run_pure, Result.andThen_ok]
  exact hK _ _ (K _ (heap_alloc_new w _) ((Below.refl _ _).alloc (Nat.le_refl _) _))
theorem wpList_lit_mb2 (hgd : o.guard = none) (t e : TypeId) (x x' : Operand) (ho : o.op = .buildSlice t 2 #[(0, x), (1, x')]) (ht : P.underlying t = some (.slice e)) (z : Value) (hI : (P.info? e).map (fun i => (i.zero, i.size)) = some (some z, 6))
    (y y' : MbS) (hx : a.eval x = .agg (mbV y).toArray) (hx' : a.eval x' = .agg (mbV y').toArray)
    (K : ∀ w', ObjAt w' w.heap.size e (mbCells [y, y']) → Below w.heap.size w w' → wpList P ops Q rest (a.put o.dst (.slice (some ⟨w.heap.size, 0, none⟩) 2 2)) w') : wpList P ops Q (o :: rest) a w := by
  refine wpList_plain hgd fun K' hK => ?_
  have hrun := run_lit_mb2 (P := P) (w := w) t e ht z hI y y'
  unfold Oper.wp
  simp only [execOp, ho, List.map_toArray, List.map_cons, List.map_nil, hx, hx', hrun, Sem.run_bind, Sem.run_pure, Result.andThen_ok]
  exact hK _ _ (K _ (heap_alloc_new w _) ((Below.refl _ _).alloc (Nat.le_refl _) _))
theorem wpList_lit_mb0 (hgd : o.guard = none) (t e : TypeId) (ho : o.op = .buildSlice t 0 #[]) (ht : P.underlying t = some (.slice e)) (z : Value) (hI : (P.info? e).map (fun i => (i.zero, i.size)) = some (some z, 6))
    (K : ∀ w', w'.ownsRow w.heap.size e 6 (.slice (some ⟨w.heap.size, 0, none⟩) 0 0) 0 (mbCells []) → Below w.heap.size w w' → wpList P ops Q rest (a.put o.dst (.slice (some ⟨w.heap.size, 0, none⟩) 0 0)) w') : wpList P ops Q (o :: rest) a w := by
  refine wpList_plain hgd fun K' hK => ?_
  have hrun := run_lit_mb0 (P := P) (w := w) t e ht z hI
  unfold Oper.wp
  simp [execOp, ho, hrun, Result.andThen]
  exact hK _ _ (K _ (own_lit_mb0 w e) ((Below.refl _ _).alloc (Nat.le_refl _) _))
/-- append of nodes to nodes of the call's own -/
theorem run_append_mms (t ty e : TypeId) (base : Nat) (i0 : TypeInfo) (z : Value) (hT : P.underlying t = some (.slice e)) (hI : Hid (P.info? e = some i0 ∧ i0.zero = some z ∧ i0.size = 6 ∧ i0.bytes = 80)) (hz : z.cells.size = 6)
    (v : Value) (n : Nat) (ys : List MbS) (hown : w.ownsRow base e 6 v n (mbCells ys))
    (b : Option Addr) (m c : Nat) (xs : List MbS) (hy : MbsIn w b xs) (hl : xs.length = m) (h47 : n + m ≤ 1759218604441) (hbase : base ≤ w.heap.size) :
    ∃ v' w', (Builtin.append_ #[t, t] ty #[v, .slice b m c]).run P w = .ok v' w' ∧ w'.ownsRow base e 6 v' (n + m) (mbCells (ys ++ xs)) ∧ Below base w w' ∧ (∀ k, k < w.heap.size → some k ≠ v.ownBlock → w'.heap[k]? = w.heap[k]?) ∧ (v'.ownBlock = v.ownBlock ∨ v'.ownBlock = some w.heap.size) := by
  rcases hy with hy | ⟨b', off, rfl, _, hy⟩
  · subst hy
    obtain rfl : m = 0 := hl.symm
    exact ⟨v, w, run_append_empty (P := P) w base t ty e i0 6 hT hI.out.1 v n _ hown b c, by simpa using hown, Below.refl _ _, fun _ _ _ => rfl, .inl rfl⟩
  · obtain ⟨v', w', hr, k1, k2, _, k3⟩ := run_append_own_at (P := P) w base t ty e i0 z 6 80 hT hI.out.1 hI.out.2.1 hI.out.2.2.1 hI.out.2.2.2 hz (by decide) v n _ hown ⟨b', off, none⟩ m c (mbCells xs) (by rw [mbCells_len, hl]) hy.news (mbCells_one xs) (by unfold maxLen; omega) (by omega) hbase
    exact ⟨v', w', hr, by rw [mbCells_append]; exact k1, (Below.refl _ _).grown k2 hbase (fun k hk => (own_under hown k hk).1), fun k hk hr => k2.block k hk hr, k3⟩
theorem wpList_append_mms (hgd : o.guard = none) (s x : Operand) (t : TypeId) (ho : o.op = .call { callee := .builtin .append, args := #[s, x], argTypes := #[t, t] })
    (e : TypeId) (base : Nat) (i0 : TypeInfo) (z : Value) (hT : P.underlying t = some (.slice e)) (hI : Hid (P.info? e = some i0 ∧ i0.zero = some z ∧ i0.size = 6 ∧ i0.bytes = 80)) (hz : z.cells.size = 6)
    (v : Value) (n : Nat) (ys : List MbS) (hs : a.eval s = v) (hown : w.ownsRow base e 6 v n (mbCells ys))
    (b : Option Addr) (m c : Nat) (xs : List MbS) (hx : a.eval x = .slice b m c) (hy : MbsIn w b xs) (hl : xs.length = m) (h47 : n + m ≤ 1759218604441) (hbase : base ≤ w.heap.size)
    (K : ∀ v' w', w'.ownsRow base e 6 v' (n + m) (mbCells (ys ++ xs)) → Below base w w' → (∀ k, k < w.heap.size → some k ≠ v.ownBlock → w'.heap[k]? = w.heap[k]?) → (v'.ownBlock = v.ownBlock ∨ v'.ownBlock = some w.heap.size) → wpList P ops Q rest (a.put o.dst v') w') : wpList P ops Q (o :: rest) a w := by
  obtain ⟨v', w', hr, k1, k2, k3, k4⟩ := run_append_mms (P := P) (w := w) t o.type e base i0 z hT hI hz v n ys hown b m c xs hy hl h47 hbase
  refine wpList_plain hgd fun K' hK => ?_
  unfold Oper.wp
  simp [execOp, ho, resolve, invoke, builtin, hs, hx, hr, Result.andThen]
  exact hK _ _ (K _ _ k1 k2 k3 k4)
end
end Go.Proofs.YtinmkgpmoclcoaaDoor.Flt
/-
  Slices of members in a drawn region: literals, append; bytes appended there beside other rows; a cell stored. Nothing of the program.
-/
namespace Go.Proofs.YtinmkgpmoclcoaaDoor.Flt
open Go.RowKit
section
variable {P : Program} {w : World} {ops : Array Oper} {o : Oper} {a : Act} {Q : Exit → Act → World → Prop} {K : Act → World → Prop} {E : Prop}

theorem step_append_mms (hgd : o.guard = none) (s x : Operand) (t : TypeId) (ho : o.op = .call { callee := .builtin .append, args := #[s, x], argTypes := #[t, t] })
    (base : Nat) (e : TypeId) (i0 : TypeInfo) (z : Value) (hT : P.underlying t = some (.slice e)) (hI : Hid (P.info? e = some i0 ∧ i0.zero = some z ∧ i0.size = 6 ∧ i0.bytes = 80)) (hz : z.cells.size = 6)
    (v : Value) (n : Nat) (ys : List MbS) (hs : a.eval s = v) (hown : w.ownsRow base e 6 v n (mbCells ys)) (b : Option Addr) (m c : Nat) (xs : List MbS) (hx : a.eval x = .slice b m c) (hy : MbsIn w b xs) (hl : xs.length = m) (h47 : n + m ≤ 1759218604441) (hbase : base ≤ w.heap.size)
    (k : ∀ v' w', w'.ownsRow base e 6 v' (n + m) (mbCells (ys ++ xs)) → Below base w w' → (∀ k, k < w.heap.size → some k ≠ v.ownBlock → w'.heap[k]? = w.heap[k]?) → K (a.put o.dst v') w') :
    if Region.wanted o (yielded ops a.tmps) = true then Oper.wp P o a w K Q else E := by
  have hw : Region.wanted o (yielded ops a.tmps) = true := by simp [Region.wanted, hgd]
  rw [if_pos hw]
  obtain ⟨v', w', hr, h1, h2, h3, _⟩ := run_append_mms (P := P) (w := w) t o.type e base i0 z hT hI hz v n ys hown b m c xs hy hl h47 hbase
  unfold Oper.wp
  simp [execOp, ho, resolve, invoke, builtin, hs, hx, hr, Result.andThen]
  exact k _ _ h1 h2 h3
theorem step_lit_mb0 (hgd : o.guard = none) (t e : TypeId) (ho : o.op = .buildSlice t 0 #[]) (ht : P.underlying t = some (.slice e)) (z : Value) (hI : (P.info? e).map (fun i => (i.zero, i.size)) = some (some z, 6))
    (k : ∀ w', w'.ownsRow w.heap.size e 6 (.slice (some ⟨w.heap.size, 0, none⟩) 0 0) 0 (mbCells []) → Below w.heap.size w w' → K (a.put o.dst (.slice (some ⟨w.heap.size, 0, none⟩) 0 0)) w') :
    if Region.wanted o (yielded ops a.tmps) = true then Oper.wp P o a w K Q else E := by
  have hw : Region.wanted o (yielded ops a.tmps) = true := by simp [Region.wanted, hgd]
  rw [if_pos hw]
  have hrun := run_lit_mb0 (P := P) (w := w) t e ht z hI
  unfold Oper.wp
  simp [execOp, ho, hrun, Result.andThen]
  exact k _ (own_lit_mb0 w e) ((Below.refl _ _).alloc (Nat.le_refl _) _)
theorem step_lit_mb1 (hgd : o.guard = none) (t e : TypeId) (x : Operand) (ho : o.op = .buildSlice t 1 #[(0, x)]) (ht : P.underlying t = some (.slice e)) (z : Value) (hI : (P.info? e).map (fun i => (i.zero, i.size)) = some (some z, 6))
    (y : MbS) (hx : a.eval x = .agg (mbV y).toArray)
    (k : ∀ w', ObjAt w' w.heap.size e (mbCells [y]) → Below w.heap.size w w' → K (a.put o.dst (.slice (some ⟨w.heap.size, 0, none⟩) 1 1)) w') :
    if Region.wanted o (yielded ops a.tmps) = true then Oper.wp P o a w K Q else E := by
  have hw : Region.wanted o (yielded ops a.tmps) = true := by simp [Region.wanted, hgd]
  rw [if_pos hw]
  have hrun := run_lit_mb1 (P := P) (w := w) t e ht z hI y
  unfold Oper.wp
  simp only [execOp, ho, List.map_toArray, List.map_cons, List.map_nil, hx, hrun, Sem.run_bind, Sem.run_pure, Result.andThen_ok]
  exact k _ (heap_alloc_new w _) ((Below.refl _ _).alloc (Nat.le_refl _) _)
theorem step_lit_k0 (hgd : o.guard = none) (t e : TypeId) (k : IntKind) (ho : o.op = .buildSlice t 0 #[]) (ht : P.underlying t = some (.slice e)) (he : (P.info? e).map (·.size) = some 1)
    (h : ∀ w', w'.ownsRow w.heap.size e 1 (.slice (some ⟨w.heap.size, 0, none⟩) 0 0) 0 (([] : List Int).map (.int k)) → Below w.heap.size w w' → K (a.put o.dst (.slice (some ⟨w.heap.size, 0, none⟩) 0 0)) w') :
    if Region.wanted o (yielded ops a.tmps) = true then Oper.wp P o a w K Q else E := by
  have hw : Region.wanted o (yielded ops a.tmps) = true := by simp [Region.wanted, hgd]
  rw [if_pos hw]
  cases hq : P.info? e with
  | none => simp [hq] at he
  | some i =>
    have hrun : (Instr.buildSlice t 0 #[]).run P w = .ok (.slice (some ⟨w.heap.size, 0, none⟩) 0 0) (w.alloc (.cells #[] e)) := by
      simp [Instr.buildSlice, run_underlying ht, sizeOf, typeInfo, hq, Instr.fill, newRow]
      rw [show Array.range 0 = #[] by decide, Array.map_empty]
    unfold Oper.wp
    simp [execOp, ho, hrun, Result.andThen]
    exact h _ ⟨rfl, .inr ⟨w.heap.size, 0, #[], rfl, Nat.le_refl _, heap_alloc_new w _, Nat.le_refl _, Nat.zero_le _, rfl, rfl⟩⟩ ((Below.refl _ _).alloc (Nat.le_refl _) _)
theorem step_append_kk (hgd : o.guard = none) (s x : Operand) (t : TypeId) (ho : o.op = .call { callee := .builtin .append, args := #[s, x], argTypes := #[t, t] })
    (base : Nat) (e : TypeId) (k : IntKind) (B : Nat) (hT : P.underlying t = some (.slice e)) (hI : ElemT P e k B)
    (v : Value) (n : Nat) (zs : List Int) (hs : a.eval s = v) (hown : w.ownsRow base e 1 v n (zs.map (.int k)))
    (b : Option Addr) (m c : Nat) (ys : List Int) (hx : a.eval x = .slice b m c) (hy : InK k w b ys) (hl : ys.length = m) (h63 : n + m ≤ maxLen) (h47 : (n + m) * B ≤ 140737488355328) (hbase : base ≤ w.heap.size)
    (h : ∀ v' w', w'.ownsRow base e 1 v' (n + m) ((zs ++ ys).map (.int k)) → Below base w w' → (∀ k, k < w.heap.size → some k ≠ v.ownBlock → w'.heap[k]? = w.heap[k]?) → K (a.put o.dst v') w') :
    if Region.wanted o (yielded ops a.tmps) = true then Oper.wp P o a w K Q else E := by
  have hw : Region.wanted o (yielded ops a.tmps) = true := by simp [Region.wanted, hgd]
  rw [if_pos hw]
  obtain ⟨i0, h1, h2, h3, h4⟩ := hI
  rcases hy with hy | ⟨b', off, rfl, _, hy⟩
  · subst hy
    obtain rfl : m = 0 := hl.symm
    have hr := run_append_empty (P := P) w base t o.type e i0 1 hT h1 v n _ hown b c
    unfold Oper.wp
    simp [execOp, ho, resolve, invoke, builtin, hs, hx, hr, Result.andThen]
    exact h _ _ (by simpa using hown) (Below.refl _ _) (fun _ _ _ => rfl)
  · obtain ⟨v', w', hr, k1, k2, _, _⟩ := run_append_own_at (P := P) w base t o.type e i0 (.int k 0) 1 B hT h1 h2 h3 h4 rfl (by decide) v n _ hown ⟨b', off, none⟩ m c (ys.map (.int k)) (by rw [List.length_map, hl, Nat.mul_one]) (newsK hy) (one_map _ _) h63 h47 hbase
    unfold Oper.wp
    simp [execOp, ho, resolve, invoke, builtin, hs, hx, hr, Result.andThen]
    exact h _ _ (by rw [List.map_append]; exact k1) ((Below.refl _ _).grown k2 hbase (own_block hown)) (fun k hk hr => k2.block k hk hr)
theorem step_store_one (hgd : o.guard = none) (T : TypeId) (x y : Operand) (ho : o.op = .store T x y) (g i : Nat) (hx : a.eval x = .pointer (some ⟨g, i, none⟩))
    (v : Value) (hy : a.eval y = v) (h1 : v.oneCell' = true) (hs : (P.info? T).map (·.size) = some 1) (T' : TypeId) (vs : List Value) (hg : ObjAt w g T' vs) (hi : i < vs.length)
    (k : ∀ w', ObjAt w' g T' (vs.set i v) → TurnB w w' g → K (a.put o.dst undef) w') :
    if Region.wanted o (yielded ops a.tmps) = true then Oper.wp P o a w K Q else E := by
  have hw : Region.wanted o (yielded ops a.tmps) = true := by simp [Region.wanted, hgd]
  rw [if_pos hw]
  have hc : w.cell? ⟨g, i, none⟩ = some vs[i] := hg.get i (List.getElem?_eq_getElem hi)
  have hf := hg.frozen i
  have hv : v.cells = #[v] := by cases v <;> first | rfl | (simp [Value.oneCell'] at h1)
  cases hq : P.info? T with
  | none => simp [hq] at hs
  | some j =>
    have hj : j.size = 1 := by simpa [hq] using hs
    have ha : (⟨g, i, none⟩ : Addr).add 0 = ⟨g, i, none⟩ := add_plain' g i 0
    have hrun : (storeVar T ⟨g, i, none⟩ v).run P w = .ok () (w.setCell ⟨g, i, none⟩ v) := by
      simp [storeVar, sizeOf, typeInfo, hq, hj, hv, storeCells, run_store P w _ v _ h1, ha, hc, hf]
    unfold Oper.wp execOp
    simp only [ho, hx, hy, Instr.storeAt, Instr.sureAddr, Sem.run_bind, Sem.run_pure, Result.andThen_ok, hrun]
    exact k _ (hg.set i v) ⟨fun hB => (Below.refl _ _).setCell hB v, fun hk => Below.heap_setCell _ _ _ _ hk, by simp [World.setCell]⟩
theorem run_load_part {T : TypeId} {n : Nat} (hT : ObjT P T n) (b off : Nat) (vs : List Value) (hl : vs.length = n) (hr : ∀ j u, vs[j]? = some u → w.cell? ⟨b, off + j, none⟩ = some u) :
    (loadVar T ⟨b, off, none⟩).run P w = .ok (.agg vs.toArray) w := by
  obtain ⟨⟨fs, h1⟩, hs⟩ := hT
  have hll := run_loadCells_list (P := P) w ⟨b, off, none⟩ vs (fun j u hj => by rw [add_plain']; exact hr j u hj)
  rw [hl] at hll
  cases hq : P.info? T with
  | none => simp [hq] at hs
  | some i =>
    have hs : i.size = n := by simpa [hq] using hs
    have hagg : (isAgg T).run P w = .ok true w := by
      unfold isAgg
      rw [Sem.run_bind, run_underlying h1 w]
      simp
    simp [loadVar, Sem.run_bind, hagg, sizeOf, typeInfo, hq, hs, hll]
theorem wpList_load_part {rest : List Oper} (hgd : o.guard = none) (T : TypeId) (n : Nat) (hT : ObjT P T n) (x : Operand) (ho : o.op = .load T x) (b off : Nat) (hx : a.eval x = .pointer (some ⟨b, off, none⟩)) (vs : List Value) (hl : vs.length = n)
    (hr : ∀ j u, vs[j]? = some u → w.cell? ⟨b, off + j, none⟩ = some u) (K' : wpList P ops Q rest (a.put o.dst (.agg vs.toArray)) w) : wpList P ops Q (o :: rest) a w := by
  refine wpList_plain hgd fun K hK => ?_
  have hrun := run_load_part hT b off vs hl hr
  unfold Oper.wp execOp
  simp only [ho, hx, Instr.loadAt, Instr.sureAddr, Sem.run_bind, Sem.run_pure, Result.andThen_ok, hrun]
  exact hK _ _ K'
theorem step_load_run (hgd : o.guard = none) (T : TypeId) (x : Operand) (ho : o.op = .load T x) (p : Addr) (hx : a.eval x = .pointer (some p)) (v : Value) (hr : (loadVar T p).run P w = .ok v w) (k : K (a.put o.dst v) w) :
    if Region.wanted o (yielded ops a.tmps) = true then Oper.wp P o a w K Q else E := by
  have hw : Region.wanted o (yielded ops a.tmps) = true := by simp [Region.wanted, hgd]
  rw [if_pos hw]
  unfold Oper.wp execOp
  simp only [ho, hx, Instr.loadAt, Instr.sureAddr, Sem.run_bind, Sem.run_pure, Result.andThen_ok, hr]
  exact k
end
theorem own_other {w w' : World} {base base' n n' size size' : Nat} {e e' : TypeId} {v v' : Value} {xs xs' : List Value} (h : w.ownsRow base e size v n xs) (ho : w.ownsRow base' e' size' v' n' xs') (hne : e ≠ e')
    (hk : ∀ k, k < w.heap.size → some k ≠ v'.ownBlock → w'.heap[k]? = w.heap[k]?) : w'.ownsRow base e size v n xs := by
  obtain ⟨h1, h2⟩ := h
  refine ⟨h1, h2.imp id ?_⟩
  rintro ⟨b, cap, cur', hv, hb, hh, r⟩
  have hlt : b < w.heap.size := (Array.getElem?_eq_some_iff.1 hh).1
  refine ⟨b, cap, cur', hv, hb, (hk b hlt ?_).trans hh, r⟩
  rcases ho.2 with ⟨e1, _⟩ | ⟨g, c, cur, e1, _, hg, _⟩
  · subst e1; intro h; cases h
  · subst e1
    intro h
    have h : some b = some g := h
    injection h with h
    subst h
    rw [hh] at hg
    injection hg with hg
    injection hg with _ hg _
    exact hne hg
theorem own_lower {w : World} {base base' n size : Nat} {e : TypeId} {v : Value} {xs : List Value} (h : w.ownsRow base e size v n xs) (hb : base' ≤ base) : w.ownsRow base' e size v n xs := by
  obtain ⟨h1, h2⟩ := h
  refine ⟨h1, ?_⟩
  rcases h2 with h2 | ⟨g, cap, cur, hv, hg, r⟩
  · exact Or.inl h2
  · exact Or.inr ⟨g, cap, cur, hv, Nat.le_trans hb hg, r⟩
theorem obj_mms {w : World} {g : Nat} {e : TypeId} {ys : List MbS} (h : ObjAt w g e (mbCells ys)) : MbsIn w (some ⟨g, 0, none⟩) ys := .inr ⟨g, 0, rfl, h.lt, .of_cells h⟩
end Go.Proofs.YtinmkgpmoclcoaaDoor.Flt
/-
  A row of members of the call's own, made and stored into. Nothing of the program.
-/
namespace Go.Proofs.YtinmkgpmoclcoaaDoor.Flt
open Go.RowKit Go.Proofs.YtinmkgpmoclcoaaDoor.Fit

abbrev mb0 : MbS := ⟨⟨⟨0, emp, 0, emp, 0⟩, []⟩, none, 0⟩
theorem cells0_at (n : Nat) : (mbCells (List.replicate n mb0)).toArray = madeCells (Value.agg (mbC 0 emp 0 emp 0 none 0 0).toArray).cells (n * 6) := by
  apply Array.ext
  · rw [size_madeCells, List.size_toArray, mbCells_len, List.length_replicate]
  · intro i h1 h2
    have hi : i < n * 6 := by rw [size_madeCells] at h2; exact h2
    have hl : i / 6 < n := by omega
    have := mbCells_at (List.replicate n mb0) (i / 6) mb0 (by rw [List.getElem?_replicate, if_pos hl]) (i % 6) ((mbV mb0)[i % 6]'(by simp; omega)) (List.getElem?_eq_getElem _)
    rw [show i / 6 * 6 + i % 6 = i by omega] at this
    have h3 : (mbCells (List.replicate n mb0)).toArray[i]? = some ((mbV mb0)[i % 6]'(by simp; omega)) := by simpa using this
    rw [Array.getElem?_eq_getElem h1] at h3
    rw [Option.some.inj h3]
    simp only [madeCells, Array.getElem_map, Array.getElem_range]
    have : i % 6 < 6 := by omega
    rcases (show i % 6 = 0 ∨ i % 6 = 1 ∨ i % 6 = 2 ∨ i % 6 = 3 ∨ i % 6 = 4 ∨ i % 6 = 5 by omega) with e | e | e | e | e | e <;> simp [e, Value.cells]
theorem mbV_one (u : MbS) : ∀ v ∈ mbV u, v.oneCell' = true := by simp [Value.oneCell']
theorem mbCells_set : ∀ (us : List MbS) (i : Nat) (u : MbS), i < us.length → (mbCells us).take (i * 6) ++ mbV u ++ (mbCells us).drop (i * 6 + 6) = mbCells (us.set i u)
  | [], i, u, h => by simp at h
  | y :: us, 0, u, _ => by
    rw [mbCells_cons, List.set_cons_zero, mbCells_cons]
    simp
  | y :: us, i + 1, u, h => by
    rw [mbCells_cons, List.set_cons_succ, mbCells_cons, ← mbCells_set us i u (by simpa using h)]
    have hl : (mbV y).length = 6 := by simp
    rw [show (i + 1) * 6 = (mbV y).length + i * 6 by rw [hl]; omega, List.take_append, Nat.add_assoc, List.drop_append]
    have e1 : (mbV y).take ((mbV y).length + i * 6) = mbV y := List.take_of_length_le (by omega)
    have e2 : (mbV y).drop ((mbV y).length + (i * 6 + 6)) = [] := List.drop_eq_nil_of_le (by omega)
    rw [e1, e2, Nat.add_sub_cancel_left, Nat.add_sub_cancel_left]
    simp
section
variable {P : Program} {w : World} {ops : Array Oper} {rest : List Oper} {o : Oper} {a : Act} {Q : Exit → Act → World → Prop}
/-- 'make([]api.Member, n)' -/
theorem wpList_make_mbs (hgd : o.guard = none) (l c : Operand) (t e : TypeId) (ho : o.op = .makeSlice t l c) (ht : P.underlying t = some (.slice e)) (i0 : TypeInfo) (hI : Hid (P.info? e = some i0 ∧ i0.zero = some (.agg (mbC 0 emp 0 emp 0 none 0 0).toArray) ∧ i0.size = 6 ∧ i0.bytes = 80))
    (n : Nat) (hl : a.eval l = .int .i64 (n : Int)) (hc : a.eval c = .int .i64 (n : Int)) (hn : n ≤ 1000000)
    (K : ∀ w', ObjAt w' w.heap.size e (mbCells (List.replicate n mb0)) → Below w.heap.size w w' → wpList P ops Q rest (a.put o.dst (.slice (some ⟨w.heap.size, 0, none⟩) n n)) w') : wpList P ops Q (o :: rest) a w := by
  refine wpList_make_full w hgd l c t ho w.heap.size e i0 _ 6 ht hI.out.1 hI.out.2.1 hI.out.2.2.1 .i64 .i64 n n n hl hc rfl rfl (by rw [hI.out.2.2.2]; omega) (by unfold maxLen; omega) (Nat.le_refl _) fun w' h1 h2 => ?_
  refine K w' ?_ ((Below.refl _ _).grown h2 (Nat.le_refl _) (fun _ h => by cases h))
  obtain ⟨h3, h4⟩ := h1
  rcases h4 with ⟨hv, _⟩ | ⟨g, cap, cur, hv, _, hh, _, _, hs, hx⟩
  · cases hv
  · injection hv with e1 _ e3
    injection e1 with e1; injection e1 with e1 _
    subst e1; subst e3
    unfold ObjAt
    rw [cells0_at]
    have e : cur = madeCells (Value.agg (mbC 0 emp 0 emp 0 none 0 0).toArray).cells (n * 6) := by
      have h5 : cur.toList.take (n * 6) = cur.toList := List.take_of_length_le (by simp [hs])
      rw [h5] at hx
      exact Array.ext' hx
    rw [← e]
    exact hh
/-- a member into its place -/
theorem wpList_store_mb (hgd : o.guard = none) (T : TypeId) (x y : Operand) (ho : o.op = .store T x y) (g q i : Nat) (hx : a.eval x = .pointer (some ⟨g, q, none⟩)) (hq : q = i * 6)
    (u : MbS) (hy : a.eval y = .agg (mbV u).toArray) (hs : (P.info? T).map (·.size) = some 6) (T' : TypeId) (us : List MbS) (hg : ObjAt w g T' (mbCells us)) (hi : i < us.length)
    (K : ∀ w', ObjAt w' g T' (mbCells (us.set i u)) → TurnB w w' g → wpList P ops Q rest (a.put o.dst undef) w') : wpList P ops Q (o :: rest) a w := by
  subst hq
  refine wpList_plain hgd fun K' hK => ?_
  have hb : i * 6 + 0 + (mbV u).length ≤ (mbCells us).toArray.size := by
    rw [List.size_toArray, mbCells_len]; simp; omega
  have hst := run_storeCells_at (P := P) g (i * 6) T' (mbV u) 0 (mbCells us).toArray w hg hb (mbV_one u)
  have e : ((mbCells us).toArray.toList.take (i * 6 + 0) ++ mbV u ++ (mbCells us).toArray.toList.drop (i * 6 + 0 + (mbV u).length)).toArray = (mbCells (us.set i u)).toArray := by
    rw [← mbCells_set us i u hi]; simp
  rw [e] at hst
  cases hq : P.info? T with
  | none => simp [hq] at hs
  | some j =>
    have hj : j.size = 6 := by simpa [hq] using hs
    have hrun : (storeVar T ⟨g, i * 6, none⟩ (.agg (mbV u).toArray)).run P w = .ok () (w.setRow g (mbCells (us.set i u)).toArray) := by
      have hsz : (Value.agg (mbV u).toArray).cells.size = 6 := rfl
      simp only [storeVar, Sem.run_bind, sizeOf, typeInfo, hsz]
      simp [hq, hj, Value.cells]
      exact hst
    unfold Oper.wp execOp
    simp only [ho, hx, hy, Instr.storeAt, Instr.sureAddr, Sem.run_bind, Sem.run_pure, Result.andThen_ok, hrun]
    have hT : Turned w (w.setRow g (mbCells (us.set i u)).toArray) g := ⟨_, rfl⟩
    exact hK _ _ (K _ (setRow_heap w g _ _ T' _ hg) ⟨fun hB => hT.below hB, fun hk => hT.other hk, hT.size⟩)
end
end Go.Proofs.YtinmkgpmoclcoaaDoor.Flt
/-
  Layer 14: the program's nodeMember and linkMember.
-/
namespace Go.Proofs.YtinmkgpmoclcoaaDoor.Flt
open Go.RowKit Go.Proofs.YtinmkgpmoclcoaaDoor.Fit Tre

theorem mbT : ObjT Tryd.prog 30 6 := ⟨⟨_, Tryd.underlying30⟩, by kernel_rfl⟩
theorem zMb : (Tryd.prog.info? 30).map (·.zero) = some (some (.agg (mbC 0 emp 0 emp 0 none 0 0).toArray)) := by kernel_rfl
theorem mb_one (k : Int) (p : ByteArray) (m : Int) (t : ByteArray) (s : Int) (a : Option Addr) (n cap : Nat) : ∀ v ∈ mbC k p m t s a n cap, v.oneCell' = true := by simp [Value.oneCell']

set_option maxHeartbeats 2000000 in
theorem linkM_any (k : Int) (p : ByteArray) (m : Int) (t : ByteArray) (a : Option Addr) (n cap : Nat) (c : Int) (q : ByteArray) (w : World) :
    Calls Tryd.prog 37 #[.agg (ndL k p m t a n cap c).toArray, .string q] w fun e w' => e = .returned (.agg (mbC 3 p m q 0 none 0 0).toArray) ∧ Below w.heap.size w w' := by
  have MZ := Lib.hid zMb
  have MO := Lib.hid mbT
  go_enter Tryd.func37, Tryd.ntmps37
  go_wp2_with (first | (refine wpList_box_obj rfl 55 _ rfl (ndL k p m t a n cap c) rfl ?_; intro w1 g1 b1; have G1 := Lib.hid g1; have B1 := Lib.hid b1; clear g1 b1) | (refine wpList_alloc_obj rfl 30 rfl (mbC 0 emp 0 emp 0 none 0 0) MZ.out ?_; intro w2 g2 b2; have G2 := Lib.hid g2; have K1 := Lib.hid (G1.out.below b2 G1.out.lt); have B2 := Lib.hid (belT B1.out b2); have c1 := K1.out.get 1 rfl; have c2 := K1.out.get 2 rfl; clear g2 b2) | (refine wpList_store_obj rfl 30 _ _ rfl w1.heap.size rfl (mbC 3 p m q 0 none 0 0) (mbC 0 emp 0 emp 0 none 0 0) rfl 30 G2.out MO.out.2 rfl (mb_one _ _ _ _ _ _ _ _) ?_; intro w3 g3 t3; have G3 := Lib.hid g3; have B3 := Lib.hid (B2.out.trans (t3.below B1.out.size)); clear g3 t3))
  exact bodyPost_ret (results_obj Tryd.results37 MO.out _ w1.heap.size rfl _ _ G3.out rfl) rfl ⟨rfl, B3.out⟩

set_option maxHeartbeats 2000000 in
theorem nodeM_any (k : Int) (p : ByteArray) (m : Int) (t : ByteArray) (a : Option Addr) (n cap : Nat) (c : Int) (w : World) :
    Calls Tryd.prog 38 #[.agg (ndL k p m t a n cap c).toArray] w fun e w' => e = .returned (.agg (mbC k p m t n a n cap).toArray) ∧ Below w.heap.size w w' := by
  have MZ := Lib.hid zMb
  have MO := Lib.hid mbT
  have EZ := Lib.hid zEn
  have EO := Lib.hid enT
  go_enter Tryd.func38, Tryd.ntmps38
  go_wp2_with (first | (refine wpList_box_obj rfl 55 _ rfl (ndL k p m t a n cap c) rfl ?_; intro w1 g1 b1; have G1 := Lib.hid g1; have B1 := Lib.hid b1; clear g1 b1) | (refine wpList_alloc_obj rfl 30 rfl (mbC 0 emp 0 emp 0 none 0 0) MZ.out ?_; intro w2 g2 b2; have G2 := Lib.hid g2; have N1 := Lib.hid G1.out.lt; have K1 := Lib.hid (G1.out.below b2 G1.out.lt); have B2 := Lib.hid (belT B1.out b2); have c0 := K1.out.get 0 rfl; have c1 := K1.out.get 1 rfl; have c2 := K1.out.get 2 rfl; have c3 := K1.out.get 3 rfl; have c4 := K1.out.get 4 rfl; clear g2 b2) | (refine wpList_alloc_obj rfl 27 rfl (enV 0 emp 0 emp 0) EZ.out ?_; intro w3 g3 b3; have G3 := Lib.hid g3; have N2 := Lib.hid G2.out.lt; have K2 := Lib.hid (K1.out.below b3 K1.out.lt); have G23 := Lib.hid (G2.out.below b3 G2.out.lt); have B3 := Lib.hid (belT B2.out b3); clear g3 b3 c0 c1 c2 c3 c4) | (refine wpList_store_obj rfl 27 _ _ rfl w2.heap.size rfl (enV k p m t n) (enV 0 emp 0 emp 0) rfl 27 G3.out EO.out.2 rfl (en_one _ _ _ _ _) ?_; intro w4 g4 t4; have G4 := Lib.hid g4; have G24 := Lib.hid (G23.out.turned t4 (Nat.ne_of_lt N2.out)); have K4 := Lib.hid (K2.out.turned t4 (Nat.ne_of_lt (Nat.lt_trans N1.out N2.out))); have B4 := Lib.hid (B3.out.trans (t4.below B2.out.size)); have c4 := K4.out.get 4 rfl; have d0 := G4.out.get 0 rfl; have d1 := G4.out.get 1 rfl; have d2 := G4.out.get 2 rfl; have d3 := G4.out.get 3 rfl; have d4 := G4.out.get 4 rfl; clear g4 t4) | (refine wpList_store_obj rfl 30 _ _ rfl w1.heap.size rfl (mbC k p m t n a n cap) (mbC 0 emp 0 emp 0 none 0 0) rfl 30 G24.out MO.out.2 rfl (mb_one _ _ _ _ _ _ _ _) ?_; intro w5 g5 t5; have G5 := Lib.hid g5; have B5 := Lib.hid (B4.out.trans (t5.below B1.out.size)); clear g5 t5))
  exact bodyPost_ret (results_obj Tryd.results38 MO.out _ w1.heap.size rfl _ _ G5.out rfl) rfl ⟨rfl, B5.out⟩
end Go.Proofs.YtinmkgpmoclcoaaDoor.Flt
