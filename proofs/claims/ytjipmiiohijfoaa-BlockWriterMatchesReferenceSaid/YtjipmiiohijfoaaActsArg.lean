/-
  A slice of structs of an integer, a slice of bytes and an integer that came in, opened. Nothing of the program.
-/
import Derived.Test.YtjipmiiohijfoaaRowsArg
import Derived.Deep.Strs
namespace Go.Proofs.Ytjipmiiohijfoaa
open Go.RowKit Go.ChangeShapes Go.Deep

/-- an element: the first integer; the slice's address, length, capacity, elements; the last integer -/
abbrev ActRow := Int × (Option Addr × Nat × Nat × List Int) × Int

/-- one element at w -/
def ArgAct (k0 k2 : IntKind) (w : World) (y : ActRow) : Prop := (Lit.int k0 y.1).wf = true ∧ ArgInts .u8 w y.2.1.1 y.2.1.2.1 y.2.1.2.2.1 y.2.1.2.2.2 ∧ (Lit.int k2 y.2.2).wf = true

/-- WHAT A WALK IS TOLD OF A SLICE OF SUCH STRUCTS THAT CAME IN -/
def ArgActs (k0 k2 : IntKind) (w : World) (a : Option Addr) (len cap : Nat) (acts : List ActRow) : Prop :=
  acts.length = len ∧ len ≤ cap ∧ cap ≤ maxLen ∧ (∀ y ∈ acts, ArgAct k0 k2 w y) ∧
  (len = 0 ∨ ∃ b off, a = some ⟨b, off, none⟩ ∧ b < w.heap.size ∧ ∀ i y, acts[i]? = some y → w.cell? ⟨b, off + i * 3, none⟩ = some (.int k0 y.1) ∧ w.cell? ⟨b, off + i * 3 + 1, none⟩ = some (.slice y.2.1.1 y.2.1.2.1 y.2.1.2.2.1) ∧ w.cell? ⟨b, off + i * 3 + 2, none⟩ = some (.int k2 y.2.2))

theorem ArgActs.below {k0 k2 : IntKind} {w w' : World} {a : Option Addr} {len cap : Nat} {acts : List ActRow} (h : ArgActs k0 k2 w a len cap acts) (hb : Below w.heap.size w w') : ArgActs k0 k2 w' a len cap acts := by
  obtain ⟨h1, h2, h3, h4, h5⟩ := h
  refine ⟨h1, h2, h3, fun y hy => ⟨(h4 y hy).1, (h4 y hy).2.1.below hb, (h4 y hy).2.2⟩, h5.imp id ?_⟩
  rintro ⟨b, off, h6, h7, h8⟩
  refine ⟨b, off, h6, Nat.lt_of_lt_of_le h7 hb.size, fun i y hi => ?_⟩
  obtain ⟨c0, c1, c2⟩ := h8 i y hi
  exact ⟨(hb.cell (p := ⟨b, off + i * 3, none⟩) h7).trans c0, (hb.cell (p := ⟨b, off + i * 3 + 1, none⟩) h7).trans c1, (hb.cell (p := ⟨b, off + i * 3 + 2, none⟩) h7).trans c2⟩
/-- element i -/
theorem ArgActs.get {k0 k2 : IntKind} {w : World} {a : Option Addr} {len cap : Nat} {acts : List ActRow} (h : ArgActs k0 k2 w a len cap acts) (i : Nat) (hi : i < len) :
    ∃ b off y, a = some ⟨b, off, none⟩ ∧ b < w.heap.size ∧ acts[i]? = some y ∧ y ∈ acts ∧ ArgAct k0 k2 w y ∧
      w.cell? ⟨b, off + i * 3, none⟩ = some (.int k0 y.1) ∧ w.cell? ⟨b, off + i * 3 + 1, none⟩ = some (.slice y.2.1.1 y.2.1.2.1 y.2.1.2.2.1) ∧ w.cell? ⟨b, off + i * 3 + 2, none⟩ = some (.int k2 y.2.2) := by
  obtain ⟨h1, h2, h3, h4, h5⟩ := h
  obtain ⟨b, off, h6, h7, h8⟩ := h5.resolve_left (by omega)
  have hg : acts[i]? = some acts[i] := List.getElem?_eq_getElem (by omega)
  exact ⟨b, off, acts[i], h6, h7, hg, List.getElem_mem _, h4 _ (List.getElem_mem _), h8 i _ hg⟩

section
variable {H : Type} {enc : TypeId × Value → H} {P : Program} {w : World} {base : Nat} {held : Bool}

instance : Inhabited ActRow := ⟨(0, (none, 0, 0, []), 0)⟩

theorem open_acts {t e q : TypeId} {f0 f1 f2 : Field} {k0 k2 : IntKind} {a : Option Addr} {len cap : Nat} {d : DataW H} {p : List MemPlace}
    (ht : P.underlying t = some (.slice e)) (he : P.underlying e = some (.struct #[f0, f1, f2])) (h0 : P.underlying f0.type = some (.int k0)) (h1 : P.underlying f1.type = some (.slice q)) (hq : P.underlying q = some (.int .u8)) (h2 : P.underlying f2.type = some (.int k2))
    (hs : (P.cellsOf e, f0.offset, P.cellsOf f0.type, f1.offset, P.cellsOf f1.type, f2.offset, P.cellsOf f2.type, P.cellsOf q) = (3, 0, 1, 1, 1, 2, 1, 1))
    (h : DataW.Trod enc P w base (fun _ => true) held t (.slice a len cap) d p) : ∃ acts, ArgActs k0 k2 w a len cap acts := by
  simp only [Prod.mk.injEq] at hs
  obtain ⟨s1, s2, s3, s4, s5, s6, s7, s8⟩ := hs
  obtain ⟨fuel, hf⟩ := h
  rcases open_slice ht hf with ⟨hcs, _⟩ | ⟨x, len', cap', m, n, D, Pl, hcs, _, hl, hm, hmm, _, hx⟩
  · simp [Value.cells] at hcs
    obtain ⟨rfl, rfl, rfl⟩ := hcs
    exact ⟨[], rfl, Nat.le_refl _, Nat.zero_le _, fun _ h => by simp at h, .inl rfl⟩
  · simp [Value.cells] at hcs
    obtain ⟨rfl, rfl, rfl⟩ := hcs
    simp only [if_true] at hmm
    have each : ∀ i, i < m → ∃ y : ActRow, ArgAct k0 k2 w y ∧ w.cell? (x.add (i * 3)) = some (.int k0 y.1) ∧ w.cell? (x.add (i * 3 + 1)) = some (.slice y.2.1.1 y.2.1.2.1 y.2.1.2.2.1) ∧ w.cell? (x.add (i * 3 + 2)) = some (.int k2 y.2.2) := by
      intro i hi
      obtain ⟨cs', g1, g2⟩ := hx i hi
      rw [s1] at g1
      obtain ⟨_, hlen, hcell⟩ := World.cells?_some g1
      obtain ⟨y0, y1, y2, j, _, _, u0, u1, u2⟩ := trod_struct3 he g2
      match cs', hlen with
      | [v0, v1, v2], _ =>
      rw [s2, s3] at u0
      rw [s4, s5] at u1
      rw [s6, s7] at u2
      simp at u0 u1 u2
      obtain ⟨z0, e0, _, w0⟩ := DataW.trod_int h0 u0
      obtain ⟨z2, e2, _, w2⟩ := DataW.trod_int h2 u2
      simp only [List.cons.injEq, and_true] at e0 e2
      subst e0; subst e2
      have c0 := hcell 0 (by omega)
      have c1 := hcell 1 (by omega)
      have c2 := hcell 2 (by omega)
      rw [add_add] at c0 c1 c2
      simp at c0 c1 c2
      rcases open_ints h1 hq s8 u1 with ⟨e1, _⟩ | ⟨x1, l1, k1, zs, e1, _, hl1, hm1, hz1, _, hcl, hwz⟩
      · simp only [List.cons.injEq, and_true] at e1
        subst e1
        exact ⟨(z0, (none, 0, 0, []), z2), ⟨w0, ArgInts.nil, w2⟩, c0, c1, c2⟩
      · simp only [List.cons.injEq, and_true] at e1
        subst e1
        exact ⟨(z0, (some x1, l1, k1, zs.take l1), z2), ⟨w0, ArgInts.mk' hl1 hm1 (by simpa using hz1) hcl hwz, w2⟩, c0, c1, c2⟩
    obtain ⟨A, hA⟩ := choose_lt each
    refine ⟨(List.range len).map A, by simp, hl, hm, fun y hy => ?_, ?_⟩
    · obtain ⟨r, hr', rfl⟩ := List.mem_map.1 hy
      exact (hA r (by have : r < len := by simpa using hr'
                      omega)).1
    · rcases Nat.eq_zero_or_pos len with h0' | h0'
      · exact .inl h0'
      · have hc0 := (hA 0 (by omega)).2.1
        obtain ⟨b, off, spot⟩ := x
        have hspot : spot = none := by simpa [Addr.add] using World.cell?_spot hc0
        subst hspot
        refine .inr ⟨b, off, rfl, ?_, fun i y hy => ?_⟩
        · exact World.block_lt_of_cell? w (⟨b, off, none⟩ : Addr) (by simpa [Go.WideShapes.add_plain] using hc0)
        · rw [List.getElem?_map] at hy
          have hi : i < len := by
            rcases Nat.lt_or_ge i len with h | h
            · exact h
            · rw [List.getElem?_eq_none (by simpa using h)] at hy; cases hy
          rw [List.getElem?_range hi] at hy
          obtain rfl := Option.some.inj hy
          obtain ⟨_, c0, c1, c2⟩ := hA i (by omega)
          rw [Go.WideShapes.add_plain] at c0 c1 c2
          exact ⟨c0, by rw [Nat.add_assoc]; exact c1, by rw [Nat.add_assoc]; exact c2⟩
end
end Go.Proofs.Ytjipmiiohijfoaa
