/-
  A slice of structs of two strings that came in, opened; what the reach says of the strings. Nothing of the program.
-/
import Derived.Test.YtokjmehecfjhmaaDoorRowsArg
import Derived.Test.YtokjmehecfjhmaaDoorPxrSize
import Derived.Deep.Strs
namespace Go.Proofs.YtokjmehecfjhmaaDoor.Pxr
open Go.RowKit Go.ChangeShapes Go.Deep

/-- WHAT A WALK IS TOLD OF A SLICE OF RECORDS THAT CAME IN -/
structure ArgRecs (w : World) (a : Option Addr) (len cap : Nat) (rs : List Rec) : Prop where
  n : rs.length = len
  c : len ≤ cap
  m : cap ≤ maxLen
  r : RecsIn w a rs
  s : ∀ q ∈ rs, q.1.size ≤ 140737488355328 ∧ q.2.size ≤ 140737488355328

section
variable {H : Type} {enc : TypeId × Value → H} {P : Program} {w : World} {base : Nat} {held : Bool}

theorem open_recs {t e : TypeId} {f0 f1 : Field} {a : Option Addr} {len cap : Nat} {d : DataW H} {p : List MemPlace}
    (ht : P.underlying t = some (.slice e)) (he : P.underlying e = some (.struct #[f0, f1])) (h0 : P.underlying f0.type = some .string) (h1 : P.underlying f1.type = some .string)
    (hs : (P.cellsOf e, f0.offset, P.cellsOf f0.type, f1.offset, P.cellsOf f1.type) = (2, 0, 1, 1, 1))
    (h : DataW.Trod enc P w base (fun _ => true) held t (.slice a len cap) d p) (hw : ∀ n ∈ d.weights P t, n ≤ reachBytes) : ∃ rs, ArgRecs w a len cap rs := by
  simp only [Prod.mk.injEq] at hs
  obtain ⟨s1, s2, s3, s4, s5⟩ := hs
  obtain ⟨fuel, hf⟩ := h
  rcases open_slice ht hf with ⟨hcs, _⟩ | ⟨x, len', cap', m, n, D, Pl, hcs, _, hl, hm, hmm, hd, hx⟩
  · simp [Value.cells] at hcs
    obtain ⟨rfl, rfl, rfl⟩ := hcs
    exact ⟨[], rfl, Nat.le_refl _, Nat.zero_le _, .inl rfl, fun _ h => by cases h⟩
  · simp [Value.cells] at hcs
    obtain ⟨rfl, rfl, rfl⟩ := hcs
    simp only [if_true] at hmm
    simp only [Prod.mk.injEq] at hd
    obtain ⟨rfl, _⟩ := hd
    have hreach := reachBytes_lt
    have each : ∀ i, i < m → ∃ y : Rec, w.cell? (x.add (i * 2)) = some (.string y.1) ∧ w.cell? (x.add (i * 2 + 1)) = some (.string y.2) ∧ (i < len → y.1.size ≤ 140737488355328 ∧ y.2.size ≤ 140737488355328) := by
      intro i hi
      obtain ⟨cs', g1, g2⟩ := hx i hi
      rw [s1] at g1
      obtain ⟨_, hlen, hcell⟩ := World.cells?_some g1
      obtain ⟨xs, k, _, hxe, _, hxl, hfd⟩ := DataW.trod_struct he g2
      match cs', hlen with
      | [v0, v1], _ =>
      match xs, hxl with
      | [y0, y1], _ =>
      have u0 := hfd 0 f0 rfl
      have u1 := hfd 1 f1 rfl
      rw [s2, s3] at u0
      rw [s4, s5] at u1
      simp at u0 u1
      obtain ⟨k0, e0, x0, _⟩ := DataW.trod_string h0 u0
      obtain ⟨k1, e1, x1, _⟩ := DataW.trod_string h1 u1
      simp only [List.cons.injEq, and_true] at e0 e1
      subst e0; subst e1
      have c0 := hcell 0 (by omega)
      have c1 := hcell 1 (by omega)
      rw [add_add] at c0 c1
      simp at c0 c1
      refine ⟨(k0, k1), c0, c1, fun hil => ?_⟩
      simp only [Prod.mk.injEq] at hxe
      have hD : D i = .agg [.lit (.string k0.data.toList), .lit (.string k1.data.toList)] := by
        rw [hxe.1, x0, x1]; rfl
      have hmem : ∀ z, z ∈ (D i).weights P e → z ≤ reachBytes := fun z hz => hw z (by
        simp only [DataW.weights, ht, List.mem_cons, List.mem_append]
        exact .inr (.inl (weightsAll_mem (x := D i) hz _ (List.mem_map.2 ⟨i, by simpa using hil, rfl⟩))))
      have b0 := hmem k0.data.toList.length (by rw [hD]; simp [DataW.weights, DataW.weightsEach, he])
      have b1 := hmem k1.data.toList.length (by rw [hD]; simp [DataW.weights, DataW.weightsEach, he])
      rw [← Lib.size_eq] at b0 b1
      exact ⟨by show k0.size ≤ _; omega, by show k1.size ≤ _; omega⟩
    obtain ⟨A, hA⟩ := choose_lt each
    refine ⟨(List.range len).map A, by simp, hl, hm, ?_, fun y hy => ?_⟩
    · rcases Nat.eq_zero_or_pos len with h0' | h0'
      · subst h0'; exact .inl rfl
      · have hc0 := (hA 0 (by omega)).1
        obtain ⟨b, off, spot⟩ := x
        have hspot : spot = none := by simpa [Addr.add] using World.cell?_spot hc0
        subst hspot
        refine .inr ⟨b, off, rfl, ?_, fun i y hy => ?_⟩
        · exact World.block_lt_of_cell? w (⟨b, off, none⟩ : Addr) (by simpa [Go.WideShapes.add_plain] using hc0)
        · rw [List.getElem?_map] at hy
          have hi : i < len := by
            rcases Nat.lt_or_ge i len with h | h
            · exact h
            · rw [List.getElem?_eq_none (by simpa using h)] at hy; cases hy
          rw [List.getElem?_range hi] at hy
          obtain rfl := Option.some.inj hy
          obtain ⟨c0, c1, _⟩ := hA i (by omega)
          rw [Go.WideShapes.add_plain] at c0 c1
          exact ⟨c0, by rw [Nat.add_assoc]; exact c1⟩
    · obtain ⟨r, hr', rfl⟩ := List.mem_map.1 hy
      have hlt : r < len := by simpa using hr'
      exact (hA r (by omega)).2.2 hlt
end
end Go.Proofs.YtokjmehecfjhmaaDoor.Pxr
