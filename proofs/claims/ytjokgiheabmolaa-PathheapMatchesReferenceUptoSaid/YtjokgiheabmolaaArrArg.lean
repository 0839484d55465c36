/-
  An array of integers that came in by value, opened; a copy into the midst of a row of the call's own. Nothing of the program.
-/
import Derived.Test.YtjokgiheabmolaaArr
import Derived.Deep.RegionLaw
namespace Go.Proofs.Ytjokgiheabmolaa
open Go.RowKit Go.ChangeShapes

theorem okWide_arr {P : Program} {w : World} {r : Reach} {b0 : Nat} {t e : TypeId} {n : Nat} {v : Value} (ht : P.underlying t = some (.array n e)) (h : Value.okWide P w r b0 t v) : ∃ cs, v = .agg cs := by
  unfold Value.okWide at h
  rw [ht] at h
  obtain ⟨cs, h, _⟩ := h
  exact ⟨cs, h⟩

theorem open_arr {H : Type} {enc : TypeId × Value → H} {P : Program} {w : World} {base : Nat} {spare : Nat → Bool} {held : Bool} {t e : TypeId} {n : Nat} {k : IntKind} {cs : Array Value} {d : DataW H} {p : List MemPlace}
    (ht : P.underlying t = some (.array n e)) (he : P.underlying e = some (.int k)) (hce : P.cellsOf e = 1) (hct : P.cellsOf t = n) (h : DataW.Trod enc P w base spare held t (.agg cs) d p) :
    ∃ zs : List Int, cs = (zs.map (Value.int k)).toArray ∧ zs.length = n ∧ ∀ z ∈ zs, (Lit.int k z).wf = true := by
  obtain ⟨fuel, hf⟩ := h
  obtain ⟨xs, m, _, _, hl, hx, hi⟩ := DataW.trod_array ht hf
  simp only [Value.cells] at hl hi
  rw [hct] at hl
  have cell : ∀ i, i < n → ∃ z : Int, cs.toList[i]? = some (.int k z) ∧ (Lit.int k z).wf = true := by
    intro i h
    have h1 := hi i h
    rw [hce, Nat.mul_one, List.getElem?_eq_getElem (by omega)] at h1
    obtain ⟨z, h2, _, h3⟩ := DataW.trod_int he h1
    refine ⟨z, ?_, h3⟩
    have h4 := congrArg (fun l : List Value => l[0]?) h2
    simp only [List.getElem?_take, List.getElem?_drop, Nat.add_zero] at h4
    simpa using h4
  refine ⟨cs.toList.map intOf, ?_, by simpa using hl, ?_⟩
  · apply Array.ext'
    rw [List.map_map]
    apply List.ext_getElem?
    intro i
    by_cases h : i < n
    · obtain ⟨z, hz, _⟩ := cell i h
      simp only [List.getElem?_map, hz]
      rfl
    · rw [List.getElem?_eq_none (by omega), List.getElem?_eq_none (by rw [List.length_map]; omega)]
  · intro z hz
    obtain ⟨v, hv, rfl⟩ := List.mem_map.1 hz
    obtain ⟨i, hi'⟩ := List.getElem?_of_mem hv
    have hlt : i < n := by
      rcases Nat.lt_or_ge i n with h | h
      · exact h
      · rw [List.getElem?_eq_none (by omega)] at hi'; cases hi'
    obtain ⟨z, hz, hw⟩ := cell i hlt
    rw [hi'] at hz
    obtain rfl := Option.some.inj hz
    exact hw

theorem Bytes.of_wf {zs : List Int} (h : ∀ z ∈ zs, (Lit.int .u8 z).wf = true) : Bytes zs := fun z hz => bounds_u8 (h z hz)

/-- the cells of a row of the call's own -/
theorem own_cells {w : World} {base n : Nat} {e : TypeId} {v : Value} {zs : List Int} (h : w.ownsRow base e 1 v n (zs.map (.int .u8))) (hn : 0 < n) :
    ∃ g cap, ∃ L : List Value, v = .slice (some ⟨g, 0, none⟩) n cap ∧ base ≤ g ∧ g < w.heap.size ∧ w.heap[g]? = some (.cells L.toArray e (0, 0)) ∧ L.length = cap ∧ L.take n = zs.map (.int .u8) ∧ n ≤ cap ∧ cap ≤ maxLen := by
  rcases h.2 with ⟨_, h'⟩ | ⟨g, cap, cur, rfl, hb, hg, hc, hm, hs, ht⟩
  · omega
  · exact ⟨g, cap, cur.toList, rfl, hb, (own_lt h).2, by simpa using hg, by simpa using hs, by simpa using ht, hc, hm⟩
theorem splice_take (L : List Value) (zs ys : List Int) (off n : Nat) (hL : L.take n = zs.map (.int .u8)) (hn : zs.length = n) (hf : off + ys.length ≤ n) : (splice L off (ys.map (.int .u8))).take n = (lay zs off ys).map (.int .u8) := by
  obtain ⟨r, rfl⟩ : ∃ r, L = zs.map (.int .u8) ++ r := ⟨L.drop n, by rw [← hL, List.take_append_drop]⟩
  have hl : (zs.map (Value.int .u8)).length = n := by rw [List.length_map, hn]
  have e1 : (zs.map (Value.int .u8) ++ r).take off = (zs.map (Value.int .u8)).take off := List.take_append_of_le_length (by omega)
  have e2 : (zs.map (Value.int .u8) ++ r).drop (off + (ys.map (Value.int .u8)).length) = (zs.map (Value.int .u8)).drop (off + (ys.map (Value.int .u8)).length) ++ r := List.drop_append_of_le_length (by rw [List.length_map]; omega)
  unfold splice lay
  rw [e1, e2, ← List.append_assoc, ← List.append_assoc, List.take_left' (by simp; omega)]
  simp
theorem RowAt.of_cells {w : World} {g n : Nat} {e : TypeId} {L : List Value} {zs : List Int} (hg : w.heap[g]? = some (.cells L.toArray e (0, 0))) (hL : L.take n = zs.map (.int .u8)) (hn : zs.length = n) (hz : Bytes zs) : RowAt w g 0 zs := by
  refine ⟨fun i hi => ?_, hz⟩
  rw [Nat.zero_add, cell_of_row w g i _ _ _ hg]
  have h := congrArg (fun l : List Value => l[i]?) hL
  simp only [List.getElem?_take, if_pos (show i < n by omega), List.getElem?_map, List.getElem?_eq_getElem hi] at h
  simp only [List.getElem?_toArray, h, List.getD_eq_getElem?_getD, List.getElem?_eq_getElem hi]
  rfl
end Go.Proofs.Ytjokgiheabmolaa
