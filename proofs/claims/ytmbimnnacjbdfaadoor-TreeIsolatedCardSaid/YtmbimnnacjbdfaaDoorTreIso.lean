/-
  Layer 13: nodes of the call's own whose data and paths are overwritten: what stays readable.
-/
import Derived.Test.YtmbimnnacjbdfaaDoorTreCan
namespace Go.Proofs.YtmbimnnacjbdfaaDoor.Tre
open Go.RowKit Go.Proofs.YtmbimnnacjbdfaaDoor.Fit

/-- row g and its nodes' data, all behind B, can be written -/
structure IsoW (B g : Nat) (zs : List NdS) (w : World) : Prop where
  big : B ≤ g
  fz : ∀ j, w.frozen? ⟨g, j, none⟩ = false
  at_ : ∀ i y, zs[i]? = some y → w.cell? ⟨g, i * 6 + 4, none⟩ = some (.slice y.a y.n.d.length y.cap) ∧ (∃ p, w.cell? ⟨g, i * 6 + 1, none⟩ = some (.string p)) ∧
    (0 < y.n.d.length → ∃ b, y.a = some ⟨b, 0, none⟩ ∧ B ≤ b ∧ b ≠ g ∧ (∀ j, w.frozen? ⟨b, j, none⟩ = false) ∧ ∀ k, k < y.n.d.length → ∃ x : Int, w.cell? ⟨b, k, none⟩ = some (.int .u8 x))
theorem IsoW.data {B g : Nat} {zs : List NdS} {w : World} (h : IsoW B g zs w) {b k : Nat} (hb : b ≠ g) (x : Int) : IsoW B g zs (w.setCell ⟨b, k, none⟩ (.int .u8 x)) := by
  refine ⟨h.big, fun j => by rw [World.frozen?_setCell]; exact h.fz j, fun i y hi => ?_⟩
  obtain ⟨h1, ⟨p, h2⟩, h3⟩ := h.at_ i y hi
  have o : ∀ j, (⟨g, j, none⟩ : Addr) ≠ ⟨b, k, none⟩ := fun j e => hb (by injection e with e; exact e.symm)
  refine ⟨by rw [World.cell?_setCell_other (h := by intro e; exact o _ e.symm) ..]; exact h1, ⟨p, by rw [World.cell?_setCell_other (h := by intro e; exact o _ e.symm) ..]; exact h2⟩, fun hl => ?_⟩
  obtain ⟨b', e1, e2, e3, e4, e5⟩ := h3 hl
  refine ⟨b', e1, e2, e3, fun j => by rw [World.frozen?_setCell]; exact e4 j, fun k' hk' => ?_⟩
  obtain ⟨x', hx'⟩ := e5 k' hk'
  by_cases e : b' = b ∧ k' = k
  · obtain ⟨rfl, rfl⟩ := e
    exact ⟨x, World.cell?_setCell_same (h := hx') ..⟩
  · refine ⟨x', ?_⟩
    rw [World.cell?_setCell_other (h := by intro h; injection h with h1 h2; exact e ⟨h1.symm, h2.symm⟩) ..]
    exact hx'
theorem IsoW.path {B g : Nat} {zs : List NdS} {w : World} (h : IsoW B g zs w) {i : Nat} {y : NdS} (hi : zs[i]? = some y) (p : ByteArray) : IsoW B g zs (w.setCell ⟨g, i * 6 + 1, none⟩ (.string p)) := by
  refine ⟨h.big, fun j => by rw [World.frozen?_setCell]; exact h.fz j, fun i' y' hi' => ?_⟩
  obtain ⟨h1, ⟨p', h2⟩, h3⟩ := h.at_ i' y' hi'
  refine ⟨by rw [World.cell?_setCell_other (h := by intro e; injection e with _ e; omega) ..]; exact h1, ?_, fun hl => ?_⟩
  · by_cases e : i' = i
    · subst e
      exact ⟨p, World.cell?_setCell_same (h := h2) ..⟩
    · exact ⟨p', by rw [World.cell?_setCell_other (h := by intro e; injection e with _ e; omega) ..]; exact h2⟩
  · obtain ⟨b', e1, e2, e3, e4, e5⟩ := h3 hl
    refine ⟨b', e1, e2, e3, fun j => by rw [World.frozen?_setCell]; exact e4 j, fun k' hk' => ?_⟩
    obtain ⟨x', hx'⟩ := e5 k' hk'
    exact ⟨x', by rw [World.cell?_setCell_other (h := by intro h; injection h with h1 h2; exact e3 h1.symm) ..]; exact hx'⟩
/-- what Canon hands back can be overwritten -/
theorem iso_of {w w' : World} {g n cap : Nat} {zs : List NdS} (hA : ArgNds w' (some ⟨g, 0, none⟩) n cap zs) (hf : ∀ z ∈ zs, Frs w.heap.size w' z) (hg : w.heap.size ≤ g) (hz : ∀ k, w'.frozen? ⟨g, k, none⟩ = false) (h0 : 0 < n) : IsoW w.heap.size g zs w' := by
  have hat : NdsAt w' g 0 zs := by
    rcases hA.r with h | ⟨b, off, h1, _, h3⟩
    · have := hA.n; rw [h] at this; simp at this; omega
    · injection h1 with h1; injection h1 with e1 e2
      subst e1; subst e2
      exact h3
  refine ⟨hg, hz, fun i y hi => ?_⟩
  obtain ⟨c0, c1, c2, c3, c4, c5⟩ := hat.c hi
  rw [Nat.zero_add] at c1 c4
  refine ⟨c4, ⟨_, c1⟩, fun hl => ?_⟩
  have hr := hf y (List.mem_of_getElem? hi)
  unfold Frs at hr
  obtain ⟨hlen, hr⟩ := hr
  rcases hr with ⟨_, h⟩ | ⟨b, cap', cur, hv, hb, hh, hc, hm, hs, ht⟩
  · omega
  · injection hv with e1 _ _
    refine ⟨b, e1, hb, ?_, fun j => by unfold World.frozen?; rw [hh]; simp, fun k hk => ?_⟩
    · rintro rfl
      have hpos : 0 < zs.length := by rw [hA.n]; exact h0
      obtain ⟨q, _⟩ := hat.c (List.getElem?_eq_getElem hpos)
      have := congrArg (fun l => l[0]?) ht
      simp only [List.getElem?_take] at this
      unfold World.cell? at q
      rw [hh] at q
      rw [if_pos (by omega), List.getElem?_map, List.getElem?_eq_getElem hl] at this
      simp at q this
      rw [this] at q
      cases q
    · refine ⟨y.n.d[k], ?_⟩
      have := congrArg (fun l => l[k]?) ht
      simp only [List.getElem?_take] at this
      rw [if_pos (by omega), List.getElem?_map, List.getElem?_eq_getElem hk] at this
      unfold World.cell?
      rw [hh]
      simpa using this
section
variable {P : Program} {w : World} {ops : Array Oper} {rest : List Oper} {o : Oper} {a : Act} {Q : Exit → Act → World → Prop}
/-- a store of one cell, wherever it lies -/
theorem wpList_store_at (hgd : o.guard = none) (T : TypeId) (x y : Operand) (ho : o.op = .store T x y) (g i : Nat) (hx : a.eval x = .pointer (some ⟨g, i, none⟩))
    (v : Value) (hy : a.eval y = v) (h1 : v.oneCell' = true) (hs : (P.info? T).map (·.size) = some 1) (u : Value) (hc : w.cell? ⟨g, i, none⟩ = some u) (hf : w.frozen? ⟨g, i, none⟩ = false)
    (K : ∀ w', w' = w.setCell ⟨g, i, none⟩ v → wpList P ops Q rest (a.put o.dst undef) w') : wpList P ops Q (o :: rest) a w := by
  refine wpList_plain hgd fun K' hK => ?_
  have hv : v.cells = #[v] := by cases v <;> first | rfl | (simp [Value.oneCell'] at h1)
  cases hq : P.info? T with
  | none => simp [hq] at hs
  | some j =>
    have hj : j.size = 1 := by simpa [hq] using hs
    have ha : (⟨g, i, none⟩ : Addr).add 0 = ⟨g, i, none⟩ := add_plain' g i 0
    have hrun : (storeVar T ⟨g, i, none⟩ v).run P w = .ok () (w.setCell ⟨g, i, none⟩ v) := by
      simp [storeVar, sizeOf, typeInfo, hq, hj, hv, storeCells, run_store P w _ v _ h1, ha, hc, hf]
    unfold Oper.wp execOp
    simp only [ho, hx, hy, Instr.storeAt, Instr.sureAddr, Sem.run_bind, Sem.run_pure, Result.andThen_ok, hrun]
    exact hK _ _ (K _ rfl)
end
end Go.Proofs.YtmbimnnacjbdfaaDoor.Tre
