/-
  Layer 15: nodes of the call's own whose data and classes are overwritten: what stays readable. Bytes of the call's own, overwritten.
-/
import Derived.Test.YtinmkgpmoclcoaaDoorPz18
import Derived.Test.YtinmkgpmoclcoaaDoorRebBd
namespace Go.Proofs.YtinmkgpmoclcoaaDoor.Reb
open Go.RowKit Go.Proofs.YtinmkgpmoclcoaaDoor.Fit Pnm Tre Flt

/-- row g and its nodes' data, all behind B, can be written -/
structure IsoC (B g : Nat) (zs : List NdS) (w : World) : Prop where
  big : B ≤ g
  fz : ∀ j, w.frozen? ⟨g, j, none⟩ = false
  at_ : ∀ i y, zs[i]? = some y → w.cell? ⟨g, i * 6 + 4, none⟩ = some (.slice y.a y.n.d.length y.cap) ∧ (∃ p : Int, w.cell? ⟨g, i * 6 + 5, none⟩ = some (.int .i64 p)) ∧
    (0 < y.n.d.length → ∃ b, y.a = some ⟨b, 0, none⟩ ∧ B ≤ b ∧ b ≠ g ∧ (∀ j, w.frozen? ⟨b, j, none⟩ = false) ∧ ∀ k, k < y.n.d.length → ∃ x : Int, w.cell? ⟨b, k, none⟩ = some (.int .u8 x))
theorem IsoC.data {B g : Nat} {zs : List NdS} {w : World} (h : IsoC B g zs w) {b k : Nat} (hb : b ≠ g) (x : Int) : IsoC B g zs (w.setCell ⟨b, k, none⟩ (.int .u8 x)) := by
  refine ⟨h.big, fun j => by rw [World.frozen?_setCell]; exact h.fz j, fun i y hi => ?_⟩
  obtain ⟨h1, ⟨p, h2⟩, h3⟩ := h.at_ i y hi
  have o : ∀ j, (⟨g, j, none⟩ : Addr) ≠ ⟨b, k, none⟩ := fun j e => hb (by injection e with e; exact e.symm)
  refine ⟨by rw [World.cell?_setCell_other (h := by intro e; exact o _ e.symm) ..]; exact h1, ⟨p, by rw [World.cell?_setCell_other (h := by intro e; exact o _ e.symm) ..]; exact h2⟩, fun hl => ?_⟩
  obtain ⟨b', e1, e2, e3, e4, e5⟩ := h3 hl
  refine ⟨b', e1, e2, e3, fun j => by rw [World.frozen?_setCell]; exact e4 j, fun k' hk' => ?_⟩
  obtain ⟨x', hx'⟩ := e5 k' hk'
  by_cases e : b' = b ∧ k' = k
  · obtain ⟨rfl, rfl⟩ := e
    exact ⟨x, World.cell?_setCell_same (h := hx') ..⟩
  · refine ⟨x', ?_⟩
    rw [World.cell?_setCell_other (h := by intro h; injection h with h1 h2; exact e ⟨h1.symm, h2.symm⟩) ..]
    exact hx'
theorem IsoC.cls {B g : Nat} {zs : List NdS} {w : World} (h : IsoC B g zs w) {i : Nat} {y : NdS} (hi : zs[i]? = some y) (p : Int) : IsoC B g zs (w.setCell ⟨g, i * 6 + 5, none⟩ (.int .i64 p)) := by
  refine ⟨h.big, fun j => by rw [World.frozen?_setCell]; exact h.fz j, fun i' y' hi' => ?_⟩
  obtain ⟨h1, ⟨p', h2⟩, h3⟩ := h.at_ i' y' hi'
  refine ⟨by rw [World.cell?_setCell_other (h := by intro e; injection e with _ e; omega) ..]; exact h1, ?_, fun hl => ?_⟩
  · by_cases e : i' = i
    · subst e
      exact ⟨p, World.cell?_setCell_same (h := h2) ..⟩
    · exact ⟨p', by rw [World.cell?_setCell_other (h := by intro e; injection e with _ e; omega) ..]; exact h2⟩
  · obtain ⟨b', e1, e2, e3, e4, e5⟩ := h3 hl
    refine ⟨b', e1, e2, e3, fun j => by rw [World.frozen?_setCell]; exact e4 j, fun k' hk' => ?_⟩
    obtain ⟨x', hx'⟩ := e5 k' hk'
    exact ⟨x', by rw [World.cell?_setCell_other (h := by intro h; injection h with h1 h2; exact e3 h1.symm) ..]; exact hx'⟩
/-- what Canon hands back can be overwritten -/
theorem isoC_of {w w' : World} {g n cap : Nat} {zs : List NdS} (hA : ArgNds w' (some ⟨g, 0, none⟩) n cap zs) (hf : ∀ z ∈ zs, Frs w.heap.size w' z) (hg : w.heap.size ≤ g) (hz : ∀ k, w'.frozen? ⟨g, k, none⟩ = false) (h0 : 0 < n) : IsoC w.heap.size g zs w' := by
  have hat : NdsAt w' g 0 zs := by
    rcases hA.r with h | ⟨b, off, h1, _, h3⟩
    · have := hA.n; rw [h] at this; simp at this; omega
    · injection h1 with h1; injection h1 with e1 e2
      subst e1; subst e2
      exact h3
  refine ⟨hg, hz, fun i y hi => ?_⟩
  obtain ⟨c0, c1, c2, c3, c4, c5⟩ := hat.c hi
  rw [Nat.zero_add] at c5 c4
  refine ⟨c4, ⟨_, c5⟩, fun hl => ?_⟩
  have hr := hf y (List.mem_of_getElem? hi)
  unfold Frs at hr
  obtain ⟨hlen, hr⟩ := hr
  rcases hr with ⟨_, h⟩ | ⟨b, cap', cur, hv, hb, hh, hc, hm, hs, ht⟩
  · omega
  · injection hv with e1 _ _
    refine ⟨b, e1, hb, ?_, fun j => by unfold World.frozen?; rw [hh]; simp, fun k hk => ?_⟩
    · rintro rfl
      have hpos : 0 < zs.length := by rw [hA.n]; exact h0
      obtain ⟨q, _⟩ := hat.c (List.getElem?_eq_getElem hpos)
      have := congrArg (fun l => l[0]?) ht
      simp only [List.getElem?_take] at this
      unfold World.cell? at q
      rw [hh] at q
      rw [if_pos (by omega), List.getElem?_map, List.getElem?_eq_getElem hl] at this
      simp at q this
      rw [this] at q
      cases q
    · refine ⟨y.n.d[k], ?_⟩
      have := congrArg (fun l => l[k]?) ht
      simp only [List.getElem?_take] at this
      rw [if_pos (by omega), List.getElem?_map, List.getElem?_eq_getElem hk] at this
      unfold World.cell?
      rw [hh]
      simpa using this
/-- bytes of the call's own, off the blocks of S, which can be written -/
def OwnW (B : Nat) (S : Nat → Prop) (a : Option Addr) (L : Nat) (w : World) : Prop := 0 < L → ∃ b, a = some ⟨b, 0, none⟩ ∧ B ≤ b ∧ ¬ S b ∧ (∀ j, w.frozen? ⟨b, j, none⟩ = false) ∧ ∀ k, k < L → ∃ x : Int, w.cell? ⟨b, k, none⟩ = some (.int .u8 x)
theorem OwnW.set {B L b k : Nat} {S : Nat → Prop} {a : Option Addr} {w : World} (h : OwnW B S a L w) (x : Int) : OwnW B S a L (w.setCell ⟨b, k, none⟩ (.int .u8 x)) := fun h0 => by
  obtain ⟨b', e1, e2, e3, e4, e5⟩ := h h0
  refine ⟨b', e1, e2, e3, fun j => by rw [World.frozen?_setCell]; exact e4 j, fun k' hk' => ?_⟩
  obtain ⟨x', hx'⟩ := e5 k' hk'
  by_cases e : b' = b ∧ k' = k
  · obtain ⟨rfl, rfl⟩ := e
    exact ⟨x, World.cell?_setCell_same (h := hx') ..⟩
  · refine ⟨x', ?_⟩
    rw [World.cell?_setCell_other (h := by intro h; injection h with h1 h2; exact e ⟨h1.symm, h2.symm⟩) ..]
    exact hx'
theorem ownW_of {w : World} {B L c : Nat} {e : TypeId} {S : Nat → Prop} {a : Option Addr} {zs : List Int} (h : w.ownsRow B e 1 (.slice a L c) L (zs.map (.int .u8))) (hS : ∀ k, (Value.slice a L c).ownBlock = some k → ¬ S k) : OwnW B S a L w := fun h0 => by
  have hl := h.1
  rw [List.length_map, Nat.mul_one] at hl
  rcases h.2 with ⟨_, hn⟩ | ⟨b, cap', cur, hv, hb, hh, hc, hm, hs, ht⟩
  · omega
  · injection hv with e1 _ _
    subst e1
    refine ⟨b, rfl, hb, hS b rfl, fun j => by unfold World.frozen?; rw [hh]; simp, fun k hk => ?_⟩
    have hkz : k < zs.length := by omega
    refine ⟨zs[k], ?_⟩
    have := congrArg (fun l => l[k]?) ht
    simp only [List.getElem?_take] at this
    rw [if_pos (by omega), List.getElem?_map, List.getElem?_eq_getElem hkz] at this
    unfold World.cell?
    rw [hh]
    simpa using this
theorem set_only {T : Nat → Prop} {w0 w : World} {b k : Nat} (h : Only T w0 w) (hb : T b) (v : Value) : Only T w0 (w.setCell ⟨b, k, none⟩ v) := h.setCell (.inl hb) v
end Go.Proofs.YtinmkgpmoclcoaaDoor.Reb
