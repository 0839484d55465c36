/-
  Layer 14: a row of members that grows, each with data of the call's own.
-/
import Derived.Test.YtmbimnnacjbdfaaDoorFltKeep
namespace Go.Proofs.YtmbimnnacjbdfaaDoor.Flt
open Go.RowKit Go.Proofs.YtmbimnnacjbdfaaDoor.Fit Pnm Tre

/-- a member's data are the call's own -/
def FrsM (B : Nat) (w : World) (u : MbS) : Prop := w.ownsRow B 5 1 (.slice u.a u.n.d.length u.cap) u.n.d.length (u.n.d.map (.int .u8))
/-- what of a member does not depend on memory -/
structure MbSt (u : MbS) : Prop where
  k : (Lit.int .i64 u.n.e.k).wf = true
  p : u.n.e.p.size ≤ 140737488355328
  m : (Lit.int .i64 u.n.e.m).wf = true
  t : u.n.e.t.size ≤ 140737488355328
  s : (Lit.int .i64 u.n.e.s).wf = true
  z : ∀ z ∈ u.n.d, (Lit.int .u8 z).wf = true
  l : u.n.d.length ≤ 140737488355328
theorem MbSt.f {B : Nat} {w : World} {u : MbS} (h : MbSt u) (hf : FrsM B w u) : MbF w u := by
  obtain ⟨b, cap', hv, hi, hc, hm, hl, hx⟩ := own_any hf
  injection hv with e1 _ e3
  refine ⟨h.k, h.p, h.m, h.t, h.s, ?_, h.l⟩
  rw [e1, e3]
  refine ⟨rfl, hc, hm, h.z, ?_⟩
  rcases Nat.eq_zero_or_pos u.n.d.length with h0 | h0
  · exact .inl h0
  · obtain ⟨b', off, rfl, hlt⟩ := hi.plain h0
    exact .inr ⟨b', off, rfl, hlt, fun i hi' => hi.get i hi'⟩
theorem frsM_nil (B : Nat) (w : World) (e : Ent) : FrsM B w ⟨⟨e, []⟩, none, 0⟩ := ⟨rfl, .inl ⟨rfl, rfl⟩⟩
theorem FrsM.below {B : Nat} {w w' : World} {u : MbS} (h : FrsM B w u) (hb : Below w.heap.size w w') : FrsM B w' u := own_stay' h hb (Nat.le_refl _)
theorem FrsM.kept {B C j : Nat} {w w' : World} {u : MbS} {v : Value} {us : List MbS} (h : FrsM C w u) (ho : w.ownsRow B 46 6 v j (mbCells us)) (hk : ∀ k, k < w.heap.size → some k ≠ v.ownBlock → w'.heap[k]? = w.heap[k]?) : FrsM C w' u := by
  obtain ⟨h1, h2⟩ := h
  refine ⟨h1, h2.imp id ?_⟩
  rintro ⟨b, cap, cur', hv, hb, hh, r⟩
  have hlt : b < w.heap.size := (Array.getElem?_eq_some_iff.1 hh).1
  refine ⟨b, cap, cur', hv, hb, (hk b hlt ?_).trans hh, r⟩
  rcases ho.2 with ⟨e, _⟩ | ⟨g, c, cur, e, _, hg, _⟩
  · subst e; intro h; cases h
  · subst e
    intro h
    have h : some b = some g := h
    injection h with h
    subst h
    rw [hh] at hg
    injection hg with hg
    injection hg with _ hg _
    exact absurd hg (by decide)
/-- the reference's row so far -/
structure RM (B : Nat) (C : List Nd) (w : World) (us : List MbS) (j : Nat) (v : Value) : Prop where
  own : w.ownsRow B 46 6 v j (mbCells us)
  el : ∀ i u, us[i]? = some u → u.n = mb C i ∧ MbSt u ∧ FrsM B w u
theorem RM.len {B : Nat} {C : List Nd} {w : World} {us : List MbS} {j : Nat} {v : Value} (h : RM B C w us j v) : us.length = j := by
  have := h.own.1; rw [mbCells_len] at this; omega
theorem RM.below {B : Nat} {C : List Nd} {w w' : World} {us : List MbS} {j : Nat} {v : Value} (h : RM B C w us j v) (hb : Below w.heap.size w w') : RM B C w' us j v :=
  ⟨own_stay' h.own hb (Nat.le_refl _), fun i u hu => ⟨(h.el i u hu).1, (h.el i u hu).2.1, (h.el i u hu).2.2.below hb⟩⟩
theorem RM.next {B : Nat} {C : List Nd} {w w' : World} {us : List MbS} {j : Nat} {v v' : Value} (h : RM B C w us j v) {u : MbS} (hn : u.n = mb C j) (hs : MbSt u) (hf : FrsM B w u)
    (ho : w'.ownsRow B 46 6 v' (j + 1) (mbCells (us ++ [u]))) (hk : ∀ k, k < w.heap.size → some k ≠ v.ownBlock → w'.heap[k]? = w.heap[k]?) : RM B C w' (us ++ [u]) (j + 1) v' := by
  refine ⟨ho, fun i x hx => ?_⟩
  have hl := h.len
  by_cases hi : i < us.length
  · rw [List.getElem?_append_left hi] at hx
    obtain ⟨h1, h2, h3⟩ := h.el i x hx
    exact ⟨h1, h2, h3.kept h.own hk⟩
  · rw [List.getElem?_append_right (by omega)] at hx
    have : i - us.length = 0 := by
      have := (List.getElem?_eq_some_iff.mp hx).1
      simp at this; omega
    rw [this] at hx
    obtain rfl : u = x := by simpa using hx
    have : i = j := by omega
    subst this
    exact ⟨hn, hs, hf.kept h.own hk⟩
theorem RM.done {B : Nat} {C : List Nd} {w : World} {us : List MbS} {n : Nat} {v : Value} (h : RM B C w us n v) (hn : C.length = n) : mms us = mbs C ∧ ∀ u ∈ us, MbF w u := by
  have hl := h.len
  constructor
  · refine List.ext_getElem? fun i => ?_
    by_cases hi : i < n
    · have e : us[i]? = some us[i] := List.getElem?_eq_getElem (by omega)
      rw [mms_at e, mbs_at (by omega), (h.el i _ e).1]
    · rw [List.getElem?_eq_none (by rw [mms_len]; omega), List.getElem?_eq_none (by rw [mbs_len]; omega)]
  · intro u hu
    obtain ⟨i, hi, rfl⟩ := List.getElem_of_mem hu
    obtain ⟨_, h2, h3⟩ := h.el i _ (List.getElem?_eq_getElem hi)
    exact h2.f h3
end Go.Proofs.YtmbimnnacjbdfaaDoor.Flt
