/-
  Layer 13: nodes with other class numbers in another order: plain mathematics.
-/
import Derived.Test.YtmbimnnacjbdfaaDoorSrtSwap
import Derived.Test.YtmbimnnacjbdfaaDoorPk07
namespace Go.Proofs.YtmbimnnacjbdfaaDoor.Tre
open Go.RowKit Go.Proofs.YtmbimnnacjbdfaaDoor.Fit Pnm Go.Sort

theorem byte_bounds {x : Int} (h : (Lit.int .u8 x).wf = true) : 0 ≤ x ∧ x ≤ 255 := by
  have e1 : IntKind.u8.min = 0 := by decide
  have e2 : IntKind.u8.max = 255 := by decide
  simp [Lit.wf] at h
  omega
theorem _root_.Go.Proofs.YtmbimnnacjbdfaaDoor.ArgInts.at_ {k : IntKind} {w : World} {a : Option Addr} {len cap : Nat} {zs : List Int} (h : ArgInts k w a len cap zs) (h0 : 0 < len) :
    ∃ b off, a = some ⟨b, off, none⟩ ∧ b < w.heap.size ∧ ∀ i, i < len → w.cell? ⟨b, off + i, none⟩ = some (.int k (zs.getD i 0)) := by
  obtain ⟨h1, _, _, _, h5⟩ := h
  rcases h5 with h5 | ⟨b, off, e, hb, hc⟩
  · omega
  · exact ⟨b, off, e, hb, fun i hi => hc i (by omega)⟩
theorem _root_.Go.Proofs.YtmbimnnacjbdfaaDoor.ArgInts.byte {w : World} {a : Option Addr} {len cap : Nat} {zs : List Int} (h : ArgInts .u8 w a len cap zs) {i : Nat} : 0 ≤ zs.getD i 0 ∧ zs.getD i 0 ≤ 255 := by
  obtain ⟨_, _, _, h4, _⟩ := h
  rcases Nat.lt_or_ge i zs.length with hi | hi
  · rw [List.getD_eq_getElem?_getD, List.getElem?_eq_getElem hi]
    exact byte_bounds (h4 _ (List.getElem_mem hi))
  · rw [List.getD_eq_getElem?_getD, List.getElem?_eq_none hi]
    exact ⟨Int.le_refl _, by decide⟩

def rnC (b c : Int) : Int := if 0 < c ∧ c < 1000 then 1000 * b + 2000 - c else c
abbrev rnS (b : Int) (y : NdS) : NdS := ⟨{ y.n with c := rnC b y.n.c }, y.a, y.cap⟩
def rnL (b : Int) (ys : List NdS) (j : Nat) : List NdS := (ys.take j).map (rnS b) ++ ys.drop j
theorem rnL_zero (b : Int) (ys : List NdS) : rnL b ys 0 = ys := rfl
theorem rnL_all (b : Int) (ys : List NdS) : rnL b ys ys.length = ys.map (rnS b) := by
  unfold rnL; rw [List.take_of_length_le (Nat.le_refl _), List.drop_eq_nil_of_le (Nat.le_refl _), List.append_nil]
theorem rnL_at {b : Int} {ys : List NdS} {j : Nat} {y : NdS} (h : ys[j]? = some y) : (rnL b ys j)[j]? = some y := by
  have hj := (List.getElem?_eq_some_iff.mp h).1
  unfold rnL
  rw [List.getElem?_append_right (by rw [List.length_map, List.length_take]; omega), List.length_map, List.length_take, List.getElem?_drop, ← h]
  congr 1
  omega
theorem rnL_step {b : Int} {ys : List NdS} {j : Nat} {y : NdS} (h : ys[j]? = some y) : (rnL b ys j).set j (rnS b y) = rnL b ys (j + 1) := by
  obtain ⟨hj, he⟩ := List.getElem?_eq_some_iff.mp h
  unfold rnL
  rw [List.take_add_one, h, List.drop_eq_getElem_cons hj, he, List.map_append, List.set_append_right _ _ (by rw [List.length_map, List.length_take]; omega)]
  have e : j - ((ys.take j).map (rnS b)).length = 0 := by rw [List.length_map, List.length_take]; omega
  rw [e]
  simp
theorem rnL_same {b : Int} {ys : List NdS} {j : Nat} {y : NdS} (h : ys[j]? = some y) (hc : rnC b y.n.c = y.n.c) : rnL b ys (j + 1) = rnL b ys j := by
  rw [← rnL_step h]
  have e : rnS b y = y := by
    obtain ⟨⟨k, p, m, t, d, c⟩, a, cap⟩ := y
    show (⟨⟨k, p, m, t, d, rnC b c⟩, a, cap⟩ : NdS) = _
    rw [show rnC b c = c from hc]
  rw [e]
  refine List.ext_getElem? fun i => ?_
  by_cases hi : i = j
  · subst hi
    rw [List.getElem?_set_self (List.getElem?_eq_some_iff.mp (rnL_at (b := b) h)).1, rnL_at h]
  · rw [List.getElem?_set_ne (fun e => hi e.symm)]
theorem swl_perm {l : List NdS} {i j : Nat} (hi : i < l.length) (hj : j < l.length) : (Stab.swl l i j).Perm l := by
  have e : Stab.swl l i j = (l.set i l[j]).set j l[i] := by
    unfold Stab.swl
    have g1 := Stab.g_some hi
    have g2 := Stab.g_some hj
    rw [List.getElem?_eq_getElem hi] at g1
    rw [List.getElem?_eq_getElem hj] at g2
    rw [← Option.some.inj g1, ← Option.some.inj g2]
  rw [e]
  exact List.set_set_perm hi hj
theorem ren_same {ys us : List NdS} {b : Int} (hb : 0 ≤ b) (hp : us.Perm (ys.map (rnS b))) (hv : Val (nds ys)) (hc : ∀ y ∈ ys, y.n.c < 1000) : canon (nds us) = canon (nds ys) := by
  have mem : ∀ x ∈ nds ys, x.c < 1000 := fun x hx => by
    obtain ⟨y, hy, rfl⟩ := List.mem_map.mp hx
    exact hc y hy
  refine canon_ren (g := rnC b) hv.apt ?_ (fun x hx => ?_) fun x hx y hy h1 h2 e => ?_
  · have := hp.map NdS.n
    unfold nds
    rw [List.map_map] at this ⊢
    exact this
  · have := mem x hx
    unfold rnC
    split <;> omega
  · have := mem x hx
    have := mem y hy
    unfold rnC at e
    rw [if_pos (by omega), if_pos (by omega)] at e
    omega
theorem rnC_wf {b c : Int} (h0 : 0 ≤ b) (h1 : b ≤ 255) (hc : (Lit.int .i64 c).wf = true) : (Lit.int .i64 (rnC b c)).wf = true := by
  unfold rnC
  split
  · rename_i h
    have e1 : IntKind.i64.min = -9223372036854775808 := by decide
    have e2 : IntKind.i64.max = 9223372036854775807 := by decide
    simp [Lit.wf]
    omega
  · exact hc
theorem NdF.ren {w : World} {y : NdS} {b : Int} (h : NdF w y) (h0 : 0 ≤ b) (h1 : b ≤ 255) : NdF w (rnS b y) := ⟨h.k, h.p, h.m, h.t, h.d, h.l, rnC_wf h0 h1 h.c⟩
theorem ren_mem {w : World} {ys us : List NdS} {b : Int} (hp : us.Perm (ys.map (rnS b))) (hf : ∀ y ∈ ys, NdF w y) (h0 : 0 ≤ b) (h1 : b ≤ 255) : ∀ u ∈ us, NdF w u := fun u hu => by
  obtain ⟨y, hy, rfl⟩ := List.mem_map.mp (hp.mem_iff.mp hu)
  exact (hf y hy).ren h0 h1
theorem SW.frz {w0 W : World} {g : Nat} {ys : List NdS} (h : SW w0 g ys W) (hg : g < w0.heap.size) (hf : ∀ j, w0.frozen? ⟨g, j, none⟩ = false) : ∀ j, W.frozen? ⟨g, j, none⟩ = false := fun j => by
  obtain ⟨m, os, rfl⟩ := h
  unfold sortWorldK
  rw [frozen?_grow _ _ _ (by show g < (putRowK _ _ _ _ _ _).heap.size; rw [size_putRowK]; exact hg)]
  unfold putRowK
  rw [frozen?_putRow]
  exact hf j
end Go.Proofs.YtmbimnnacjbdfaaDoor.Tre
