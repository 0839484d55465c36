/-
  Layer 14: the statements' own example, alive.
-/
import Derived.Test.YtmbimnnacjbdfaaDoorFltPMem
import Derived.Test.YtmbimnnacjbdfaaDoorEntEq
import Derived.Test.YtmbimnnacjbdfaaDoorPk12
namespace Go.Proofs.YtmbimnnacjbdfaaDoor.Flt
open Go.RowKit Go.Proofs.YtmbimnnacjbdfaaDoor.Fit Pnm Tre

abbrev fA : ByteArray := { data := #[97] }
abbrev fB : ByteArray := { data := #[98] }
abbrev exN (p : ByteArray) : NdS := ⟨⟨1, p, 0, emp, [], 1⟩, none, 0⟩
theorem fx_one : oneE (exN fA).n = 0 ∧ oneE (exN fB).n = 0 := by decide
theorem fx_par : parZ (key (exN fA).n) = [] ∧ parZ (key (exN fB).n) = [] := by decide
theorem fx_val : Val (nds [exN fB, exN fA]) := by
  refine ⟨fun x hx => ?_, ?_, fun x hx => ?_, fun x hx y hy _ _ => ?_⟩
  · simp [nds] at hx
    rcases hx with rfl | rfl
    · exact fx_one.2
    · exact fx_one.1
  · show List.Pairwise _ [(exN fB).n, (exN fA).n]
    simp
  · simp [nds] at hx
    rcases hx with rfl | rfl
    · exact .inl fx_par.2
    · exact .inl fx_par.1
  · simp [nds] at hx hy
    rcases hx with rfl | rfl <;> rcases hy with rfl | rfl <;> exact ⟨rfl, rfl⟩
theorem fx_chk : chk (nds [exN fB, exN fA]) = (2, 0) := chk_val fx_val
theorem fx_canon : canon (nds [exN fB, exN fA]) = [(exN fA).n, (exN fB).n] := by kernel_rfl
theorem fx_mbs : mbs (canon (nds [exN fB, exN fA])) = [⟨⟨1, fA, 0, emp, 0⟩, []⟩, ⟨⟨3, fB, 0, fA, 0⟩, []⟩] := by
  rw [fx_canon]; kernel_rfl
theorem fx_mbR : mbR (nds [exN fB, exN fA]) = [⟨⟨1, fA, 0, emp, 0⟩, []⟩, ⟨⟨3, fB, 0, fA, 0⟩, []⟩] := by
  unfold mbR; rw [fx_chk, if_pos rfl, fx_mbs]
theorem fx_fine (w : World) (p : ByteArray) (h : p.size ≤ 10) : NdF w (exN p) := ⟨(show (Lit.int .i64 1).wf = true by decide), by show p.size ≤ _; omega, (show (Lit.int .i64 0).wf = true by decide), by show emp.size ≤ _; decide, ArgInts.nil, Nat.zero_le _, (show (Lit.int .i64 1).wf = true by decide)⟩

set_option maxHeartbeats 2000000 in
set_option maxRecDepth 100000 in
theorem alive_any (w : World) (V : FVars w) : Calls Tryd.prog 15 #[] w fun e w' => e = .returned (.bool true) ∧ Below w.heap.size w w' := by
  have HV := Lib.hid V
  have I6 := Lib.hid IN6
  clear V
  have hg : Tryd.prog.eqGuardType Tryd.prog.depth 44 = false := by kernel_rfl
  have hq1 : ∀ w, (Op.equalIn 10000 44 (.agg (enV 3 fB 0 fA 0).toArray) (.agg (enV 3 fB 0 fA 0).toArray)).run Tryd.prog w = .ok true w := fun w => by rw [run_eqE]; simp
  go_enter Tryd.func15, Tryd.ntmps15
  go_wp2_with (first | (refine wpList_lit_nd2 rfl 22 32 _ _ rfl Tryd.underlying22 _ I6.out (exN fB) (exN fA) rfl rfl ?_; intro w1 g1 b1; have G1 := Lib.hid g1; have B1 := Lib.hid b1; clear g1 b1))
  have HA : ArgNds w1 (some ⟨w.heap.size, 0, none⟩) 2 2 [exN fB, exN fA] := ⟨rfl, Nat.le_refl _, by decide, .inr ⟨_, 0, rfl, G1.out.lt, .of_cells G1.out⟩, fun y hy => by
    simp at hy
    rcases hy with rfl | rfl
    · exact fx_fine _ _ (by decide)
    · exact fx_fine _ _ (by decide)⟩
  refine (pmem_any _ _ _ _ w1 (HV.out.go B1.out) HA (by decide)).mono ?_; rintro e w2 ⟨b, k, c, us, X1, X2, rfl, h1, h2, hm, hu, b2⟩
  rw [fx_chk] at h1 h2
  rw [fx_mbR] at hu
  subst h1; subst h2
  obtain ⟨u0, u1, rfl, e0, e1⟩ : ∃ u0 u1, us = [u0, u1] ∧ u0.n = ⟨⟨1, fA, 0, emp, 0⟩, []⟩ ∧ u1.n = ⟨⟨3, fB, 0, fA, 0⟩, []⟩ := by
    clear hm
    rcases us with _ | ⟨u0, _ | ⟨u1, _ | ⟨u2, us⟩⟩⟩
    · simp [mms] at hu
    · simp [mms] at hu
    · simp only [mms, List.map_cons, List.map_nil, List.cons.injEq, and_true] at hu
      exact ⟨u0, u1, rfl, hu.1, hu.2⟩
    · simp [mms] at hu
  obtain rfl : k = 2 := hm.n.symm
  have kc : (2 : Int) ≤ c := by have := hm.c; omega
  obtain ⟨bb, off, y, rfl, hb, hy, _, hat⟩ := hm.get 0 (by decide)
  obtain ⟨c0, c1, _, _, _, _⟩ := hat.c (i := 0) (y := u0) rfl
  obtain ⟨d0, d1, d2, d3, d4, _⟩ := hat.c (i := 1) (y := u1) rfl
  rw [e0] at c0 c1
  rw [e1] at d0 d1 d2 d3 d4
  have B2 := Lib.hid (belT B1.out b2)
  simp only [Nat.zero_mul, Nat.one_mul, Nat.add_zero] at c0 c1 d0 d1 d2 d3 d4
  clear hm hu hy hat HA e0 e1 b2
  go_wp2_with fail
  go_ret
  exact ⟨rfl, B2.out⟩
end Go.Proofs.YtmbimnnacjbdfaaDoor.Flt
