/-
  Swap of a type over []string whose row is the call's own.
-/
import Derived.Test.YtjokgiheabmolaaHepObj
import Derived.Shelf.RegionOpenPlain
namespace Go.Proofs.Ytjokgiheabmolaa.Hep
open Go.RowKit

set_option maxRecDepth 100000 in
set_option maxHeartbeats 2000000 in
theorem swap_any (b n cap i j : Nat) (y z : ByteArray) (w : World) (hi : i < n) (hj : j < n) (hc : n ≤ cap)
    (h1 : w.cell? ⟨b, i, none⟩ = some (.string y)) (h2 : w.cell? ⟨b, j, none⟩ = some (.string z)) (hf : ∀ k, w.frozen? ⟨b, k, none⟩ = false) :
    Calls Try.prog 47 #[.slice (some ⟨b, 0, none⟩) n cap, .int .i64 i, .int .i64 j] w fun e w' => e = .returned (.tuple #[]) ∧ w' = ((w.setCell ⟨b, i, none⟩ (.string z)).setCell ⟨b, j, none⟩ (.string y)).drew := by
  have q1 : w.drew.cell? ⟨b, i, none⟩ = some (.string y) := h1
  have q2 : w.drew.cell? ⟨b, j, none⟩ = some (.string z) := h2
  have f1 : w.drew.frozen? ⟨b, i, none⟩ = false := hf i
  have f2 : w.drew.frozen? ⟨b, j, none⟩ = false := hf j
  have q3 : (w.setCell ⟨b, i, none⟩ (.string z)).drew.cell? ⟨b, j, none⟩ = some (.string z) := by
    show (w.setCell ⟨b, i, none⟩ (.string z)).cell? ⟨b, j, none⟩ = _
    by_cases e : i = j
    · subst e
      exact World.cell?_setCell_same w _ _ h1
    · rw [World.cell?_setCell_other (h := fun c => e (Addr.mk.inj c).2.1)]
      exact h2
  have f3 : (w.setCell ⟨b, i, none⟩ (.string z)).drew.frozen? ⟨b, j, none⟩ = false := by
    show (w.setCell ⟨b, i, none⟩ (.string z)).frozen? ⟨b, j, none⟩ = _
    rw [World.frozen?_setCell]
    exact hf j
  have i1 : (i : Int) < n := by omega
  have j1 : (j : Int) < n := by omega
  have i2 : (i : Int) < cap := by omega
  have j2 : (j : Int) < cap := by omega
  have mixed : Try.prog.follows .mixedOrders = true := by kernel_rfl
  clear hi hj hc h1 h2 hf
  go_enter Try.func47, Try.ntmps47
  go_wp2_with fail
  go_big_region_o
  all_goals go_wp2
  all_goals exact bodyPost_end (results_none Try.results47 _ _ _) rfl ⟨rfl, rfl⟩
end Go.Proofs.Ytjokgiheabmolaa.Hep
