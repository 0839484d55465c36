/-
  Layer 15: the program's Nodes.
-/
import Derived.Test.YtinmkgpmoclcoaaDoorRebBd
namespace Go.Proofs.YtinmkgpmoclcoaaDoor.Reb
open Go.RowKit Go.MapKept Go.Proofs.YtinmkgpmoclcoaaDoor.Fit Pnm Tre Flt

/-- what Nodes hands back: the canonical nodes, in memory of its own -/
def NdsP (w : World) (A : List Mb) (n : Nat) (e : Ending) (w' : World) : Prop :=
  ∃ a c zs, e = .returned (.slice a n c) ∧ ArgNds w' a n c zs ∧ nds zs = canon (ndsOf A) ∧ (∀ z ∈ zs, Frs w.heap.size w' z) ∧ (∀ x, a = some x → w.heap.size ≤ x.block ∧ x.off = 0 ∧ ∀ k, w'.frozen? ⟨x.block, k, none⟩ = false) ∧ Below w.heap.size w w'
set_option maxHeartbeats 1000000 in
theorem pbnds_nil (w : World) : Calls Tryd.prog 11 #[.pointer none] w fun e w' => e = .returned (.slice none 0 0) ∧ w = w' := by
  go_enter Tryd.func11, Tryd.ntmps11
  go_wp2_with fail
  go_ret
  exact ⟨rfl, rfl⟩

set_option maxHeartbeats 2000000 in
theorem pbnds_any {w : World} {S : Nat → Prop} {g : Nat} {A : List Mb} (hb : PBd w S g A) (h40 : A.length ≤ 40) : Calls Tryd.prog 11 #[.pointer (some ⟨g, 0, none⟩)] w (NdsP w A A.length) := by
  obtain ⟨a, cap, gd, gf, n1, n2, Fd, Ff, us, h1, h2, h3⟩ := hb
  obtain ⟨n, hn⟩ := named A.length
  have HN : Hid (A.length = n) := hn.out.symm
  have EE : Hid (nds us = ndsOf A) := h1.e
  have CC : Hid (Calls Tryd.prog 30 #[.slice a n cap] w (CanP w n us)) := by
    have := canon_any a A.length cap us w h1.arg h40
    rw [HN.out] at this; exact this
  have c0 : w.cell? ⟨g, 0, none⟩ = some (.slice a n cap) := by rw [← HN.out]; exact h1.o.get 0 rfl
  rw [HN.out]
  clear h1 h2 h3 hn h40
  go_enter Tryd.func11, Tryd.ntmps11
  go_wp2_with fail
  refine CC.out.mono ?_; rintro e w1 ⟨x, c, zs, rfl, k1, k2, k3, k4, k5⟩
  have RES : Hid (NdsP w A n (.returned (.slice x n c)) w1) := ⟨x, c, zs, rfl, k1, by rw [k2, EE.out], k3, k4, k5⟩
  clear k1 k2 k3 k4 k5
  go_wp2_with fail
  go_ret
  exact RES.out
end Go.Proofs.YtinmkgpmoclcoaaDoor.Reb
