/-
  A heap of strings as an object (a struct of one slice), and the methods of its slice type. (Scratch: names of types as in our own copy.)
-/
import Derived.Test.YtjokgiheabmolaaHepPop
import Derived.Test.YtjokgiheabmolaaMthRun
import Derived.Test.YtjokgiheabmolaaRegion
import Derived.Test.YtjokgiheabmolaaOnly
import Derived.Test.YtjokgiheabmolaaCellArm
namespace Go.Proofs.Ytjokgiheabmolaa.Hep
open Go.RowKit

theorem own_onlyB {S : Nat → Prop} {w w' : World} {base n size : Nat} {e : TypeId} {v : Value} {xs : List Value} (h : w.ownsRow base e size v n xs) (ho : Only S w w') (hb : ∀ k, v.ownBlock = some k → ¬ S k) : w'.ownsRow base e size v n xs := by
  obtain ⟨h1, h2⟩ := h
  refine ⟨h1, h2.imp id ?_⟩
  rintro ⟨g, cap, cur, hv, hbg, hg, r⟩
  have hlt : g < w.heap.size := (Array.getElem?_eq_some_iff.1 hg).1
  exact ⟨g, cap, cur, hv, hbg, (ho.block g hlt (hb g (by rw [hv]; rfl))).trans hg, r⟩
/-- the heap at block g shows l; since w0 only blocks of S0 and new ones have turned -/
def HO (w0 : World) (S0 : Nat → Prop) (g : Nat) (w : World) (l : List ByteArray) : Prop :=
  ∃ a cap, ∃ S : Nat → Prop, ObjAt w g 48 [.slice a l.length cap] ∧ w.ownsRow 0 9 1 (.slice a l.length cap) l.length (ssC l) ∧ S g ∧ (∀ x, a = some x → S x.block) ∧ (∀ k, S k → S0 k ∨ w0.heap.size ≤ k) ∧ (∀ k, S k → k < w.heap.size) ∧ Only S0 w0 w
theorem HO.below {w0 w w' : World} {S0 : Nat → Prop} {g : Nat} {l : List ByteArray} (h : HO w0 S0 g w l) (hb : Below w.heap.size w w') : HO w0 S0 g w' l := by
  obtain ⟨a, cap, S, h1, h2, h3, h4, h5, h6, h7⟩ := h
  exact ⟨a, cap, S, h1.below hb h1.lt, own_stay' h2 hb (Nat.le_refl _), h3, h4, h5, fun k hk => Nat.lt_of_lt_of_le (h6 k hk) hb.size, h7.trans (.of_below hb (Nat.le_refl _))⟩
theorem less_le (x y : ByteArray) : decide (¬ Le y x) = Op.bytesLess x.toList y.toList := by
  rw [Bool.eq_iff_iff]
  simp [Le]

set_option maxRecDepth 100000 in
set_option maxHeartbeats 2000000 in
theorem less_any (a : Option Addr) (n cap : Nat) (l : List ByteArray) (i j : Nat) (w : World) (ha : ArgSs w a n cap l) (hi : i < n) (hj : j < n) :
    Calls Try.prog 44 #[.slice a n cap, .int .i64 i, .int .i64 j] w fun e w' => e = .returned (.bool (decide (¬ Le (g l j) (g l i)))) ∧ Below w.heap.size w w' := by
  obtain ⟨b, off, y, rfl, hb, hy, hs, hat, c0⟩ := ha.get i hi
  obtain ⟨b', off', z, hbe, hb', hz, hs', hat', c1⟩ := ha.get j hj
  injection hbe with hbe; injection hbe with e1 e2
  subst e1; subst e2
  have ey : g l i = y := by unfold g; rw [hy]; rfl
  have ez : g l j = z := by unfold g; rw [hz]; rfl
  rw [ey, ez, less_le]
  have q0 : ∀ q : Of (fun w' => Below w.heap.size w w'), q.w.cell? ⟨b, off + i, none⟩ = some (.string y) := fun q => hat.below q.h hb i y hy
  have q1 : ∀ q : Of (fun w' => Below w.heap.size w w'), q.w.cell? ⟨b, off + j, none⟩ = some (.string z) := fun q => hat.below q.h hb j z hz
  have i1 : (i : Int) < n := by omega
  have j1 : (j : Int) < n := by omega
  have i2 : (i : Int) < cap := by have := ha.c; omega
  have j2 : (j : Int) < cap := by have := ha.c; omega
  clear ha hi hj hy hz hs hs' hat hat' c0 c1 ey ez hb hb'
  go_enter Try.func44, Try.ntmps44
  go_wp2_with fail
  refine wp_region_class (S := fun w' => Below w.heap.size w w') (by kernel_rfl) (by kernel_rfl) (Below.refl _ _).drew ?_
  intro hne'
  repeat (go_big_quiet_step (fail))
  refine wpQuiet_nil ?_
  rintro wq ⟨q, rfl⟩
  go_wp2
  go_ret
  exact ⟨rfl, q.h⟩
end Go.Proofs.Ytjokgiheabmolaa.Hep
