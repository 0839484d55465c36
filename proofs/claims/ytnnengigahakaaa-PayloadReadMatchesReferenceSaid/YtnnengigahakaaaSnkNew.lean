/-
  Layer 5: the walk of New.
-/
import Derived.Test.YtnnengigahakaaaSnkObj
namespace Go.Proofs.Ytnnengigahakaaa
open Go.RowKit

set_option maxHeartbeats 4000000 in
theorem snk_new (ca : Option Addr) (cl cc : Nat) (cs : List Int) (F : Int) (w : World) (hi : InK .i64 w ca cs) (hcl : cs.length = cl) (hc : cl ≤ 1000) :
    Calls Try.prog 16 #[.agg #[.slice ca cl cc, .int .i64 F]] w fun e w' => ∃ m, e = .returned (.pointer (some ⟨m, 0, none⟩)) ∧
      Snk w' (fun k => w.heap.size ≤ k ∧ k < w'.heap.size) m [] F cs 0 ∧ Below w.heap.size w w' := by
  have HI := Lib.hid hi; have HCL := Lib.hid hcl; have HC := Lib.hid hc
  clear hi hcl hc
  go_enter Try.func16, Try.ntmps16
  go_wp2_with (refine wpList_box_obj rfl 25 _ rfl [.slice ca cl cc, .int .i64 F] rfl ?_; intro w1 h1 b1; have H1 := Lib.hid h1; have B1 := Lib.hid b1; have c0 := h1.get 0 rfl; have c1 := h1.get 1 rfl; clear h1 b1)
  refine (iclone ca cl cc cs w1 (HI.out.below B1.out) HCL.out (by have := HC.out; omega)).mono ?_; rintro e w2 ⟨v2, rfl, o2, b2⟩
  obtain ⟨sa, sc, rfl, i2, _, _, _, x2⟩ := own_any o2
  have H2 := Lib.hid (H1.out.below b2 H1.out.lt)
  have g0 := H2.out.get 0 rfl; have g1 := H2.out.get 1 rfl; have f0 := H2.out.frozen 0
  have B2 := Lib.hid b2; have I2 := Lib.hid i2; have X2 := Lib.hid x2
  clear o2 b2 i2 x2 c0 c1
  have Z1 := B1.out.size; have Z2 := B2.out.size; have L1 := H1.out.lt
  go_wp2_with (first | (refine wpList_box_obj rfl 77 _ rfl [.slice sa cl sc, .int .i64 F, .slice none 0 0, .int .i64 0] rfl ?_; intro w6 h6 b6; have H6 := Lib.hid h6; have B6 := Lib.hid b6; clear h6 b6))
  go_ret
  obtain ⟨ws, hs⟩ := named (w2.setCell ⟨w.heap.size, 0, none⟩ (.slice sa cl sc))
  have hz : ws.heap.size = w2.heap.size := by rw [hs.out]; simp [World.setCell]
  have BS : Below w.heap.size w2 ws := by rw [hs.out]; exact (Below.refl w.heap.size w2).setCell (p := ⟨w.heap.size, 0, none⟩) (Nat.le_refl _) _
  have IS : InK .i64 ws sa cs := by rw [hs.out]; exact I2.out.set _ fun x hx => by have := (X2.out x hx).1; omega
  have h6 := H6.out; have b6 := B6.out
  rw [← hs.out, hz] at h6
  rw [← hs.out] at b6
  have l6 := h6.lt
  refine ⟨w2.heap.size, rfl, ⟨none, 0, sa, sc, by rw [HCL.out]; exact h6, ⟨rfl, .inl ⟨rfl, rfl⟩⟩, fun z hz => (by simp at hz), IS.below b6, by rw [HCL.out]; exact HC.out, by simp, ?_, fun k hk => hk.2, fun x hx => (by cases hx), fun x hx => ?_, Nat.zero_le _, fun h => by simpa using h⟩, ((B1.out.trans (B2.out.mono Z1)).trans BS).trans (b6.mono (by omega))⟩
  · exact ⟨by omega, l6⟩
  · have := X2.out x hx
    exact ⟨⟨by omega, by omega⟩, by omega, fun y hy => by cases hy⟩
end Go.Proofs.Ytnnengigahakaaa
