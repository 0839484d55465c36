/-
  The reference's Chunk (layer 4).
-/
import Derived.Test.YtnnengigahakaaaElem
namespace Go.Proofs.Ytnnengigahakaaa
open Go.RowKit

set_option maxRecDepth 100000 in
set_option maxHeartbeats 4000000 in
theorem rchunk_any (sa : Option Addr) (sc : Nat) (cs : List Int) (F : Int) (r : Nat) (w : World) (hi : InK .i64 w sa cs) (hl : cs.length ≤ 1000) :
    Calls Try.prog 37 #[.agg #[.slice sa cs.length sc, .int .i64 F], .int .i64 r] w fun e w' => e = .returned (.int .i64 (chunkZ cs r)) ∧ Below w.heap.size w w' := by
  have HI := Lib.hid hi; have HL := Lib.hid hl
  clear hi hl
  by_cases hz : cs.length = 0
  · have HZ := Lib.hid hz
    rw [hz]
    clear hz
    go_enter Try.func37, Try.ntmps37
    go_wp2_with (refine wpList_box_obj rfl 25 _ rfl [.slice sa 0 sc, .int .i64 F] rfl ?_; intro w1 h1 b1; have B1 := Lib.hid b1; have c0 := h1.get 0 rfl; have c1 := h1.get 1 rfl; clear h1 b1)
    go_ret
    refine ⟨?_, B1.out⟩
    unfold chunkZ; rw [if_pos HZ.out]; rfl
  · obtain ⟨L, hL⟩ := named cs.length
    obtain ⟨i, hI⟩ := named (r % cs.length)
    obtain ⟨d, hd⟩ := named (cs.getD i 0)
    have hlt : i < cs.length := by rw [hI.out]; exact Nat.mod_lt _ (by omega)
    obtain ⟨b, off, rfl, hb⟩ := HI.out.plain (by omega)
    have hck : Hid (chunkZ cs r = max d 1) := by show _ = _; unfold chunkZ; rw [if_neg hz, hd.out, hI.out]
    have HLT := Lib.hid hlt
    have hmod : (r : Int) % (L : Int) = (i : Int) := by rw [hI.out, hL.out]; omega
    have hlt' : (i : Int) < L := by rw [hL.out]; omega
    have hL0 : ¬ L = 0 := by rw [hL.out]; exact hz
    rw [← hL.out]
    clear hz hlt
    go_enter Try.func37, Try.ntmps37
    go_wp2_with (refine wpList_box_obj rfl 25 _ rfl [.slice (some ⟨b, off, none⟩) L sc, .int .i64 F] rfl ?_; intro w1 h1 b1; have B1 := Lib.hid b1; have c0 := h1.get 0 rfl; have c1 := h1.get 1 rfl; have cd := (HI.out.below b1).get i HLT.out; rw [← hd.out] at cd; clear h1 b1)
    go_quiet (fail)
    by_cases hd1 : d < 1
    · have HK : Hid (chunkZ cs r = 1) := by show _ = _; rw [hck.out]; omega
      go_wp2
      go_ret
      exact ⟨by rw [HK.out]; rfl, B1.out.trans (drewN_below _ _ _)⟩
    · have HK : Hid (chunkZ cs r = d) := by show _ = _; rw [hck.out]; omega
      go_wp2
      go_ret
      exact ⟨by rw [HK.out]; rfl, B1.out.trans (drewN_below _ _ _)⟩
end Go.Proofs.Ytnnengigahakaaa
