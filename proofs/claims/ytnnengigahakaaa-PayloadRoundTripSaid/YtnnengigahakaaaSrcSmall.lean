/-
  Walks of layer 4: the next chunk size.
-/
import Derived.Test.YtnnengigahakaaaBClone
import Derived.Test.YtnnengigahakaaaIClone
namespace Go.Proofs.Ytnnengigahakaaa
open Go.RowKit

/-- the chunks at c -/
def Chk (w : World) (c : Nat) (sa : Option Addr) (sc : Nat) (cs : List Int) (r : Nat) : Prop :=
  ObjAt w c 63 [.slice sa cs.length sc, .int .i64 (ixN cs r)] ∧ InK .i64 w sa cs ∧ cs.length ≤ 140737488355328 ∧ ∀ x, sa = some x → x.block ≠ c

set_option maxHeartbeats 1000000 in
theorem next_any (c : Nat) (sa : Option Addr) (sc : Nat) (cs : List Int) (r : Nat) (w : World) (h : Chk w c sa sc cs r) :
    Calls Try.prog 24 #[.pointer (some ⟨c, 0, none⟩)] w fun e w' => e = .returned (.int .i64 (chunkZ cs r)) ∧ Chk w' c sa sc cs (r + 1) ∧ Out c (c + 1) w w' := by
  have H := Lib.hid h
  obtain ⟨ho, hi, hm, hx⟩ := h
  have HO := Lib.hid ho
  by_cases hz : cs.length = 0
  · have HZ := Lib.hid hz
    have c0 : w.cell? ⟨c, 0, none⟩ = some (.slice sa 0 sc) := by have := ho.get 0 rfl; rwa [hz] at this
    clear ho hi hm hx hz
    go_enter Try.func24, Try.ntmps24
    go_wp2
    go_ret
    refine ⟨?_, ?_, .refl _ _ _⟩
    · unfold chunkZ; rw [if_pos HZ.out]; rfl
    · have := H.out
      unfold Chk ixN at this ⊢
      rw [if_pos HZ.out] at this ⊢
      exact this
  · obtain ⟨L, hL⟩ := named cs.length
    obtain ⟨i, hI⟩ := named (r % cs.length)
    obtain ⟨d, hd⟩ := named (cs.getD i 0)
    have e1 : ixN cs r = i := by unfold ixN; rw [if_neg hz, hI.out]
    have hlt : i < cs.length := by rw [hI.out]; exact Nat.mod_lt _ (by omega)
    obtain ⟨b, off, rfl, hb⟩ := hi.plain (by omega)
    have cd := hi.get i hlt
    have cf := ho.frozen 1
    rw [← hd.out] at cd
    have c0 : w.cell? ⟨c, 0, none⟩ = some (.slice (some ⟨b, off, none⟩) L sc) := by have := ho.get 0 rfl; rwa [← hL.out] at this
    have c1 : w.cell? ⟨c, 1, none⟩ = some (.int .i64 i) := by have := ho.get 1 rfl; rwa [e1] at this
    have hxb : b ≠ c := hx _ rfl
    have hm' : L ≤ 140737488355328 := by rw [hL.out]; exact hm
    have hlt' : (i : Int) < L := by rw [hL.out]; omega
    have hL0 : ¬ L = 0 := by rw [hL.out]; exact hz
    have HX := Lib.hid hx; have HXB := Lib.hid hxb; have HM := Lib.hid hm; have HZ := Lib.hid hz; have E1 := Lib.hid e1; have HLT := Lib.hid hlt; have HIN := Lib.hid hi
    clear ho hi hm hx hz e1 hlt hxb
    go_enter Try.func24, Try.ntmps24
    go_wp2
    go_quiet (fail)
    go_wp2
    have hnext : ((i : Int) + 1) % (L : Int) = (ixN cs (r + 1) : Nat) := by
      unfold ixN; rw [if_neg HZ.out, hL.out, hI.out]
      rw [show ((r % cs.length : Nat) : Int) + 1 = ((r % cs.length + 1 : Nat) : Int) by omega, ← Int.natCast_emod, Nat.mod_add_mod]
    have hck : chunkZ cs r = max d 1 := by unfold chunkZ; rw [if_neg HZ.out, hd.out, hI.out]
    have HN := Lib.hid hnext; have HK := Lib.hid hck
    clear hnext hck
    have fin : ∀ nq, Chk ((w.drewN nq).setCell ⟨c, 1, none⟩ (.int .i64 ((i + 1 : Int) % L))) c (some ⟨b, off, none⟩) sc cs (r + 1) ∧ Out c (c + 1) w ((w.drewN nq).setCell ⟨c, 1, none⟩ (.int .i64 ((i + 1 : Int) % L))) := by
      intro nq
      have ho : ObjAt (w.drewN nq) c 63 _ := HO.out
      refine ⟨⟨?_, (show InK .i64 (w.drewN nq) _ cs from HIN.out).set _ HX.out, HM.out, HX.out⟩, ?_⟩
      · rw [HN.out]; exact ho.set 1 _
      · have : Out c (c + 1) w (w.drewN nq) := ⟨rfl, rfl, rfl, Nat.le_refl _, fun _ _ _ => rfl⟩
        exact this.setCell (Nat.le_refl _) (Nat.lt_succ_self _) _
    have FIN := Lib.hid fin; clear fin
    by_cases hd1 : 1 ≤ d
    · have HKd : Hid (chunkZ cs r = d) := by show _ = _; rw [HK.out]; omega
      go_region
      all_goals (go_wp2; go_ret; exact ⟨by rw [HKd.out]; rfl, FIN.out _⟩)
    · have HKd : Hid (chunkZ cs r = 1) := by show _ = _; rw [HK.out]; omega
      go_region
      all_goals (go_wp2; go_ret; exact ⟨by rw [HKd.out]; rfl, FIN.out _⟩)
end Go.Proofs.Ytnnengigahakaaa
