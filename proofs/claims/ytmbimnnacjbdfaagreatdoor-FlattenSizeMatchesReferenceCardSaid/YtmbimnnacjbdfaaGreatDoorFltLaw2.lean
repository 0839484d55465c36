/-
  The statement FlattenSizeMatchesReference: a walk.
-/
import Derived.Test.YtmbimnnacjbdfaaGreatDoorPz32
import Derived.Test.YtmbimnnacjbdfaaGreatDoorFltRSize
import Derived.Test.YtmbimnnacjbdfaaGreatDoorPz21
namespace Go.Proofs.YtmbimnnacjbdfaaGreatDoor
open Go.RowKit Go.Proofs.YtmbimnnacjbdfaaGreatDoor.Fit Pnm Tre Flt

set_option maxRecDepth 100000 in
set_option maxHeartbeats 8000000 in
theorem walk_FlattenSizeMatchesReference (a : Option Addr) (n cap : Nat) (ys : List MbS) (w : World) (V : FVars w) (ha : ArgMbs w a n cap ys) :
    Calls Tryz.prog 3 #[.slice a n cap] w fun e w' => e = .returned (.bool true) ∧ Below w.heap.size w w' := by
  have HV := Lib.hid V
  have HA := Lib.hid ha
  have MO := Lib.hid mbT
  have MZ := Lib.hid zMb
  have hn : n ≤ maxLen := Nat.le_trans ha.c ha.m
  unfold maxLen at hn
  have nc : (n : Int) ≤ cap := by have := ha.c; omega
  clear V ha
  go_enter Tryz.func3, Tryz.ntmps3
  go_wp2_with fail
  go_loopw [11] (fun i wr => ∃ j : Nat, i = .int .i64 j ∧ j ≤ n ∧ (0 < j → n ≤ 20) ∧ Below w.heap.size w wr) (fun i _ => n - (intOf i).toNat)
  case atStart => exact ⟨0, rfl, Nat.zero_le _, fun h => absurd h (Nat.lt_irrefl 0), Below.refl _ _⟩
  case round =>
    obtain ⟨j, rfl, hj, h20, hB⟩ := hrel
    have HB := Lib.hid hB
    by_cases hjn : j < n
    · obtain ⟨b, off, y, rfl, hb, hy, hf, hat⟩ := HA.out.get j hjn
      obtain ⟨c0, c1, c2, c3, c4, c5⟩ := (hat.below hB hb).c hy
      have P1 := Lib.hid (Nat.le_trans hf.p (show 140737488355328 ≤ maxLen by decide)); have P2 := Lib.hid (Nat.le_trans hf.t (show 140737488355328 ≤ maxLen by decide))
      have JN := Lib.hid hjn
      clear hB hb hat hy hf hjn hj h20
      obtain ⟨⟨⟨k, p, m, t, s⟩, d⟩, x, xc⟩ := y
      obtain ⟨L, hL⟩ := named d.length
      have c5' : wr.cell? ⟨b, off + j * 6 + 5, none⟩ = some (.slice x L xc) := by rw [hL.out]; exact c5
      clear c5 hL
      have j1 : (j : Int) < n := by have := JN.out; omega
      go_wp2_with (first | (refine wpList_alloc_obj rfl 27 rfl (mbC 0 emp 0 emp 0 none 0 0) MZ.out ?_; intro w5 g5 b5; have G5 := Lib.hid g5; have B5 := Lib.hid b5; clear g5 b5 c0 c1 c2 c3 c4 c5') | (refine wpList_store_obj rfl 27 _ _ rfl wr.heap.size rfl (mbC k p m t s x L xc) (mbC 0 emp 0 emp 0 none 0 0) rfl 27 G5.out MO.out.2 rfl (mb_one _ _ _ _ _ _ _ _) ?_; intro w6 g6 t6; have B6 := Lib.hid (HB.out.trans ((B5.out.trans (t6.below (Nat.le_refl _))).mono HB.out.size)); have d0 := g6.get 0 rfl; have d1 := g6.get 1 rfl; have d2 := g6.get 2 rfl; have d3 := g6.get 3 rfl; have d4 := g6.get 4 rfl; clear g6 t6))
      refine (Go.Proofs.YtmbimnnacjbdfaaGreatDoor.Fit.large_any k p m t s w6 P1.out P2.out).mono ?_; rintro e w7 ⟨R, rfl, hR, b7⟩
      have B7 := Lib.hid (belT B6.out b7)
      clear b7 d0 d1 d2 d3 d4
      rcases hR with rfl | rfl
      · by_cases h20 : (20 : Int) < n
        · go_wp2_with fail
          refine (Flt.alive_any w7 (HV.out.go B7.out)).mono ?_; rintro e w8 ⟨rfl, b8⟩
          have B8 := Lib.hid (belT B7.out b8)
          go_wp2
          go_ret
          exact ⟨rfl, B8.out⟩
        · have H20 : Hid (n ≤ 20) := by show _ ≤ _; omega
          go_wp2_with fail
          go_round
          case rel => exact ⟨j + 1, by go_num, by have := JN.out; omega, fun _ => H20.out, B7.out⟩
          case measure => simp [intOf]; have := JN.out; omega
      · go_wp2_with fail
        refine (Flt.alive_any w7 (HV.out.go B7.out)).mono ?_; rintro e w8 ⟨rfl, b8⟩
        have B8 := Lib.hid (belT B7.out b8)
        go_wp2
        go_ret
        exact ⟨rfl, B8.out⟩
    · obtain rfl : j = n := by omega
      have J100 : Hid (j ≤ 100) := by
        show _ ≤ _
        rcases Nat.eq_zero_or_pos j with h | h
        · omega
        · have := h20 h; omega
      clear hB h20 hj hjn
      go_wp2_with fail
      refine (psize_any a j cap ys wr (HV.out.go HB.out) (HA.out.below HB.out) J100.out).mono ?_; rintro e w7 ⟨X, E, rfl, hX, hE, b7⟩
      have B7 := Lib.hid (belT HB.out b7); have HX := Lib.hid hX; have HE := Lib.hid hE
      clear b7 hX hE
      go_wp2_with fail
      refine (rsize_any a j cap ys w7 (HA.out.below B7.out) J100.out).mono ?_; rintro e w8 ⟨X', E', rfl, hX, hE, b8⟩
      obtain rfl : X = X' := HX.out.trans hX.symm
      obtain rfl : E = E' := HE.out.trans hE.symm
      have B8 := Lib.hid (belT B7.out b8)
      have n1 : (X == X) = true := by simp
      have n2 : (E == E) = true := by simp
      clear b8 hX hE
      go_wp2_with fail
      refine (Flt.alive_any w8 (HV.out.go B8.out)).mono ?_; rintro e w9 ⟨rfl, b9⟩
      have B9 := Lib.hid (belT B8.out b9)
      go_wp2
      go_ret
      exact ⟨rfl, B9.out⟩
end Go.Proofs.YtmbimnnacjbdfaaGreatDoor
