/-
  The statement FlattenSizeAdds, where both lists together are not too long for an append: a walk.
-/
import Derived.Test.YtmbimnnacjbdfaaGreatDoorPz32
import Derived.Test.YtmbimnnacjbdfaaGreatDoorFltSize
import Derived.Test.YtmbimnnacjbdfaaGreatDoorPz21
namespace Go.Proofs.YtmbimnnacjbdfaaGreatDoor
open Go.RowKit Go.Proofs.YtmbimnnacjbdfaaGreatDoor.Fit Pnm Tre Flt

theorem Flt.szX_app (A B : List Mb) : (szE A ≠ 0 → szE (A ++ B) = szE A ∧ szX (A ++ B) = 0) ∧ (szE A = 0 → szE (A ++ B) = szE B ∧ (szE B ≠ 0 → szX (A ++ B) = 0) ∧ (szE B = 0 → szX (A ++ B) = szX A + szX B - 1024)) := by
  have e := szE_app A B
  constructor
  · intro h
    rw [if_pos h] at e
    exact ⟨e, by unfold szX; rw [if_neg (by rw [e]; exact h)]⟩
  · intro h
    rw [if_neg (fun h' => h' h)] at e
    refine ⟨e, fun hb => by unfold szX; rw [if_neg (by rw [e]; exact hb)], fun hb => ?_⟩
    unfold szX
    rw [if_pos (by rw [e]; exact hb), if_pos h, if_pos hb, szN_app]
    omega
theorem Flt.szX_le {A : List Mb} (h : szE A = 0) (hn : A.length ≤ 100) : 1024 ≤ szX A ∧ szX A ≤ 109951200001024 ∧ szX A % 512 = 0 := by
  have := szN_le (L := A) (j := A.length) (Nat.le_refl _) (fun i hi => by
    rw [mz_get (List.getElem?_eq_getElem hi)]
    exact szE_zero.mp h _ (List.getElem_mem hi))
  unfold szX
  rw [if_pos h]
  omega
theorem Flt.mms_app (xs ys : List MbS) : mms (xs ++ ys) = mms xs ++ mms ys := by unfold mms; rw [List.map_append]

set_option maxRecDepth 100000 in
set_option maxHeartbeats 8000000 in
theorem walk_FlattenSizeAdds (a : Option Addr) (n cap : Nat) (ys : List MbS) (a' : Option Addr) (n' cap' : Nat) (zs : List MbS) (w : World) (V : FVars w) (ha : ArgMbs w a n cap ys) (hb : ArgMbs w a' n' cap' zs) (hsum : n + n' ≤ 1048576) :
    Calls Tryz.prog 5 #[.slice a n cap, .slice a' n' cap'] w fun e w' => e = .returned (.bool true) ∧ Below w.heap.size w w' := by
  have HV := Lib.hid V
  have HA := Lib.hid ha; have HB0 := Lib.hid hb
  have MO := Lib.hid mbT
  have MZ := Lib.hid zMb
  have HN : Hid (ys.length = n) := ha.n
  have HN' : Hid (zs.length = n') := hb.n
  have NA := Lib.hid ha.r
  have HSUM := Lib.hid hsum
  have nn : (n : Int) + n' ≤ 1048576 := by omega
  obtain ⟨i0, HI0⟩ := info_of (P := Tryz.prog) (e := 27) (z := .agg (mbC 0 emp 0 emp 0 none 0 0).toArray) (s := 6) (b := 80) (by kernel_rfl)
  have I6 : Hid ((Tryz.prog.info? 27).map (fun i => (i.zero, i.size)) = some (some (.agg (mbC 0 emp 0 emp 0 none 0 0).toArray), 6)) := by show _ = _; kernel_rfl
  clear V ha hb
  obtain ⟨M, hM⟩ := named (n + n')
  go_enter Tryz.func5, Tryz.ntmps5
  go_wp2_with (first | (refine wpList_lit_mb0 rfl 22 27 rfl Tryz.underlying22 _ I6.out ?_; intro w1 g1 b1; have G1 := Lib.hid g1; have B1 := Lib.hid b1; have N1 := Lib.hid (HA.out.below b1).r; clear g1 b1) | (at_builtin; (have q := G2.out; clear q); refine wpList_append_mms rfl _ _ 22 rfl 27 w.heap.size i0 _ Tryz.underlying22 HI0 rfl (.slice m2 n c2) n ys rfl G2.out a' n' cap' zs rfl N2.out HN'.out HSUM.out B2.out.size ?_; intro v3 w3 g3 b3 _ _; have B3 := Lib.hid (B2.out.trans b3); obtain ⟨m3, c3, rfl, hA3⟩ := ArgMbs.of_own g3 (fun y hy => (List.mem_append.1 hy).elim (fun h => (HA.out.s y h).below B3.out) (fun h => (HB0.out.s y h).below B3.out)); rw [← hM.out] at hA3 ⊢; have A3 := Lib.hid hA3; clear g3 b3 hA3) | (at_builtin; refine wpList_append_mms rfl _ _ 22 rfl 27 w.heap.size i0 _ Tryz.underlying22 HI0 rfl (.slice (some ⟨w.heap.size, 0, none⟩) 0 0) 0 [] rfl G1.out a n cap ys rfl N1.out HN.out (by have := HSUM.out; omega) B1.out.size ?_; intro v2 w2 g2 b2 _ _; rw [Nat.zero_add, List.nil_append] at g2; obtain ⟨m2, c2, rfl, _⟩ := ArgMbs.of_own g2 (fun y hy => (HA.out.s y hy).below (B1.out.trans b2)); have G2 := Lib.hid g2; have B2 := Lib.hid (B1.out.trans b2); have N2 := Lib.hid (HB0.out.below (B1.out.trans b2)).r; clear g2 b2))
  have AM3 := Lib.hid (mms_app ys zs)
  have MC : (M : Int) ≤ c3 := by have := A3.out.c; omega
  have M0 : (M : Int) ≤ 1048576 := by have := hM.out; have := HSUM.out; omega
  clear G1 B1 N1 G2 N2
  go_loopw [19] (fun i wr => ∃ j : Nat, i = .int .i64 j ∧ j ≤ M ∧ (0 < j → M ≤ 20) ∧ Below w3.heap.size w3 wr) (fun i _ => M - (intOf i).toNat)
  case atStart => exact ⟨0, rfl, Nat.zero_le _, fun h => absurd h (Nat.lt_irrefl 0), Below.refl _ _⟩
  case round =>
    obtain ⟨j, rfl, hj, h20, hB⟩ := hrel
    have HB := Lib.hid hB
    have BW := Lib.hid (belT B3.out hB)
    by_cases hjn : j < M
    · obtain ⟨b, off, y, rfl, hb, hy, hf, hat⟩ := A3.out.get j hjn
      obtain ⟨c0, c1, c2, c3', c4, c5⟩ := (hat.below hB hb).c hy
      have P1 := Lib.hid (Nat.le_trans hf.p (show 140737488355328 ≤ maxLen by decide)); have P2 := Lib.hid (Nat.le_trans hf.t (show 140737488355328 ≤ maxLen by decide))
      have JN := Lib.hid hjn
      clear hB hb hat hy hf hjn hj h20
      obtain ⟨⟨⟨k, p, m, t, s⟩, d⟩, x, xc⟩ := y
      obtain ⟨L, hL⟩ := named d.length
      have c5' : wr.cell? ⟨b, off + j * 6 + 5, none⟩ = some (.slice x L xc) := by rw [hL.out]; exact c5
      clear c5 hL
      have j1 : (j : Int) < M := by have := JN.out; omega
      have nM : (n : Int) + n' = M := by have := hM.out; omega
      have mM : IntKind.i64.wrap (M : Int) = M := wrapP (by omega) (by omega)
      go_wp2_with (first | (refine wpList_alloc_obj rfl 27 rfl (mbC 0 emp 0 emp 0 none 0 0) MZ.out ?_; intro w5 g5 b5; have G5 := Lib.hid g5; have B5 := Lib.hid b5; clear g5 b5 c0 c1 c2 c3' c4 c5') | (refine wpList_store_obj rfl 27 _ _ rfl wr.heap.size rfl (mbC k p m t s x L xc) (mbC 0 emp 0 emp 0 none 0 0) rfl 27 G5.out MO.out.2 rfl (mb_one _ _ _ _ _ _ _ _) ?_; intro w6 g6 t6; have B6 := Lib.hid (HB.out.trans ((B5.out.trans (t6.below (Nat.le_refl _))).mono HB.out.size)); have d0 := g6.get 0 rfl; have d1 := g6.get 1 rfl; have d2 := g6.get 2 rfl; have d3 := g6.get 3 rfl; have d4 := g6.get 4 rfl; clear g6 t6))
      refine (Go.Proofs.YtmbimnnacjbdfaaGreatDoor.Fit.large_any k p m t s w6 P1.out P2.out).mono ?_; rintro e w7 ⟨R, rfl, hR, b7⟩
      have B7 := Lib.hid (belT B6.out b7)
      have BW7 := Lib.hid (belT B3.out B7.out)
      clear b7 d0 d1 d2 d3 d4
      rcases hR with rfl | rfl
      · by_cases h20 : (20 : Int) < M
        · go_wp2_with fail
          refine (Flt.alive_any w7 (HV.out.go BW7.out)).mono ?_; rintro e w8 ⟨rfl, b8⟩
          have B8 := Lib.hid (belT BW7.out b8)
          go_wp2
          go_ret
          exact ⟨rfl, B8.out⟩
        · have H20 : Hid (M ≤ 20) := by show _ ≤ _; omega
          go_wp2_with fail
          go_round
          case rel => exact ⟨j + 1, by go_num, by have := JN.out; omega, fun _ => H20.out, B7.out⟩
          case measure => simp [intOf]; have := JN.out; omega
      · go_wp2_with fail
        refine (Flt.alive_any w7 (HV.out.go BW7.out)).mono ?_; rintro e w8 ⟨rfl, b8⟩
        have B8 := Lib.hid (belT BW7.out b8)
        go_wp2
        go_ret
        exact ⟨rfl, B8.out⟩
    · obtain rfl : j = M := by omega
      have J100 : Hid (j ≤ 100) := by
        show _ ≤ _
        rcases Nat.eq_zero_or_pos j with h | h
        · omega
        · have := h20 h; omega
      have L1 : Hid (n ≤ 100) := by show _ ≤ _; have := hM.out; have := J100.out; omega
      have L2 : Hid (n' ≤ 100) := by show _ ≤ _; have := hM.out; have := J100.out; omega
      clear hB h20 hj hjn A3 HB MC
      go_wp2_with fail
      refine (psize_any a n cap ys wr (HV.out.go BW.out) (HA.out.below BW.out) L1.out).mono ?_; rintro e w4 ⟨X1, E1, rfl, hX1, hE1, b4⟩
      have B4 := Lib.hid (belT BW.out b4); have HX1 := Lib.hid hX1; have HE1 := Lib.hid hE1
      clear b4 hX1 hE1
      go_wp2_with fail
      refine (psize_any a' n' cap' zs w4 (HV.out.go B4.out) (HB0.out.below B4.out) L2.out).mono ?_; rintro e w5 ⟨X2, E2, rfl, hX2, hE2, b5⟩
      have B5 := Lib.hid (belT B4.out b5); have HX2 := Lib.hid hX2; have HE2 := Lib.hid hE2
      have N5 := Lib.hid (HA.out.below B5.out).r
      clear b5 hX2 hE2
      go_wp2_with (first | (refine wpList_lit_mb0 rfl 22 27 rfl Tryz.underlying22 _ I6.out ?_; intro w6 g6 b6; have G6 := Lib.hid g6; have B6 := Lib.hid b6; have N6 := Lib.hid (N5.out.below b6); clear g6 b6) | (at_builtin; (have q := G7.out; clear q); refine wpList_append_mms rfl _ _ 22 rfl 27 w5.heap.size i0 _ Tryz.underlying22 HI0 rfl (.slice m7 n c7) n ys rfl G7.out a' n' cap' zs rfl N7.out HN'.out HSUM.out B7.out.size ?_; intro v8 w8 g8 b8 _ _; have B8 := Lib.hid (belT B5.out (B7.out.trans b8)); obtain ⟨m8, c8, rfl, hA8⟩ := ArgMbs.of_own g8 (fun y hy => (List.mem_append.1 hy).elim (fun h => (HA.out.s y h).below B8.out) (fun h => (HB0.out.s y h).below B8.out)); rw [← hM.out] at hA8 ⊢; have A8 := Lib.hid hA8; clear g8 b8 hA8) | (at_builtin; refine wpList_append_mms rfl _ _ 22 rfl 27 w5.heap.size i0 _ Tryz.underlying22 HI0 rfl (.slice (some ⟨w5.heap.size, 0, none⟩) 0 0) 0 [] rfl G6.out a n cap ys rfl N6.out HN.out (by have := HSUM.out; omega) B6.out.size ?_; intro v7 w7 g7 b7 _ _; rw [Nat.zero_add, List.nil_append] at g7; obtain ⟨m7, c7, rfl, _⟩ := ArgMbs.of_own g7 (fun y hy => (HA.out.s y hy).below (belT B5.out (B6.out.trans b7))); have G7 := Lib.hid g7; have B7 := Lib.hid (B6.out.trans b7); have N7 := Lib.hid (HB0.out.below (belT B5.out (B6.out.trans b7))).r; clear g7 b7))
      refine (psize_any m8 j c8 (ys ++ zs) w8 (HV.out.go B8.out) A8.out J100.out).mono ?_; rintro e w9 ⟨X3, E3, rfl, hX3, hE3, b9⟩
      have B9 := Lib.hid (belT B8.out b9)
      rw [AM3.out] at hX3 hE3
      have HX3 := Lib.hid hX3; have HE3 := Lib.hid hE3
      obtain ⟨q1, q2⟩ := szX_app (mms ys) (mms zs)
      have Q1 := Lib.hid q1; have Q2 := Lib.hid q2
      have l1 : (mms ys).length ≤ 100 := by rw [mms_len, HN.out]; exact L1.out
      have l2 : (mms zs).length ≤ 100 := by rw [mms_len, HN'.out]; exact L2.out
      have HL1 := Lib.hid l1; have HL2 := Lib.hid l2
      clear b9 hX3 hE3 q1 q2 l1 l2 A8 G6 B6 N6 G7 B7 N7
      by_cases h1 : ¬ E1 = 0
      · obtain ⟨r1, r2⟩ := Q1.out (by rw [← HE1.out]; exact h1)
        obtain rfl : E3 = E1 := by rw [HE3.out, r1, HE1.out]
        obtain rfl : X3 = 0 := by rw [HX3.out, r2]
        have n1 : (E3 != 0) = true := by simpa using h1
        have n2 : (E3 == E3) = true := by simp
        have n3 : ((0 : Int) == 0) = true := by decide
        clear r1 r2 h1
        go_wp2_with fail
        refine (Flt.alive_any w9 (HV.out.go B9.out)).mono ?_; rintro e x1 ⟨rfl, d1⟩
        have D1 := Lib.hid (belT B9.out d1)
        go_wp2
        go_ret
        exact ⟨rfl, D1.out⟩
      obtain rfl : E1 = 0 := Decidable.not_not.mp h1
      obtain ⟨r1, r2, r3⟩ := Q2.out HE1.out.symm
      obtain rfl : E3 = E2 := by rw [HE3.out, r1, HE2.out]
      have e0 : ((0 : Int) == 0) = true := by decide
      have e1 : ((0 : Int) != 0) = false := by decide
      by_cases h2 : ¬ E3 = 0
      · obtain rfl : X3 = 0 := by rw [HX3.out, r2 (by rw [← HE2.out]; exact h2)]
        have n1 : (E3 != 0) = true := by simpa using h2
        have n2 : (E3 == E3) = true := by simp
        clear r1 r2 r3 h1 h2
        go_wp2_with fail
        refine (Flt.alive_any w9 (HV.out.go B9.out)).mono ?_; rintro e x1 ⟨rfl, d1⟩
        have D1 := Lib.hid (belT B9.out d1)
        go_wp2
        go_ret
        exact ⟨rfl, D1.out⟩
      obtain rfl : E3 = 0 := Decidable.not_not.mp h2
      have r4 := r3 HE2.out.symm
      rw [← HX3.out, ← HX1.out, ← HX2.out] at r4
      obtain ⟨s1, s2, s3⟩ := szX_le HE1.out.symm HL1.out
      obtain ⟨t1, t2, _⟩ := szX_le HE2.out.symm HL2.out
      rw [← HX1.out] at s1 s2 s3
      rw [← HX2.out] at t1 t2
      obtain ⟨Y, hY⟩ : ∃ Y, Y = X1 + X2 := ⟨_, rfl⟩
      have m1 : IntKind.i64.wrap (X1 + X2) = Y := by rw [wrapP (by omega) (by omega), hY]
      have m2 : IntKind.i64.wrap (Y - 1024) = X3 := by rw [wrapP (by omega) (by omega)]; omega
      have n1 : (X3 == X3) = true := by simp
      have s4 : X1.tmod 512 = 0 := by rw [Int.tmod_eq_emod_of_nonneg (by omega)]; exact s3
      clear r1 r2 r3 r4 h1 h2 hY t1 t2
      go_wp2_with fail
      refine (Flt.alive_any w9 (HV.out.go B9.out)).mono ?_; rintro e x1 ⟨rfl, d1⟩
      have D1 := Lib.hid (belT B9.out d1)
      go_wp2
      go_ret
      exact ⟨rfl, D1.out⟩
end Go.Proofs.YtmbimnnacjbdfaaGreatDoor
