/-
  Layer 6: the walk of Next.
-/
import Derived.Test.YtbbaleambgaanaaGreatDoorPk29
import Derived.Test.YtbbaleambgaanaaGreatDoorPk19
namespace Go.Proofs.YtbbaleambgaanaaGreatDoor
open Go.RowKit

set_option maxRecDepth 100000 in
set_option maxHeartbeats 8000000 in
theorem rdr_next_cap {lo hi q : Nat} {Z : List Int} {E : Int} {o : Nat} {err : Int} (w : World) (h : Rdr w lo hi q Z E o err) (hE : E = 11 ∨ E = 4) :
    Calls Tryz.prog 34 #[.pointer (some ⟨q, 0, none⟩)] w fun e w' => ∃ b c, e = .returned (.tuple #[.slice b (nxB Z o err).length c, .int .i64 (nxE Z E o err)]) ∧
      ((nxB Z o err).length ≤ c ∧ c ≤ maxLen) ∧ InK .u8 w' b (nxB Z o err) ∧ (∀ x, b = some x → w.heap.size ≤ x.block) ∧ Rdr w' lo hi q Z E (nxO Z o err) (nxE Z E o err) ∧ Out lo hi w w' := by
  have H := Lib.hid h
  obtain ⟨s, h1, cs, r, k1, k2, k3, k4, k5, k6, k9⟩ := h
  have c0 := k1.get 0 rfl
  have c1 := k1.get 1 rfl
  have c2 := k1.get 2 rfl
  by_cases he : err = 0
  · subst he
    have K1 := Lib.hid k1; have K2 := Lib.hid k2; have K3 := Lib.hid (show lo ≤ h1 ∧ h1 ≤ q ∧ q < hi ∧ hi ≤ w.heap.size from ⟨k3, k4, k5, k6⟩)
    obtain ⟨L, hL⟩ := named Z.length
    have hL8 : Hid (L ≤ 140737488355328) := by
      show _ ≤ _
      obtain ⟨_, _, _, _, _, _, _, _, _, _, q6, _⟩ := k2
      rw [hL.out]; exact q6
    have KO : Hid (o ≤ L) := by show _ ≤ _; rw [hL.out]; exact k9
    have E4 : Hid (E = 11 ∨ E = 4) := hE
    obtain ⟨i0, HI⟩ := info_u8 (P := Tryz.prog) (e := 5) (by kernel_rfl)
    clear k1 k2 k3 k4 k5 k6 k9 hE
    go_enter Tryz.func34, Tryz.ntmps34
    go_wp2_with (refine wpList_make_own _ rfl _ _ 24 rfl w.heap.size 5 i0 (.int .u8 0) 1 Tryz.underlying24 HI.out.1 HI.out.2.1 HI.out.2.2.1 .i64 .i64 512 512 rfl rfl rfl (by rw [HI.out.2.2.2]; decide) (by decide) (Nat.le_refl _) ?_; intro w1 h1' h2'; have OW1 := Lib.hid h1'; have B1 := Lib.hid ((Below.refl w.heap.size w).grown h2' (Nat.le_refl _) (fun _ h => by cases h)); clear h1' h2')
    have K2' := Lib.hid (K2.out.below B1.out)
    have K1' := Lib.hid (K1.out.below B1.out K1.out.lt)
    go_loopw [4, 5, 6] (fun v _ _ wr => ∃ j r' : Nat, j ≤ 512 ∧ o + j ≤ L ∧ wr.ownsRow w.heap.size 5 1 v j (((Z.drop o).take j).map (.int .u8)) ∧ ObjAt wr q 77 [.int .i64 ((o + j : Nat) : Int), .int .i64 0, .pointer (some ⟨s, 0, none⟩)] ∧ Src wr lo h1 s Z E cs (o + j) r' ∧ Out lo hi w wr) (fun v _ _ _ => match v with | .slice _ l _ => 512 - l | _ => 0)
    case atStart => exact ⟨0, r, Nat.zero_le _, KO.out, OW1.out, K1'.out, K2'.out, .of_below B1.out (Nat.le_refl _)⟩
    case round =>
      obtain ⟨j, r', hj, hoj, hown, hob, href, hout⟩ := hrel
      have OB := Lib.hid hob; have RF := Lib.hid href; have OU := Lib.hid hout; have OW := Lib.hid hown
      have HOJ := Lib.hid hoj
      have JL : Hid (((Z.drop o).take j).length = j) := by show _ = _; rw [List.length_take, List.length_drop, ← hL.out]; omega
      obtain ⟨va, vc, rfl, _⟩ := own_any hown
      have c2 := hob.get 2 rfl
      clear hob href hout hown hoj
      by_cases hlt : j < 512
      · have hlt' : (j : Int) < 512 := by omega
        by_cases hs : o + j = L
        · have hL512 : ¬ o + 512 ≤ Z.length := by rw [← hL.out]; omega
          obtain ⟨g1, g2, g3⟩ := nx_stop (E := E) hL512
          have G1 := Lib.hid g1; have G2 := Lib.hid g2; have G3 := Lib.hid g3
          clear g1 g2 g3 hL512
          go_wp2_with fail
          refine (read_stop (512 - (j : Int)) wr RF.out (by omega) (by rw [← hL.out]; exact hs)).mono ?_; rintro e w2 ⟨pa, pc, rfl, _, f3, u3⟩
          have RF2 := Lib.hid f3; have U2 := Lib.hid (u3.wide (lo' := lo) (hi' := h1) (Nat.le_refl _) (Nat.le_refl _))
          have OB2 := Lib.hid (OB.out.out u3 (.inr (by have := K3.out; omega)))
          clear f3 u3 c2
          have hh : o + j = Z.length := by rw [← hL.out]; exact hs
          have fin : ∀ (w5 : World) (E' : Int), ObjAt w5 q 77 [.int .i64 ((o + j + 0 : Nat) : Int), .int .i64 E', .pointer (some ⟨s, 0, none⟩)] → Out q (q + 1) w2 w5 → Rdr w5 lo hi q Z E Z.length E' ∧ Out lo hi w w5 := by
            intro w5 E' ob h5
            have k3 := K3.out
            have rf := RF2.out.out h5 (.inl (by omega))
            rw [Nat.add_zero, hh] at ob; rw [hh] at rf
            refine ⟨⟨s, h1, cs, r', ob, rf, by omega, by omega, by omega, ?_, Nat.le_refl _⟩, ?_⟩
            · have := OU.out.size; have := U2.out.size; have h6 : w2.heap.size ≤ w5.heap.size := h5.size; omega
            · exact (OU.out.trans (U2.out.wide (by omega) (by omega))).trans (h5.wide (by omega) (by omega))
          have FIN := Lib.hid fin
          clear fin
          have AL : Hid (o + j + 0 ≤ 200000000000000) := by show _ ≤ _; have := hL8.out; omega
          rcases E4.out with e11 | e4
          · have en : (E == 4) = false := by rw [e11]; rfl
            have e5 : Hid ((if E = 4 ∧ o < Z.length then (5 : Int) else E) = E) := by show _ = _; rw [if_neg (by omega)]
            have en0 : (E != 0) = true := by rw [e11]; rfl
            clear e11
            go_wp2_with fail
            refine (adv_any (n := 0) E w2 OB2.out AL.out).mono ?_; rintro e w3 ⟨rfl, ob3, u3, _⟩
            have OB3 := Lib.hid ob3; have U3 := Lib.hid u3
            clear ob3 u3
            go_wp2_with fail
            go_ret2
            rw [G1.out, G2.out, G3.out, e5.out]
            exact ⟨none, 0, rfl, ⟨Nat.zero_le _, Nat.zero_le _⟩, .inl rfl, (fun x hx => by cases hx), FIN.out _ _ OB3.out U3.out⟩
          · have en : (E == 4) = true := by rw [e4]; rfl
            have en0 : (E != 0) = true := by rw [e4]; rfl
            by_cases hj0 : j = 0
            · subst hj0
              have e5 : Hid ((if E = 4 ∧ o < Z.length then (5 : Int) else E) = E) := by show _ = _; rw [if_neg (by omega)]
              clear e4
              go_wp2_with fail
              refine (adv_any (n := 0) E w2 OB2.out AL.out).mono ?_; rintro e w3 ⟨rfl, ob3, u3, _⟩
              have OB3 := Lib.hid ob3; have U3 := Lib.hid u3
              clear ob3 u3
              go_wp2_with fail
              go_ret2
              rw [G1.out, G2.out, G3.out, e5.out]
              exact ⟨none, 0, rfl, ⟨Nat.zero_le _, Nat.zero_le _⟩, .inl rfl, (fun x hx => by cases hx), FIN.out _ _ OB3.out U3.out⟩
            · have hj0' : (0 : Int) < j := by omega
              have e5 : Hid ((if E = 4 ∧ o < Z.length then (5 : Int) else E) = 5) := by show _ = _; rw [if_pos (by omega)]
              clear e4
              go_wp2_with fail
              refine (adv_any (n := 0) 5 w2 OB2.out AL.out).mono ?_; rintro e w3 ⟨rfl, ob3, u3, _⟩
              have OB3 := Lib.hid ob3; have U3 := Lib.hid u3
              clear ob3 u3
              go_wp2_with fail
              go_ret2
              rw [G1.out, G2.out, G3.out, e5.out]
              exact ⟨none, 0, rfl, ⟨Nat.zero_le _, Nat.zero_le _⟩, .inl rfl, (fun x hx => by cases hx), FIN.out _ _ OB3.out U3.out⟩
        · have hgo : o + j < L := by have := HOJ.out; omega
          have hj5 : Hid (o + j < Z.length) := by show _ < _; rw [← hL.out]; exact hgo
          obtain ⟨k, hk⟩ := named (readK Z.length cs (o + j) r' (512 - (j : Int)))
          have hb := readK_bd (cs := cs) (r := r') (n := 512 - (j : Int)) (by omega) hj5.out
          rw [← hk.out, ← hL.out] at hb
          obtain ⟨kb1, kb2, kb3⟩ := hb
          have HKB := Lib.hid (show 1 ≤ k ∧ o + j + k ≤ L ∧ j + k ≤ 512 by omega)
          clear kb1 kb2 kb3
          go_wp2_with fail
          refine (read_go (512 - (j : Int)) wr RF.out (by omega) hj5.out k hk.out.symm).mono ?_; rintro e w2 ⟨g2, cc2, rfl, o2, f3, u3⟩
          have RF3 : Hid (Src w2 lo h1 s Z E cs (o + (j + k)) (r' + 1)) := (congrArg (fun p => Src w2 lo h1 s Z E cs p (r' + 1)) (Nat.add_assoc o j k)).mp f3
          have U2 := Lib.hid u3
          have LG := Lib.hid (own_lt o2)
          have I2 : Hid (InK .u8 w2 (some ⟨g2, 0, none⟩) ((Z.drop (o + j)).take k)) := InK.of_own o2
          have OB2 := Lib.hid (OB.out.out u3 (.inr (by have := K3.out; omega)))
          have OW2 := Lib.hid (own_out OW.out u3 (by have := K3.out; omega))
          have KL : Hid (((Z.drop (o + j)).take k).length = k) := by show _ = _; rw [List.length_take, List.length_drop, ← hL.out]; have := HKB.out; omega
          have AL : Hid (o + j + k ≤ 200000000000000) := by show _ ≤ _; have := hL8.out; have := HKB.out; omega
          clear o2 f3 u3 c2
          have hk5 : j + k ≤ 512 := HKB.out.2.2
          go_wp2_with fail
          refine (adv_any (n := k) 0 w2 OB2.out AL.out).mono ?_; rintro e w4 ⟨rfl, ob4, u4, z4⟩
          have OB4 : Hid (ObjAt w4 q 77 [.int .i64 ((o + (j + k) : Nat) : Int), .int .i64 0, .pointer (some ⟨s, 0, none⟩)]) := (congrArg (fun p : Nat => ObjAt w4 q 77 [.int .i64 (p : Int), .int .i64 0, .pointer (some ⟨s, 0, none⟩)]) (Nat.add_assoc o j k)).mp ob4
          have U4 := Lib.hid u4
          have RF4 := Lib.hid (RF3.out.out u4 (.inl (by have := K3.out; omega)))
          have OW4 := Lib.hid (own_out OW2.out u4 (by have := K3.out; omega))
          have I4 := Lib.hid (I2.out.out u4 (fun x hx => by cases hx; have := K3.out; have := LG.out; have := OU.out.size; show g2 < q ∨ q + 1 ≤ g2; omega))
          have HZ4 : Hid (w.heap.size ≤ w4.heap.size) := Nat.le_trans OU.out.size (Nat.le_trans U2.out.size u4.size)
          clear ob4 u4
          go_wp2_with (first | (at_builtin; refine wpList_append_k rfl _ _ 24 rfl w.heap.size 5 .u8 1 Tryz.underlying24 u8T _ j ((Z.drop o).take j) rfl OW4.out (some ⟨g2, 0, none⟩) k cc2 ((Z.drop (o + j)).take k) rfl I4.out KL.out (by unfold maxLen; omega) (by omega) HZ4.out ?_; intro v3 w3 h3 b3; have ez : (Z.drop o).take j ++ (Z.drop (o + j)).take k = (Z.drop o).take (j + k) := (by rw [List.take_add, List.drop_drop]); rw [ez] at h3; have O3 := Lib.hid h3; have B3 := Lib.hid b3; have OB3 := Lib.hid (OB4.out.below b3 (by have := K3.out; omega)); clear h3 b3 ez))
          go_roundw
          case rel =>
            have k3 := K3.out; have kb := HKB.out
            have ou2 := OU.out.trans (U2.out.wide (lo' := lo) (hi' := hi) (by omega) (by omega))
            have ou4 := ou2.trans (U4.out.wide (lo' := lo) (hi' := hi) (by omega) (by omega))
            have ou3 : Out lo hi w w3 := ⟨B3.out.os.trans ou4.os, B3.out.tape.trans ou4.tape, B3.out.output.trans ou4.output, Nat.le_trans ou4.size B3.out.size, fun x hx hj => (B3.out.block x hx).trans (ou4.block x hx hj)⟩
            have rf := RF4.out.out (out_of_below (h := 0) B3.out) (.inl (by omega))
            exact ⟨j + k, r' + 1, kb.2.2, Nat.le_trans (Nat.le_of_eq (Nat.add_assoc o j k).symm) kb.2.1, O3.out, OB3.out, rf, ou3⟩
          case measure =>
            obtain ⟨b', c', rfl, _⟩ := own_any O3.out
            have := HKB.out
            simp; omega
      · obtain rfl : j = 512 := by omega
        have hL512 : o + 512 ≤ Z.length := by rw [← hL.out]; exact HOJ.out
        obtain ⟨g1, g2, g3⟩ := nx_go (E := E) hL512
        have G1 := Lib.hid g1; have G2 := Lib.hid g2; have G3 := Lib.hid g3
        clear g1 g2 g3
        go_wp2_with fail
        go_ret2
        rw [G1.out, G2.out, G3.out]
        obtain ⟨b', c', hv, i1, hcap, hmx, _, x1⟩ := own_any OW.out
        simp only [Value.slice.injEq, true_and] at hv
        obtain ⟨rfl, rfl⟩ := hv
        refine ⟨va, vc, by rw [JL.out]; rfl, ⟨by rw [JL.out]; exact hcap, hmx⟩, i1, fun x hx => (x1 x hx).1, ⟨s, h1, cs, r', OB.out, RF.out, K3.out.1, K3.out.2.1, K3.out.2.2.1, Nat.le_trans K3.out.2.2.2 OU.out.size, hL512⟩, OU.out⟩
  · obtain ⟨g1, g2, g3⟩ := nx_err (Z := Z) (E := E) (o := o) he
    rw [g1, g2, g3]
    have hne : (err != 0) = true := by simp [he]
    clear g1 g2 g3 k1 k2 k3 k4 k5 k6 k9
    go_enter Tryz.func34, Tryz.ntmps34
    go_wp2
    go_quiet (fail)
    go_wp2
    go_ret2
    exact ⟨none, 0, rfl, ⟨Nat.zero_le _, Nat.zero_le _⟩, .inl rfl, (fun x hx => by cases hx), H.out.below (drewN_below _ _ _), .of_below (drewN_below _ _ _) (Nat.le_refl _)⟩
/-- without the capacity's limit -/
theorem rdr_next {lo hi q : Nat} {Z : List Int} {E : Int} {o : Nat} {err : Int} (w : World) (h : Rdr w lo hi q Z E o err) (hE : E = 11 ∨ E = 4) :
    Calls Tryz.prog 34 #[.pointer (some ⟨q, 0, none⟩)] w fun e w' => ∃ b c, e = .returned (.tuple #[.slice b (nxB Z o err).length c, .int .i64 (nxE Z E o err)]) ∧
      (nxB Z o err).length ≤ c ∧ InK .u8 w' b (nxB Z o err) ∧ (∀ x, b = some x → w.heap.size ≤ x.block) ∧ Rdr w' lo hi q Z E (nxO Z o err) (nxE Z E o err) ∧ Out lo hi w w' := by
  refine (rdr_next_cap w h hE).mono ?_
  rintro e w' ⟨b, c, h1, h2, h3⟩
  exact ⟨b, c, h1, h2.1, h3⟩
end Go.Proofs.YtbbaleambgaanaaGreatDoor
/-
  Layer 11: the walk of readBlocks.
-/
namespace Go.Proofs.YtbbaleambgaanaaGreatDoor
open Go.RowKit

theorem Rdr.bd {w : World} {lo hi q : Nat} {Z : List Int} {E : Int} {o : Nat} {err : Int} (h : Rdr w lo hi q Z E o err) : Z.length ≤ 140737488355328 ∧ Bytes Z := by
  obtain ⟨s, h1, cs, r, k1, k2, k3⟩ := h
  refine ⟨?_, k2.bytes.1⟩
  obtain ⟨_, _, _, _, _, _, _, _, _, _, q6, _⟩ := k2
  exact q6

set_option maxRecDepth 100000 in
set_option maxHeartbeats 8000000 in
theorem rblk_any {lo hi q : Nat} {Z : List Int} {E : Int} {o : Nat} {err : Int} (n : Nat) (w : World) (h : Rdr w lo hi q Z E o err) (hE : E = 11 ∨ E = 4) (hn : n ≤ 4611686018427387904) :
    Calls Tryz.prog 158 #[.pointer (some ⟨q, 0, none⟩), .int .i64 n] w fun e w' => ∃ v, e = .returned (.tuple #[v, .int .i64 (pyE Z E o err n)]) ∧
      w'.ownsRow w.heap.size 5 1 v (pyB Z o err n).length ((pyB Z o err n).map (.int .u8)) ∧ Rdr w' lo hi q Z E (pyO Z o err n) (pyS Z E o err n) ∧ Out lo hi w w' := by
  have H := Lib.hid h; have HE := Lib.hid hE
  have HZ := Lib.hid h.bd; have HS := Lib.hid h.size
  have hn' : (n : Int) ≤ 4611686018427387904 := by omega
  clear h hE hn
  go_enter Tryz.func158, Tryz.ntmps158
  go_wp2_with fail
  go_loopw [6, 10] (fun v i wr => ∃ (j D : Nat), j ≤ n ∧ D = 512 * j ∧ i = .int .i64 j ∧ (0 < j → err = 0) ∧ o + D ≤ Z.length ∧ wr.ownsRow w.heap.size 5 1 v D (((Z.drop o).take D).map (.int .u8)) ∧ Rdr wr lo hi q Z E (o + D) err ∧ Out lo hi w wr) (fun _ i _ => n - (intOf i).toNat)
  case atStart => exact ⟨0, 0, Nat.zero_le _, rfl, rfl, fun h => absurd h (Nat.lt_irrefl _), HS.out.2.2.2, own_none _ _ _ _, H.out, .refl _ _ _⟩
  case round =>
    obtain ⟨j, D, hj, hD, rfl, hj0, hoj, hown, hrd, hout⟩ := hrel
    have HJ := Lib.hid hj; have HD := Lib.hid hD; have HJ0 := Lib.hid hj0; have HO := Lib.hid hoj; have OW := Lib.hid hown; have RR := Lib.hid hrd; have OU := Lib.hid hout
    clear hj hD hj0 hoj hown hrd hout
    by_cases hlt : j < n
    · have hlt' : (j : Int) < n := by omega
      by_cases he : err = 0
      · by_cases hgo : o + D + 512 ≤ Z.length
        · subst he
          obtain ⟨g1, g2, g3⟩ := nx_go (E := E) hgo
          have gl : (nxB Z (o + D) 0).length = 512 := by rw [g1, List.length_take, List.length_drop]; omega
          have GL := Lib.hid gl; have G1 := Lib.hid g1; have HG := Lib.hid hgo
          go_wp2_with fail
          refine (rdr_next wr RR.out HE.out).mono ?_; rintro e w2 ⟨b2, c2, rfl, l2, i2, x2, r2, u2⟩
          rw [g2, g3] at r2
          rw [g2, gl]
          have I2 := Lib.hid i2; have R2 : Hid (Rdr w2 lo hi q Z E (o + (D + 512)) 0) := (congrArg (fun p => Rdr w2 lo hi q Z E p 0) (Nat.add_assoc o D 512)).mp r2
          have U2 := Lib.hid u2
          have OW2 := Lib.hid (own_out OW.out u2 (Nat.le_trans (Nat.le_of_eq rfl) H.out.size.1))
          have Z2 : Hid (w.heap.size ≤ w2.heap.size) := Nat.le_trans OU.out.size u2.size
          have DB : Hid (D + 512 ≤ 140737488355328) := by show _ ≤ _; have := HZ.out.1; have := HG.out; omega
          clear l2 i2 x2 r2 u2 g1 g2 g3 gl hgo
          go_wp2_with (first | (at_builtin; refine wpList_append_k rfl _ _ 24 rfl w.heap.size 5 .u8 1 Tryz.underlying24 u8T _ D ((Z.drop o).take D) rfl OW2.out b2 512 c2 (nxB Z (o + D) 0) rfl I2.out GL.out (by have := DB.out; unfold maxLen; omega) (by have := DB.out; omega) Z2.out ?_; intro v3 w3 h3 b3; have ez : (Z.drop o).take D ++ nxB Z (o + D) 0 = (Z.drop o).take (D + 512) := (by rw [G1.out, List.take_add, List.drop_drop]); rw [ez] at h3; have O3 := Lib.hid h3; have B3 := Lib.hid b3; clear h3 b3 ez))
          go_roundw
          case rel =>
            have ou2 := OU.out.trans U2.out
            have ou3 : Out lo hi w w3 := ⟨B3.out.os.trans ou2.os, B3.out.tape.trans ou2.tape, B3.out.output.trans ou2.output, Nat.le_trans ou2.size B3.out.size, fun x hx hj => (B3.out.block x hx).trans (ou2.block x hx hj)⟩
            exact ⟨j + 1, D + 512, by omega, by have := HD.out; omega, by go_num, fun _ => by trivial, by have := HG.out; omega, O3.out, R2.out.out (out_of_below (h := 0) B3.out) (.inl HS.out.1), ou3⟩
          case measure => simp [intOf]; omega
        · subst he
          obtain ⟨p1, p2, p3, p4⟩ := py_stop (Z := Z) (E := E) (o := o) (n := n) (j := j) (by have := HD.out; have := HO.out; omega) (by have := HD.out; omega) hlt
          rw [← HD.out] at p1 p2 p3
          have hb : nxB Z (o + D) 0 = [] := (nx_stop (E := E) hgo).1
          have hne : (nxE Z E (o + D) 0 != 0) = true := by
            rw [(nx_stop (E := E) hgo).2.1]
            have := HE.out
            split
            · rfl
            · rcases this with h | h <;> rw [h] <;> rfl
          obtain ⟨V, hV⟩ := named (nxE Z E (o + D) 0)
          rw [← hV.out] at p1 p3 hne
          have P1 := Lib.hid p1; have P2 := Lib.hid p2; have P3 := Lib.hid p3; have P4 := Lib.hid p4
          clear p1 p2 p3 p4 hgo
          go_wp2_with fail
          refine (rdr_next wr RR.out HE.out).mono ?_; rintro e w2 ⟨b2, c2, rfl, l2, i2, x2, r2, u2⟩
          rw [← hV.out] at r2
          rw [← hV.out, hb]
          have R2 := Lib.hid r2; have U2 := Lib.hid u2
          clear l2 i2 x2 r2 u2 hb
          go_wp2_with fail
          go_ret2
          rw [P1.out, P2.out, P3.out, P4.out]
          exact ⟨_, rfl, own_none _ _ _ _, R2.out, OU.out.trans U2.out⟩
      · obtain ⟨p1, p2, p3, p4⟩ := py_err (Z := Z) (E := E) (o := o) he (show 0 < n by omega)
        have P1 := Lib.hid p1; have P2 := Lib.hid p2; have P3 := Lib.hid p3; have P4 := Lib.hid p4
        have hj0 : j = 0 := by
          rcases Nat.eq_zero_or_pos j with h | h
          · exact h
          · exact absurd (HJ0.out h) he
        have hD0 : D = 0 := by have := HD.out; omega
        subst hD0
        obtain ⟨g1, g2, g3⟩ := nx_err (Z := Z) (E := E) (o := o + 0) he
        have hne : (err != 0) = true := by simp [he]
        clear p1 p2 p3 p4 hj0
        go_wp2_with fail
        refine (rdr_next wr RR.out HE.out).mono ?_; rintro e w2 ⟨b2, c2, rfl, l2, i2, x2, r2, u2⟩
        rw [g2, g3] at r2
        rw [g2, g1]
        have R2 := Lib.hid r2; have U2 := Lib.hid u2
        clear l2 i2 x2 r2 u2 g1 g2 g3 he
        go_wp2_with fail
        go_ret2
        rw [P1.out, P2.out, P3.out, P4.out]
        exact ⟨_, rfl, own_none _ _ _ _, R2.out, OU.out.trans U2.out⟩
    · obtain rfl : j = n := by have := HJ.out; omega
      have hok : pyOk Z o err j := by
        rcases Nat.eq_zero_or_pos j with h | h
        · exact .inl h
        · exact .inr ⟨HJ0.out h, by have := HD.out; have := HO.out; omega⟩
      obtain ⟨p1, p2, p3, p4⟩ := py_ok (E := E) hok
      rw [← HD.out] at p2 p4
      have pl : ((Z.drop o).take D).length = D := by rw [List.length_take, List.length_drop]; have := HO.out; omega
      have P1 := Lib.hid p1; have P2 := Lib.hid p2; have P3 := Lib.hid p3; have P4 := Lib.hid p4; have PL := Lib.hid pl
      clear p1 p2 p3 p4 pl hok
      go_wp2_with fail
      go_ret2
      rw [P1.out, P2.out, P3.out, P4.out, PL.out]
      exact ⟨_, rfl, OW.out, RR.out, OU.out⟩
end Go.Proofs.YtbbaleambgaanaaGreatDoor
