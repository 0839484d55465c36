/- RRd PayRef -/
import Derived.Test.YtbbaleambgaanaaGreatDoorQ5
import Derived.Test.YtbbaleambgaanaaGreatDoorQ23
import Derived.Test.YtbbaleambgaanaaGreatDoorQ20
import Derived.Test.YtbbaleambgaanaaGreatDoorQ22
namespace Go.Proofs.YtbbaleambgaanaaGreatDoor
open Go.RowKit
def RRd (w : World) (lo hi q : Nat) (Z : List Int) (E : Int) (o : Nat) (err : Int) : Prop :=
  ∃ m h1 zs F cs r, ObjAt w q 45 [.pointer (some ⟨m, 0, none⟩), .int .i64 o, .int .i64 err] ∧ Ref w lo h1 m zs F cs o r ∧ lo ≤ h1 ∧ h1 ≤ q ∧ q < hi ∧ hi ≤ w.heap.size ∧
    Z = zs.take (endN F zs.length) ∧ E = endE F zs.length ∧ o ≤ Z.length
theorem RRd.out {w w' : World} {lo hi q lo' hi' : Nat} {Z : List Int} {E : Int} {o : Nat} {err : Int} (h : RRd w lo hi q Z E o err) (ho : Out lo' hi' w w') (hd : hi ≤ lo' ∨ hi' ≤ lo) : RRd w' lo hi q Z E o err := by
  obtain ⟨m, h1, zs, F, cs, r, k1, k2, k3, k4, k5, k6, k7⟩ := h
  exact ⟨m, h1, zs, F, cs, r, k1.out ho (by omega), k2.out ho (by omega), k3, k4, k5, Nat.le_trans k6 ho.size, k7⟩
theorem RRd.below {w w' : World} {lo hi q : Nat} {Z : List Int} {E : Int} {o : Nat} {err : Int} (h : RRd w lo hi q Z E o err) (hb : Below w.heap.size w w') : RRd w' lo hi q Z E o err := by
  have hh : hi ≤ w.heap.size := by obtain ⟨_, _, _, _, _, _, _, _, _, _, _, k6, _⟩ := h; exact k6
  exact h.out (lo' := hi) (hi' := hi) (.of_below hb (Nat.le_refl _)) (.inl (Nat.le_refl _))
theorem RRd.size {w : World} {lo hi q : Nat} {Z : List Int} {E : Int} {o : Nat} {err : Int} (h : RRd w lo hi q Z E o err) : hi ≤ w.heap.size ∧ lo ≤ q ∧ q < hi ∧ o ≤ Z.length := by
  obtain ⟨_, _, _, _, _, _, _, _, k3, k4, k5, k6, _, _, k7⟩ := h; exact ⟨k6, by omega, k5, k7⟩
set_option maxRecDepth 100000 in
set_option maxHeartbeats 8000000 in
theorem rnext_cap {lo hi q : Nat} {Z : List Int} {E : Int} {o : Nat} {err : Int} (w : World) (h : RRd w lo hi q Z E o err) :
    Calls Tryz.prog 39 #[.pointer (some ⟨q, 0, none⟩)] w fun e w' => ∃ b c, e = .returned (.tuple #[.slice b (nxB Z o err).length c, .int .i64 (nxE Z E o err)]) ∧
      ((nxB Z o err).length ≤ c ∧ c ≤ maxLen) ∧ InK .u8 w' b (nxB Z o err) ∧ (∀ x, b = some x → w.heap.size ≤ x.block) ∧ RRd w' lo hi q Z E (nxO Z o err) (nxE Z E o err) ∧ Out lo hi w w' := by
  have H := Lib.hid h
  obtain ⟨m, h1, zs, F, cs, r, k1, k2, k3, k4, k5, k6, k7, k8, k9⟩ := h
  have c0 := k1.get 0 rfl
  have c1 := k1.get 1 rfl
  have c2 := k1.get 2 rfl
  by_cases he : err = 0
  · subst he
    have K1 := Lib.hid k1; have K2 := Lib.hid k2; have K3 := Lib.hid (show lo ≤ h1 ∧ h1 ≤ q ∧ q < hi ∧ hi ≤ w.heap.size from ⟨k3, k4, k5, k6⟩); have K7 := Lib.hid k7; have K8 := Lib.hid k8
    obtain ⟨L, hL⟩ := named Z.length
    have HLe : Hid (L = endN F zs.length) := by show _ = _; rw [hL.out, k7, List.length_take]; have := endN_le F zs.length; omega
    have hL8 : Hid (L ≤ 100000000) := by
      show _ ≤ _
      obtain ⟨_, _, _, _, _, _, _, _, _, q6, _⟩ := k2
      rw [HLe.out]; have := endN_le F zs.length; omega
    have KO : Hid (o ≤ L) := by show _ ≤ _; rw [hL.out]; exact k9
    have E4 : Hid (E = 11 ∨ E = 4) := by show _ ∨ _; rw [k8]; exact endE_ne _ _
    clear k1 k2 k3 k4 k5 k6 k7 k8 k9
    go_enter Tryz.func39, Tryz.ntmps39
    go_wp2_with fail
    go_loopw [4, 5, 6] (fun v _ _ wr => ∃ j r' : Nat, j ≤ 512 ∧ o + j ≤ L ∧ wr.ownsRow w.heap.size 5 1 v j (((Z.drop o).take j).map (.int .u8)) ∧ ObjAt wr q 45 [.pointer (some ⟨m, 0, none⟩), .int .i64 ((o + j : Nat) : Int), .int .i64 0] ∧ Ref wr lo h1 m zs F cs (o + j) r' ∧ Out lo hi w wr) (fun v _ _ _ => match v with | .slice _ l _ => 512 - l | _ => 0)
    case atStart => exact ⟨0, r, Nat.zero_le _, KO.out, own_none _ _ _ _, K1.out, K2.out, .refl _ _ _⟩
    case round =>
      obtain ⟨j, r', hj, hoj, hown, hob, href, hout⟩ := hrel
      have OB := Lib.hid hob; have RF := Lib.hid href; have OU := Lib.hid hout; have OW := Lib.hid hown
      have HOJ := Lib.hid hoj
      have JL : Hid (((Z.drop o).take j).length = j) := by show _ = _; rw [List.length_take, List.length_drop, ← hL.out]; omega
      obtain ⟨va, vc, rfl, _⟩ := own_any hown
      have c0 := hob.get 0 rfl
      have c1 := hob.get 1 rfl
      have c2 := hob.get 2 rfl
      have f2 := hob.frozen 2
      clear hob href hout hown hoj
      by_cases hlt : j < 512
      · have hlt' : (j : Int) < 512 := by omega
        by_cases hs : o + j = L
        · have hL512 : ¬ o + 512 ≤ Z.length := by rw [← hL.out]; omega
          obtain ⟨g1, g2, g3⟩ := nx_stop (E := E) hL512
          have G1 := Lib.hid g1; have G2 := Lib.hid g2; have G3 := Lib.hid g3
          clear g1 g2 g3 hL512
          go_wp2_with fail
          refine (rread_stop (512 - (j : Int)) wr RF.out (by omega) (by rw [← HLe.out]; exact hs)).mono ?_; rintro e w2 ⟨rfl, f3, u3⟩
          rw [← K8.out]
          have RF2 := Lib.hid f3; have U2 := Lib.hid u3
          have OB2 := Lib.hid (OB.out.out u3 (.inr (by have := K3.out; omega)))
          clear f3 u3 c0 c1 c2 f2
          have c0 := OB2.out.get 0 rfl
          have c1 := OB2.out.get 1 rfl
          have c2 := OB2.out.get 2 rfl
          have f2 := OB2.out.frozen 2
          have hh : o + j = Z.length := by rw [← hL.out]; exact hs
          have fin : ∀ (w5 : World) (E' : Int) (n' : Nat), ObjAt w5 q 45 [.pointer (some ⟨m, 0, none⟩), .int .i64 ((o + j : Nat) : Int), .int .i64 E'] → Out q (q + 1) w2 w5 → RRd (w5.drewN n') lo hi q Z E Z.length E' ∧ Out lo hi w (w5.drewN n') := by
            intro w5 E' n' ob h5
            have k3 := K3.out
            have rf := RF2.out.out h5 (.inl (by omega))
            rw [hh] at ob rf
            refine ⟨⟨m, h1, zs, F, cs, r', ob, rf, by omega, by omega, by omega, ?_, K7.out, K8.out, Nat.le_refl _⟩, ?_⟩
            · have := OU.out.size; have := U2.out.size; have h6 : w2.heap.size ≤ w5.heap.size := h5.size; show hi ≤ w5.heap.size; omega
            · exact ((OU.out.trans (U2.out.wide (by omega) (by omega))).trans (h5.wide (by omega) (by omega))).trans (drewN_out _ _ _ _)
          have o1 : ∀ v, Out q (q + 1) w2 (w2.setCell ⟨q, 2, none⟩ v) := fun v => (Out.refl q (q + 1) w2).setCell (p := ⟨q, 2, none⟩) (Nat.le_refl _) (Nat.lt_succ_self _) v
          have O1 := Lib.hid o1
          clear o1
          have FIN := Lib.hid fin
          clear fin
          rcases E4.out with e11 | e4
          · have en : (E == 4) = false := by rw [e11]; rfl
            have e5 : Hid ((if E = 4 ∧ o < Z.length then (5 : Int) else E) = E) := by show _ = _; rw [if_neg (by omega)]
            have en0 : (E != 0) = true := by rw [e11]; rfl
            clear e11
            go_wp2_with fail
            go_quiet (fail)
            go_wp2
            go_ret2
            rw [G1.out, G2.out, G3.out, e5.out]
            exact ⟨none, 0, rfl, ⟨Nat.zero_le _, Nat.zero_le _⟩, .inl rfl, (fun x hx => by cases hx), FIN.out _ _ _ (OB2.out.set 2 _) (O1.out _)⟩
          · have en : (E == 4) = true := by rw [e4]; rfl
            have en0 : (E != 0) = true := by rw [e4]; rfl
            by_cases hj0 : j = 0
            · subst hj0
              have e5 : Hid ((if E = 4 ∧ o < Z.length then (5 : Int) else E) = E) := by show _ = _; rw [if_neg (by omega)]
              clear e4
              go_wp2_with fail
              go_quiet (fail)
              go_wp2
              go_ret2
              rw [G1.out, G2.out, G3.out, e5.out]
              exact ⟨none, 0, rfl, ⟨Nat.zero_le _, Nat.zero_le _⟩, .inl rfl, (fun x hx => by cases hx), FIN.out _ _ _ (OB2.out.set 2 _) (O1.out _)⟩
            · have hj0' : (0 : Int) < j := by omega
              have e5 : Hid ((if E = 4 ∧ o < Z.length then (5 : Int) else E) = 5) := by show _ = _; rw [if_pos (by omega)]
              clear e4
              go_wp2_with fail
              go_quiet (fail)
              go_wp2
              go_ret2
              rw [G1.out, G2.out, G3.out, e5.out]
              exact ⟨none, 0, rfl, ⟨Nat.zero_le _, Nat.zero_le _⟩, .inl rfl, (fun x hx => by cases hx), FIN.out _ _ _ ((OB2.out.set 2 _).set 2 _) ((O1.out _).setCell (p := ⟨q, 2, none⟩) (Nat.le_refl _) (Nat.lt_succ_self _) _)⟩
        · have hgo : o + j < L := by have := HOJ.out; omega
          have hj5 : Hid (o + j < endN F zs.length) := by show _ < _; rw [← HLe.out]; exact hgo
          obtain ⟨k, hk⟩ := named (readK (endN F zs.length) cs (o + j) r' (512 - (j : Int)))
          have hb := readK_bd (cs := cs) (r := r') (n := 512 - (j : Int)) (by omega) hj5.out
          rw [← hk.out, ← HLe.out] at hb
          obtain ⟨kb1, kb2, kb3⟩ := hb
          have HKB := Lib.hid (show 1 ≤ k ∧ o + j + k ≤ L ∧ j + k ≤ 512 by omega)
          clear kb1 kb2 kb3
          go_wp2_with fail
          refine (rread_go (512 - (j : Int)) wr RF.out (by omega) (by omega) hj5.out k hk.out.symm).mono ?_; rintro e w2 ⟨b2, cc2, rfl, i2, x2, f3, u3⟩
          have I2 := Lib.hid i2; have X2 := Lib.hid x2; have RF3 : Hid (Ref w2 lo h1 m zs F cs (o + (j + k)) (r' + 1)) := (congrArg (fun p => Ref w2 lo h1 m zs F cs p (r' + 1)) (Nat.add_assoc o j k)).mp f3; have U2 := Lib.hid u3
          have OB2 := Lib.hid (OB.out.out u3 (.inr (by have := K3.out; omega)))
          have OW2 := Lib.hid (own_out OW.out u3 (by have := K3.out; omega))
          have e0 : (zs.drop (o + j)).take k = (Z.drop (o + j)).take k := by
            rw [K7.out, List.drop_take, List.take_take, Nat.min_eq_left (by have := HKB.out; have := HLe.out; omega)]
          have I2' : Hid (InK .u8 w2 b2 ((Z.drop (o + j)).take k)) := by show InK _ _ _ _; rw [← e0]; exact I2.out
          have KL : Hid (((Z.drop (o + j)).take k).length = k) := by show _ = _; rw [List.length_take, List.length_drop, ← hL.out]; have := HKB.out; omega
          have hZ2 : w.heap.size ≤ w2.heap.size := Nat.le_trans OU.out.size u3.size
          have HZ2 := Lib.hid hZ2
          clear i2 x2 f3 u3 c0 c1 c2 f2 e0 hZ2
          have hk5 : j + k ≤ 512 := HKB.out.2.2
          go_wp2_with (first | (at_builtin; refine wpList_append_k rfl _ _ 24 rfl w.heap.size 5 .u8 1 Tryz.underlying24 u8T _ j ((Z.drop o).take j) rfl OW2.out b2 k cc2 ((Z.drop (o + j)).take k) rfl I2'.out KL.out (by unfold maxLen; omega) (by omega) HZ2.out ?_; intro v3 w3 h3 b3; have ez : (Z.drop o).take j ++ (Z.drop (o + j)).take k = (Z.drop o).take (j + k) := (by rw [List.take_add, List.drop_drop]); rw [ez] at h3; have O3 := Lib.hid h3; have B3 := Lib.hid b3; have OB3 := Lib.hid (OB2.out.below b3 (by have := K3.out; omega)); have c1 := OB3.out.get 1 rfl; have f1 := OB3.out.frozen 1; clear h3 b3 ez))
          go_roundw
          case rel =>
            have k3 := K3.out; have kb := HKB.out
            have e1 : wrap64 ((o : Int) + j + k) = ((o + (j + k) : Nat) : Int) := by
              have := HKB.out; have := hL8.out
              unfold wrap64; omega
            rw [e1]
            have ou2 := OU.out.trans (U2.out.wide (lo' := lo) (hi' := hi) (by omega) (by omega))
            have ou3 : Out lo hi w w3 := ⟨B3.out.os.trans ou2.os, B3.out.tape.trans ou2.tape, B3.out.output.trans ou2.output, Nat.le_trans ou2.size B3.out.size, fun x hx hj => (B3.out.block x hx).trans (ou2.block x hx hj)⟩
            have o1 : Out q (q + 1) w3 (w3.setCell ⟨q, 1, none⟩ (.int .i64 ((o + (j + k) : Nat) : Int))) := (Out.refl q (q + 1) w3).setCell (p := ⟨q, 1, none⟩) (Nat.le_refl _) (Nat.lt_succ_self _) _
            have rf := (RF3.out.out (out_of_below (h := 0) B3.out) (.inl (by omega))).out o1 (.inl (by omega))
            exact ⟨j + k, r' + 1, kb.2.2, Nat.le_trans (Nat.le_of_eq (Nat.add_assoc o j k).symm) kb.2.1, own_out O3.out o1 (by omega), OB3.out.set 1 _, rf, ou3.trans (o1.wide (by omega) (by omega))⟩
          case measure =>
            obtain ⟨b', c', rfl, _⟩ := own_any O3.out
            have := HKB.out
            simp; omega
      · obtain rfl : j = 512 := by omega
        have hL512 : o + 512 ≤ Z.length := by rw [← hL.out]; exact HOJ.out
        obtain ⟨g1, g2, g3⟩ := nx_go (E := E) hL512
        have G1 := Lib.hid g1; have G2 := Lib.hid g2; have G3 := Lib.hid g3
        clear g1 g2 g3
        go_wp2_with fail
        go_ret2
        rw [G1.out, G2.out, G3.out]
        obtain ⟨b', c', hv, i1, hcap, hmx, _, x1⟩ := own_any OW.out
        simp only [Value.slice.injEq, true_and] at hv
        obtain ⟨rfl, rfl⟩ := hv
        refine ⟨va, vc, by rw [JL.out]; rfl, ⟨by rw [JL.out]; exact hcap, hmx⟩, i1, fun x hx => (x1 x hx).1, ⟨m, h1, zs, F, cs, r', OB.out, RF.out, K3.out.1, K3.out.2.1, K3.out.2.2.1, Nat.le_trans K3.out.2.2.2 OU.out.size, K7.out, K8.out, hL512⟩, OU.out⟩
  · obtain ⟨g1, g2, g3⟩ := nx_err (Z := Z) (E := E) (o := o) he
    rw [g1, g2, g3]
    clear g1 g2 g3 k1 k2 k3 k4 k5 k6 k7 k8 k9
    go_enter Tryz.func39, Tryz.ntmps39
    go_wp2
    go_quiet (fail)
    go_wp2
    go_ret2
    exact ⟨none, 0, rfl, ⟨Nat.zero_le _, Nat.zero_le _⟩, .inl rfl, (fun x hx => by cases hx), H.out.below (drewN_below _ _ _), .of_below (drewN_below _ _ _) (Nat.le_refl _)⟩
theorem rnext_any {lo hi q : Nat} {Z : List Int} {E : Int} {o : Nat} {err : Int} (w : World) (h : RRd w lo hi q Z E o err) :
    Calls Tryz.prog 39 #[.pointer (some ⟨q, 0, none⟩)] w fun e w' => ∃ b c, e = .returned (.tuple #[.slice b (nxB Z o err).length c, .int .i64 (nxE Z E o err)]) ∧
      InK .u8 w' b (nxB Z o err) ∧ (∀ x, b = some x → w.heap.size ≤ x.block) ∧ RRd w' lo hi q Z E (nxO Z o err) (nxE Z E o err) ∧ Out lo hi w w' := by
  refine (rnext_cap w h).mono ?_
  rintro e w' ⟨b, c, h1, _, h2⟩
  exact ⟨b, c, h1, h2⟩
end Go.Proofs.YtbbaleambgaanaaGreatDoor
namespace Go.Proofs.YtbbaleambgaanaaGreatDoor
open Go.RowKit
theorem RRd.en {w : World} {lo hi q : Nat} {Z : List Int} {E : Int} {o : Nat} {err : Int} (h : RRd w lo hi q Z E o err) : (E = 11 ∨ E = 4) ∧ Z.length ≤ 100000000 := by
  obtain ⟨m, h1, zs, F, cs, r, k1, k2, k3, k4, k5, k6, k7, k8, k9⟩ := h
  refine ⟨by rw [k8]; exact endE_ne _ _, ?_⟩
  obtain ⟨_, _, _, _, _, _, _, _, _, q6, _⟩ := k2
  rw [k7, List.length_take]
  omega
theorem RRd.cell1 {w : World} {lo hi q : Nat} {Z : List Int} {E : Int} {o : Nat} {err : Int} (h : RRd w lo hi q Z E o err) : w.cell? ⟨q, 1, none⟩ = some (.int .i64 o) := by
  obtain ⟨_, _, _, _, _, _, k1, _⟩ := h
  exact k1.get 1 rfl
theorem rrd_bad {lo hi q : Nat} {Z : List Int} {E : Int} {o : Nat} {err : Int} (z : Int) (w : World) (h : RRd w lo hi q Z E o err) (hz : szBad z) :
    Calls Tryz.prog 84 #[.pointer (some ⟨q, 0, none⟩), .int .i64 z] w fun e w' => e = .returned (.tuple #[.slice none 0 0, .int .i64 o, .int .i64 3]) ∧ RRd w' lo hi q Z E o err ∧ Out lo hi w w' := by
  have H := Lib.hid h
  have c1 := h.cell1
  clear h
  by_cases h0 : z < 0
  · clear hz
    go_enter Tryz.func84, Tryz.ntmps84
    go_wp2_with fail
    go_quiet (fail)
    go_wp2
    go_ret3
    exact ⟨rfl, H.out.below (drewN_below _ _ _), .of_below (drewN_below _ _ _) (Nat.le_refl _)⟩
  · have h1 : 1099511627776 < z := hz.resolve_left h0
    clear hz
    go_enter Tryz.func84, Tryz.ntmps84
    go_wp2_with fail
    go_quiet (fail)
    go_wp2
    go_ret3
    exact ⟨rfl, H.out.below (drewN_below _ _ _), .of_below (drewN_below _ _ _) (Nat.le_refl _)⟩
set_option maxRecDepth 100000 in
set_option maxHeartbeats 8000000 in
theorem rrd_any {lo hi q : Nat} {Z : List Int} {E : Int} {o : Nat} {err : Int} (z : Int) (w : World) (h : RRd w lo hi q Z E o err) :
    Calls Tryz.prog 84 #[.pointer (some ⟨q, 0, none⟩), .int .i64 z] w fun e w' => RetRd (rdD Z o err z) (rdP Z o err z) (rdE Z E o err z) w.heap.size e w' ∧ RRd w' lo hi q Z E (rdO Z o err z) (rdS Z E o err z) ∧ Out lo hi w w' := by
  by_cases hb : szBad z
  · obtain ⟨e1, e2, e3, e4, e5⟩ := rd_bad (Z := Z) (E := E) (o := o) (err := err) hb
    rw [e1, e2, e3, e4, e5]
    refine (rrd_bad z w h hb).mono ?_
    rintro e w' ⟨rfl, r, u⟩
    exact ⟨⟨none, 0, rfl, Nat.le_refl _, .inl rfl, fun x hx => by cases hx⟩, r, u⟩
  · obtain ⟨s, rfl⟩ : ∃ s : Nat, z = s := ⟨z.toNat, by unfold szBad at hb; omega⟩
    have hs : s ≤ 1099511627776 := by unfold szBad at hb; omega
    have hs' : (s : Int) ≤ 1099511627776 := by omega
    have HE := Lib.hid h.en.1; have HZ := Lib.hid h.en.2; have HS := Lib.hid h.size; have H := Lib.hid h
    have c1 := h.cell1
    have hnb := blkN_bd hs
    obtain ⟨n, hn⟩ := named (blkN s)
    have HN : Hid (s ≤ 512 * n ∧ 512 * n < s + 512) := by show _ ∧ _; rw [hn.out]; exact ⟨blkN_le s, blkN_lt s⟩
    have ho8 : (o : Int) ≤ 100000000 := by have := HS.out.2.2.2; have := HZ.out; omega
    have HSS := Lib.hid hs
    clear hb h hs hnb
    go_enter Tryz.func84, Tryz.ntmps84
    go_wp2_with fail
    go_loopw [8, 9, 10] (fun v _ _ wr => ∃ (j D : Nat), j ≤ n ∧ D = 512 * j ∧ (0 < j → err = 0) ∧ o + D ≤ Z.length ∧ wr.ownsRow w.heap.size 5 1 v D (((Z.drop o).take D).map (.int .u8)) ∧ RRd wr lo hi q Z E (o + D) err ∧ Out lo hi w wr) (fun v _ _ _ => match v with | .slice _ l _ => s + 512 - l | _ => 0)
    case atStart => exact ⟨0, 0, Nat.zero_le _, rfl, fun h => absurd h (Nat.lt_irrefl _), HS.out.2.2.2, own_none _ _ _ _, H.out, .refl _ _ _⟩
    case round =>
      obtain ⟨j, D, hj, hD, hj0, hoj, hown, hrd, hout⟩ := hrel
      have HJ := Lib.hid hj; have HD := Lib.hid hD; have HJ0 := Lib.hid hj0; have HO := Lib.hid hoj; have OW := Lib.hid hown; have RR := Lib.hid hrd; have OU := Lib.hid hout
      obtain ⟨va, vc, rfl, i0, hvc, _, _, x0⟩ := own_any hown
      have I0 := Lib.hid i0; have HVC := Lib.hid hvc; have X0 := Lib.hid x0
      clear hj hD hj0 hoj hown hrd hout c1 i0 hvc x0
      by_cases hlt : D < s
      · have hlt' : (D : Int) < s := by omega
        have hjn : j < n := by have := HD.out; have := HN.out; omega
        by_cases he : err = 0
        · by_cases hgo : o + D + 512 ≤ Z.length
          · subst he
            obtain ⟨g1, g2, g3⟩ := nx_go (E := E) hgo
            have gl : (nxB Z (o + D) 0).length = 512 := by rw [g1, List.length_take, List.length_drop]; omega
            have GL := Lib.hid gl; have G1 := Lib.hid g1; have HG := Lib.hid hgo
            go_wp2_with fail
            refine (rnext_any wr RR.out).mono ?_; rintro e w2 ⟨b2, c2, rfl, i2, x2, r2, u2⟩
            rw [g2, g3] at r2
            rw [g2, gl]
            have I2 := Lib.hid i2; have R2 : Hid (RRd w2 lo hi q Z E (o + (D + 512)) 0) := (congrArg (fun p => RRd w2 lo hi q Z E p 0) (Nat.add_assoc o D 512)).mp r2
            have U2 := Lib.hid u2
            have OW2 := Lib.hid (own_out OW.out u2 (Nat.le_trans (Nat.le_of_eq rfl) H.out.size.1))
            have Z2 : Hid (w.heap.size ≤ w2.heap.size) := Nat.le_trans OU.out.size u2.size
            have DB : Hid (D + 512 ≤ 140737488355328) := by show _ ≤ _; have := HZ.out; have := HG.out; omega
            clear i2 x2 r2 u2 g1 g2 g3 gl hgo
            go_wp2_with (first | (at_builtin; refine wpList_append_k rfl _ _ 24 rfl w.heap.size 5 .u8 1 Tryz.underlying24 u8T _ D ((Z.drop o).take D) rfl OW2.out b2 512 c2 (nxB Z (o + D) 0) rfl I2.out GL.out (by have := DB.out; unfold maxLen; omega) (by have := DB.out; omega) Z2.out ?_; intro v3 w3 h3 b3; have ez : (Z.drop o).take D ++ nxB Z (o + D) 0 = (Z.drop o).take (D + 512) := (by rw [G1.out, List.take_add, List.drop_drop]); rw [ez] at h3; have O3 := Lib.hid h3; have B3 := Lib.hid b3; clear h3 b3 ez))
            go_roundw
            case rel =>
              have ou2 := OU.out.trans U2.out
              have ou3 : Out lo hi w w3 := ⟨B3.out.os.trans ou2.os, B3.out.tape.trans ou2.tape, B3.out.output.trans ou2.output, Nat.le_trans ou2.size B3.out.size, fun x hx hj => (B3.out.block x hx).trans (ou2.block x hx hj)⟩
              exact ⟨j + 1, D + 512, by omega, by have := HD.out; omega, fun _ => by trivial, by have := HG.out; omega, O3.out, R2.out.out (out_of_below (h := 0) B3.out) (.inl HS.out.1), ou3⟩
            case measure =>
              obtain ⟨b', c', rfl, _⟩ := own_any O3.out
              simp; omega
          · subst he
            obtain ⟨p1, p2, p3, p4⟩ := py_stop (Z := Z) (E := E) (o := o) (n := n) (j := j) (by have := HD.out; have := HO.out; omega) (by have := HD.out; omega) hjn
            rw [← HD.out] at p1 p2 p3
            have hok : ¬ pyOk Z o 0 n := fun h => h.elim (fun h => by omega) (fun h => by have := HD.out; omega)
            obtain ⟨e1, e2, e3, e4, e5⟩ := rd_no (E := E) HSS.out hn.out hok
            have hb : nxB Z (o + D) 0 = [] := (nx_stop (E := E) hgo).1
            have hne : nxE Z E (o + D) 0 ≠ 0 := by
              rw [(nx_stop (E := E) hgo).2.1]
              have := HE.out
              split
              · decide
              · rcases this with h | h <;> rw [h] <;> decide
            obtain ⟨V, hV⟩ := named (nxE Z E (o + D) 0)
            obtain ⟨O, hO⟩ := named (nxO Z (o + D) 0)
            rw [← hV.out] at p1 p3 hne
            rw [← hO.out] at p2
            rw [p1] at e1; rw [p2] at e2 e4; rw [p3] at e5
            have P1 := Lib.hid e1; have P2 := Lib.hid e2; have P3 := Lib.hid e3; have P4 := Lib.hid e4; have P5 := Lib.hid e5
            clear p1 p2 p3 p4 hgo e1 e2 e3 e4 e5 hok
            by_cases h4 : V = 4
            · have h4' : (V == 4) = true := by simp [h4]
              have P1' : Hid (rdE Z E o 0 s = 5) := by show _ = _; rw [P1.out, if_pos h4]
              clear h4 hne
              go_wp2_with fail
              refine (rnext_any wr RR.out).mono ?_; rintro e w2 ⟨b2, c2, rfl, i2, x2, r2, u2⟩
              rw [← hV.out, ← hO.out] at r2
              rw [← hV.out, hb]
              have R2 := Lib.hid r2; have U2 := Lib.hid u2
              have c1 := r2.cell1
              clear i2 x2 r2 u2 hb
              go_wp2_with fail
              go_quiet (fail)
              go_wp2
              go_ret3
              rw [P1'.out, P2.out, P3.out, P4.out, P5.out]
              exact ⟨⟨none, 0, rfl, Nat.le_refl _, .inl rfl, fun x hx => by cases hx⟩, R2.out.below (drewN_below _ _ _), (OU.out.trans U2.out).trans (drewN_out _ _ _ _)⟩
            · have h4' : (V == 4) = false := by simp [h4]
              have hne' : (V != 0) = true := by simp [hne]
              have P1' : Hid (rdE Z E o 0 s = V) := by show _ = _; rw [P1.out, if_neg h4]
              clear h4 hne
              go_wp2_with fail
              refine (rnext_any wr RR.out).mono ?_; rintro e w2 ⟨b2, c2, rfl, i2, x2, r2, u2⟩
              rw [← hV.out, ← hO.out] at r2
              rw [← hV.out, hb]
              have R2 := Lib.hid r2; have U2 := Lib.hid u2
              have c1 := r2.cell1
              clear i2 x2 r2 u2 hb
              go_wp2_with fail
              go_quiet (fail)
              go_wp2
              go_ret3
              rw [P1'.out, P2.out, P3.out, P4.out, P5.out]
              exact ⟨⟨none, 0, rfl, Nat.le_refl _, .inl rfl, fun x hx => by cases hx⟩, R2.out.below (drewN_below _ _ _), (OU.out.trans U2.out).trans (drewN_out _ _ _ _)⟩
        · obtain ⟨p1, p2, p3, p4⟩ := py_err (Z := Z) (E := E) (o := o) he (show 0 < n by omega)
          have hok : ¬ pyOk Z o err n := fun h => h.elim (fun h => by omega) (fun h => he h.1)
          obtain ⟨e1, e2, e3, e4, e5⟩ := rd_no (E := E) HSS.out hn.out hok
          rw [p1] at e1; rw [p2] at e2 e4; rw [p3] at e5
          have P1 := Lib.hid e1; have P2 := Lib.hid e2; have P3 := Lib.hid e3; have P4 := Lib.hid e4; have P5 := Lib.hid e5
          have hj0 : j = 0 := by
            rcases Nat.eq_zero_or_pos j with h | h
            · exact h
            · exact absurd (HJ0.out h) he
          have hD0 : D = 0 := by have := HD.out; omega
          subst hD0
          obtain ⟨g1, g2, g3⟩ := nx_err (Z := Z) (E := E) (o := o + 0) he
          have hne' : (err != 0) = true := by simp [he]
          clear p1 p2 p3 p4 hj0 e1 e2 e3 e4 e5 hok
          by_cases h4 : err = 4
          · have h4' : (err == 4) = true := by simp [h4]
            have P1' : Hid (rdE Z E o err s = 5) := by show _ = _; rw [P1.out, if_pos h4]
            clear h4 he
            go_wp2_with fail
            refine (rnext_any wr RR.out).mono ?_; rintro e w2 ⟨b2, c2, rfl, i2, x2, r2, u2⟩
            rw [g2, g3] at r2
            rw [g2, g1]
            have R2 := Lib.hid r2; have U2 := Lib.hid u2
            have c1 : w2.cell? ⟨q, 1, none⟩ = some (.int .i64 o) := r2.cell1
            clear i2 x2 r2 u2 g1 g2 g3
            go_wp2_with fail
            go_quiet (fail)
            go_wp2
            go_ret3
            rw [P1'.out, P2.out, P3.out, P4.out, P5.out]
            exact ⟨⟨none, 0, rfl, Nat.le_refl _, .inl rfl, fun x hx => by cases hx⟩, R2.out.below (drewN_below _ _ _), (OU.out.trans U2.out).trans (drewN_out _ _ _ _)⟩
          · have h4' : (err == 4) = false := by simp [h4]
            have P1' : Hid (rdE Z E o err s = err) := by show _ = _; rw [P1.out, if_neg h4]
            clear h4 he
            go_wp2_with fail
            refine (rnext_any wr RR.out).mono ?_; rintro e w2 ⟨b2, c2, rfl, i2, x2, r2, u2⟩
            rw [g2, g3] at r2
            rw [g2, g1]
            have R2 := Lib.hid r2; have U2 := Lib.hid u2
            have c1 : w2.cell? ⟨q, 1, none⟩ = some (.int .i64 o) := r2.cell1
            clear i2 x2 r2 u2 g1 g2 g3
            go_wp2_with fail
            go_quiet (fail)
            go_wp2
            go_ret3
            rw [P1'.out, P2.out, P3.out, P4.out, P5.out]
            exact ⟨⟨none, 0, rfl, Nat.le_refl _, .inl rfl, fun x hx => by cases hx⟩, R2.out.below (drewN_below _ _ _), (OU.out.trans U2.out).trans (drewN_out _ _ _ _)⟩
      · obtain rfl : j = n := by have := HJ.out; have := HD.out; have := HN.out; omega
        have hok : pyOk Z o err j := by
          rcases Nat.eq_zero_or_pos j with h | h
          · exact .inl h
          · exact .inr ⟨HJ0.out h, by have := HD.out; have := HO.out; omega⟩
        have hlt' : ¬ (D : Int) < s := by omega
        obtain ⟨X, hX⟩ := named ((Z.drop o).take D)
        have XL : Hid (X.length = D) := by show _ = _; rw [hX.out, List.length_take, List.length_drop]; have := HO.out; omega
        have hpad : rdPad Z o s = X.drop s := by unfold rdPad; rw [hX.out, ← hn.out, ← HD.out]
        have hdat : (Z.drop o).take s = X.take s := by rw [hX.out, List.take_take, Nat.min_eq_left (by omega)]
        have HPD := Lib.hid hpad; have HDT := Lib.hid hdat
        have HOK := Lib.hid hok
        have PL : Hid ((X.drop s).length = D - s) := by show _ = _; rw [List.length_drop, XL.out]
        have XS : Hid ((X.take s).length = s) := by show _ = _; rw [List.length_take, XL.out]; omega
        obtain ⟨k, hk⟩ := named (nzI (X.drop s))
        have HK : Hid (k ≤ D - s) := by show _ ≤ _; rw [hk.out, ← PL.out]; exact nzI_le _
        have I1 : Hid (InK .u8 wr va X) := by show InK _ _ _ _; rw [hX.out]; exact I0.out
        have hsD : s ≤ D := by omega
        have HSD := Lib.hid hsD
        have hsD' : (s : Int) ≤ D := by omega
        have c1 := RR.out.cell1
        have hD9 : (D : Int) ≤ 100000000 := by have := HO.out; have := HZ.out; omega
        have hvc' : (s : Int) ≤ vc := by have := HVC.out; omega
        clear hok hpad hdat hlt
        go_wp2_with fail
        go_loop [11] (fun i => ∃ x : Nat, x ≤ k ∧ i = .int .i64 ((s : Int) + x)) (fun i => D - (intOf i).toNat)
        case atStart => exact ⟨0, Nat.zero_le _, by simp⟩
        case round =>
          obtain ⟨x, hx, rfl⟩ := hrel
          have HX := Lib.hid hx
          clear hx
          by_cases hxD : s + x < D
          · have hxD' : (s : Int) + x < D := by omega
            obtain ⟨b, off, rfl, _⟩ := I1.out.plain (by rw [XL.out]; omega)
            obtain ⟨d, hd⟩ := named ((X.drop s).getD x 0)
            have hcell := I1.out.get (s + x) (by rw [XL.out]; exact hxD)
            have hde : X.getD (s + x) 0 = d := by rw [hd.out, List.getD_eq_getElem?_getD, List.getD_eq_getElem?_getD, List.getElem?_drop]
            rw [hde] at hcell
            clear hde
            by_cases hxk : x < k
            · have hd0 : d = 0 := by rw [hd.out]; exact nzI_zero (by rw [← hk.out]; exact hxk)
              have hne : (d != 0) = false := by rw [hd0]; rfl
              clear hd hd0
              go_wp2_with fail
              go_round
              case rel => exact ⟨x + 1, by omega, by simp; omega⟩
              case measure => simp [intOf]; omega
            · obtain rfl : x = k := by have := HX.out; omega
              have hd0 : d ≠ 0 := by rw [hd.out, hk.out]; exact nzI_lt (by rw [← hk.out, PL.out]; omega)
              have hne : (d != 0) = true := by simp [hd0]
              have hi : nzI (rdPad Z o s) < (rdPad Z o s).length := by rw [HPD.out, ← hk.out, PL.out]; omega
              obtain ⟨e1, e2, e3, e4, e5⟩ := rd_pad (E := E) HSS.out hn.out HOK.out hi
              rw [HPD.out, ← hk.out] at e2
              rw [← HD.out] at e4
              have P1 := Lib.hid e1; have P2 := Lib.hid e2; have P3 := Lib.hid e3; have P4 := Lib.hid e4; have P5 := Lib.hid e5
              clear hd hd0 hi e1 e2 e3 e4 e5
              go_wp2_with fail
              go_ret3
              rw [P1.out, P2.out, P3.out, P4.out, P5.out, show (o : Int) + ((s : Int) + x) = ((o + (s + x) : Nat) : Int) by omega]
              exact ⟨⟨none, 0, rfl, Nat.le_refl _, .inl rfl, fun x hx => by cases hx⟩, RR.out, OU.out⟩
          · have hxD' : ¬ (s : Int) + x < D := by omega
            have hi : ¬ nzI (rdPad Z o s) < (rdPad Z o s).length := by rw [HPD.out, ← hk.out, PL.out]; have := HX.out; omega
            obtain ⟨e1, e2, e3, e4, e5⟩ := rd_ok (E := E) HSS.out hn.out HOK.out hi
            rw [← HD.out] at e2 e4
            rw [HDT.out] at e3
            have P1 := Lib.hid e1; have P2 := Lib.hid e2; have P3 := Lib.hid e3; have P4 := Lib.hid e4; have P5 := Lib.hid e5
            clear hi e1 e2 e3 e4 e5
            rcases OW.out.2 with ⟨hv, h0⟩ | ⟨g, cap, cur, hv, _⟩
            · simp only [Value.slice.injEq] at hv
              obtain ⟨rfl, hD0, rfl⟩ := hv
              obtain rfl : s = 0 := by omega
              subst hD0
              go_wp2_with fail
              go_quiet (fail)
              go_wp2
              go_ret3
              rw [P1.out, P2.out, P3.out, P4.out, P5.out, List.take_zero]
              exact ⟨⟨none, 0, rfl, Nat.le_refl _, .inl rfl, fun x hx => by cases hx⟩, RR.out.below (drewN_below _ _ _), OU.out.trans (drewN_out _ _ _ _)⟩
            · simp only [Value.slice.injEq, true_and] at hv
              obtain ⟨rfl, rfl⟩ := hv
              go_wp2_with fail
              go_quiet (fail)
              go_wp2
              go_ret3
              rw [P1.out, P2.out, P3.out, P4.out, P5.out]
              exact ⟨⟨some ⟨g, 0, none⟩, vc, by rw [XS.out]; first | rfl | (simp; done) | (simp; omega), by rw [XS.out]; omega, (I1.out.below (drewN_below _ _ _)).taken s, fun x hx => (X0.out x hx).1⟩, RR.out.below (drewN_below _ _ _), OU.out.trans (drewN_out _ _ _ _)⟩
end Go.Proofs.YtbbaleambgaanaaGreatDoor
