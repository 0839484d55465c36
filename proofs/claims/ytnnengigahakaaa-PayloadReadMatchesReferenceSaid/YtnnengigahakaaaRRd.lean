/-
  Layer 6: the reference's reader.
-/
import Derived.Test.YtnnengigahakaaaBlkMath
import Derived.Test.YtnnengigahakaaaSrcRefR
import Derived.Test.YtnnengigahakaaaOnly
namespace Go.Proofs.Ytnnengigahakaaa
open Go.RowKit

/-- at q lies the reference's reader of a source that delivers Z and ends with E; it has read o bytes, its error is err; all its memory lies in the blocks lo .. hi -/
def RRd (w : World) (lo hi q : Nat) (Z : List Int) (E : Int) (o : Nat) (err : Int) : Prop :=
  ∃ m h1 zs F cs r, ObjAt w q 36 [.pointer (some ⟨m, 0, none⟩), .int .i64 o, .int .i64 err] ∧ Ref w lo h1 m zs F cs o r ∧ lo ≤ h1 ∧ h1 ≤ q ∧ q < hi ∧ hi ≤ w.heap.size ∧
    Z = zs.take (endN F zs.length) ∧ E = endE F zs.length ∧ o ≤ Z.length

theorem RRd.out {w w' : World} {lo hi q lo' hi' : Nat} {Z : List Int} {E : Int} {o : Nat} {err : Int} (h : RRd w lo hi q Z E o err) (ho : Out lo' hi' w w') (hd : hi ≤ lo' ∨ hi' ≤ lo) : RRd w' lo hi q Z E o err := by
  obtain ⟨m, h1, zs, F, cs, r, k1, k2, k3, k4, k5, k6, k7⟩ := h
  exact ⟨m, h1, zs, F, cs, r, k1.out ho (by omega), k2.out ho (by omega), k3, k4, k5, Nat.le_trans k6 ho.size, k7⟩
theorem RRd.below {w w' : World} {lo hi q : Nat} {Z : List Int} {E : Int} {o : Nat} {err : Int} (h : RRd w lo hi q Z E o err) (hb : Below w.heap.size w w') : RRd w' lo hi q Z E o err := by
  have hh : hi ≤ w.heap.size := by obtain ⟨_, _, _, _, _, _, _, _, _, _, _, k6, _⟩ := h; exact k6
  exact h.out (lo' := hi) (hi' := hi) (.of_below hb (Nat.le_refl _)) (.inl (Nat.le_refl _))
theorem RRd.size {w : World} {lo hi q : Nat} {Z : List Int} {E : Int} {o : Nat} {err : Int} (h : RRd w lo hi q Z E o err) : hi ≤ w.heap.size ∧ lo ≤ q ∧ q < hi ∧ o ≤ Z.length := by
  obtain ⟨_, _, _, _, _, _, _, _, k3, k4, k5, k6, _, _, k7⟩ := h; exact ⟨k6, by omega, k5, k7⟩

set_option maxRecDepth 100000 in
set_option maxHeartbeats 8000000 in
theorem rnext_any {lo hi q : Nat} {Z : List Int} {E : Int} {o : Nat} {err : Int} (w : World) (h : RRd w lo hi q Z E o err) :
    Calls Try.prog 28 #[.pointer (some ⟨q, 0, none⟩)] w fun e w' => ∃ b c, e = .returned (.tuple #[.slice b (nxB Z o err).length c, .int .i64 (nxE Z E o err)]) ∧
      InK .u8 w' b (nxB Z o err) ∧ (∀ x, b = some x → w.heap.size ≤ x.block) ∧ RRd w' lo hi q Z E (nxO Z o err) (nxE Z E o err) ∧ Out lo hi w w' := by
  have H := Lib.hid h
  obtain ⟨m, h1, zs, F, cs, r, k1, k2, k3, k4, k5, k6, k7, k8, k9⟩ := h
  have c0 := k1.get 0 rfl
  have c1 := k1.get 1 rfl
  have c2 := k1.get 2 rfl
  by_cases he : err = 0
  · subst he
    have K1 := Lib.hid k1; have K2 := Lib.hid k2; have K3 := Lib.hid (show lo ≤ h1 ∧ h1 ≤ q ∧ q < hi ∧ hi ≤ w.heap.size from ⟨k3, k4, k5, k6⟩); have K7 := Lib.hid k7; have K8 := Lib.hid k8
    obtain ⟨L, hL⟩ := named Z.length
    have HLe : Hid (L = endN F zs.length) := by show _ = _; rw [hL.out, k7, List.length_take]; have := endN_le F zs.length; omega
    have hL8 : Hid (L ≤ 100000000) := by
      show _ ≤ _
      obtain ⟨_, _, _, _, _, _, _, _, _, q6, _⟩ := k2
      rw [HLe.out]; have := endN_le F zs.length; omega
    have KO : Hid (o ≤ L) := by show _ ≤ _; rw [hL.out]; exact k9
    have E4 : Hid (E = 11 ∨ E = 4) := by show _ ∨ _; rw [k8]; exact endE_ne _ _
    clear k1 k2 k3 k4 k5 k6 k7 k8 k9
    go_enter Try.func28, Try.ntmps28
    go_wp2_with fail
    go_loopw [4, 5, 6] (fun v _ _ wr => ∃ j r' : Nat, j ≤ 512 ∧ o + j ≤ L ∧ wr.ownsRow w.heap.size 5 1 v j (((Z.drop o).take j).map (.int .u8)) ∧ ObjAt wr q 36 [.pointer (some ⟨m, 0, none⟩), .int .i64 ((o + j : Nat) : Int), .int .i64 0] ∧ Ref wr lo h1 m zs F cs (o + j) r' ∧ Out lo hi w wr) (fun v _ _ _ => match v with | .slice _ l _ => 512 - l | _ => 0)
    case atStart => exact ⟨0, r, Nat.zero_le _, KO.out, own_none _ _ _ _, K1.out, K2.out, .refl _ _ _⟩
    case round =>
      obtain ⟨j, r', hj, hoj, hown, hob, href, hout⟩ := hrel
      have OB := Lib.hid hob; have RF := Lib.hid href; have OU := Lib.hid hout; have OW := Lib.hid hown
      have HOJ := Lib.hid hoj
      have JL : Hid (((Z.drop o).take j).length = j) := by show _ = _; rw [List.length_take, List.length_drop, ← hL.out]; omega
      obtain ⟨va, vc, rfl, _⟩ := own_any hown
      have c0 := hob.get 0 rfl
      have c1 := hob.get 1 rfl
      have c2 := hob.get 2 rfl
      have f2 := hob.frozen 2
      clear hob href hout hown hoj
      by_cases hlt : j < 512
      · have hlt' : (j : Int) < 512 := by omega
        by_cases hs : o + j = L
        · have hL512 : ¬ o + 512 ≤ Z.length := by rw [← hL.out]; omega
          obtain ⟨g1, g2, g3⟩ := nx_stop (E := E) hL512
          have G1 := Lib.hid g1; have G2 := Lib.hid g2; have G3 := Lib.hid g3
          clear g1 g2 g3 hL512
          go_wp2_with fail
          refine (rread_stop (512 - (j : Int)) wr RF.out (by omega) (by rw [← HLe.out]; exact hs)).mono ?_; rintro e w2 ⟨rfl, f3, u3⟩
          rw [← K8.out]
          have RF2 := Lib.hid f3; have U2 := Lib.hid u3
          have OB2 := Lib.hid (OB.out.out u3 (.inr (by have := K3.out; omega)))
          clear f3 u3 c0 c1 c2 f2
          have c0 := OB2.out.get 0 rfl
          have c1 := OB2.out.get 1 rfl
          have c2 := OB2.out.get 2 rfl
          have f2 := OB2.out.frozen 2
          have hh : o + j = Z.length := by rw [← hL.out]; exact hs
          have fin : ∀ (w5 : World) (E' : Int) (n' : Nat), ObjAt w5 q 36 [.pointer (some ⟨m, 0, none⟩), .int .i64 ((o + j : Nat) : Int), .int .i64 E'] → Out q (q + 1) w2 w5 → RRd (w5.drewN n') lo hi q Z E Z.length E' ∧ Out lo hi w (w5.drewN n') := by
            intro w5 E' n' ob h5
            have k3 := K3.out
            have rf := RF2.out.out h5 (.inl (by omega))
            rw [hh] at ob rf
            refine ⟨⟨m, h1, zs, F, cs, r', ob, rf, by omega, by omega, by omega, ?_, K7.out, K8.out, Nat.le_refl _⟩, ?_⟩
            · have := OU.out.size; have := U2.out.size; have h6 : w2.heap.size ≤ w5.heap.size := h5.size; show hi ≤ w5.heap.size; omega
            · exact ((OU.out.trans (U2.out.wide (by omega) (by omega))).trans (h5.wide (by omega) (by omega))).trans (drewN_out _ _ _ _)
          have o1 : ∀ v, Out q (q + 1) w2 (w2.setCell ⟨q, 2, none⟩ v) := fun v => (Out.refl q (q + 1) w2).setCell (p := ⟨q, 2, none⟩) (Nat.le_refl _) (Nat.lt_succ_self _) v
          have O1 := Lib.hid o1
          clear o1
          have FIN := Lib.hid fin
          clear fin
          rcases E4.out with e11 | e4
          · have en : (E == 4) = false := by rw [e11]; rfl
            have e5 : Hid ((if E = 4 ∧ o < Z.length then (5 : Int) else E) = E) := by show _ = _; rw [if_neg (by omega)]
            have en0 : (E != 0) = true := by rw [e11]; rfl
            clear e11
            go_wp2_with fail
            go_quiet (fail)
            go_wp2
            go_ret2
            rw [G1.out, G2.out, G3.out, e5.out]
            exact ⟨none, 0, rfl, .inl rfl, (fun x hx => by cases hx), FIN.out _ _ _ (OB2.out.set 2 _) (O1.out _)⟩
          · have en : (E == 4) = true := by rw [e4]; rfl
            have en0 : (E != 0) = true := by rw [e4]; rfl
            by_cases hj0 : j = 0
            · subst hj0
              have e5 : Hid ((if E = 4 ∧ o < Z.length then (5 : Int) else E) = E) := by show _ = _; rw [if_neg (by omega)]
              clear e4
              go_wp2_with fail
              go_quiet (fail)
              go_wp2
              go_ret2
              rw [G1.out, G2.out, G3.out, e5.out]
              exact ⟨none, 0, rfl, .inl rfl, (fun x hx => by cases hx), FIN.out _ _ _ (OB2.out.set 2 _) (O1.out _)⟩
            · have hj0' : (0 : Int) < j := by omega
              have e5 : Hid ((if E = 4 ∧ o < Z.length then (5 : Int) else E) = 5) := by show _ = _; rw [if_pos (by omega)]
              clear e4
              go_wp2_with fail
              go_quiet (fail)
              go_wp2
              go_ret2
              rw [G1.out, G2.out, G3.out, e5.out]
              exact ⟨none, 0, rfl, .inl rfl, (fun x hx => by cases hx), FIN.out _ _ _ ((OB2.out.set 2 _).set 2 _) ((O1.out _).setCell (p := ⟨q, 2, none⟩) (Nat.le_refl _) (Nat.lt_succ_self _) _)⟩
        · have hgo : o + j < L := by have := HOJ.out; omega
          have hj5 : Hid (o + j < endN F zs.length) := by show _ < _; rw [← HLe.out]; exact hgo
          obtain ⟨k, hk⟩ := named (readK (endN F zs.length) cs (o + j) r' (512 - (j : Int)))
          have hb := readK_bd (cs := cs) (r := r') (n := 512 - (j : Int)) (by omega) hj5.out
          rw [← hk.out, ← HLe.out] at hb
          obtain ⟨kb1, kb2, kb3⟩ := hb
          have HKB := Lib.hid (show 1 ≤ k ∧ o + j + k ≤ L ∧ j + k ≤ 512 by omega)
          clear kb1 kb2 kb3
          go_wp2_with fail
          refine (rread_go (512 - (j : Int)) wr RF.out (by omega) (by omega) hj5.out k hk.out.symm).mono ?_; rintro e w2 ⟨b2, cc2, rfl, i2, x2, f3, u3⟩
          have I2 := Lib.hid i2; have X2 := Lib.hid x2; have RF3 : Hid (Ref w2 lo h1 m zs F cs (o + (j + k)) (r' + 1)) := (congrArg (fun p => Ref w2 lo h1 m zs F cs p (r' + 1)) (Nat.add_assoc o j k)).mp f3; have U2 := Lib.hid u3
          have OB2 := Lib.hid (OB.out.out u3 (.inr (by have := K3.out; omega)))
          have OW2 := Lib.hid (own_out OW.out u3 (by have := K3.out; omega))
          have e0 : (zs.drop (o + j)).take k = (Z.drop (o + j)).take k := by
            rw [K7.out, List.drop_take, List.take_take, Nat.min_eq_left (by have := HKB.out; have := HLe.out; omega)]
          have I2' : Hid (InK .u8 w2 b2 ((Z.drop (o + j)).take k)) := by show InK _ _ _ _; rw [← e0]; exact I2.out
          have KL : Hid (((Z.drop (o + j)).take k).length = k) := by show _ = _; rw [List.length_take, List.length_drop, ← hL.out]; have := HKB.out; omega
          have hZ2 : w.heap.size ≤ w2.heap.size := Nat.le_trans OU.out.size u3.size
          have HZ2 := Lib.hid hZ2
          clear i2 x2 f3 u3 c0 c1 c2 f2 e0 hZ2
          have hk5 : j + k ≤ 512 := HKB.out.2.2
          go_wp2_with (first | (at_builtin; refine wpList_append_k rfl _ _ 22 rfl w.heap.size 5 .u8 1 Try.underlying22 u8T _ j ((Z.drop o).take j) rfl OW2.out b2 k cc2 ((Z.drop (o + j)).take k) rfl I2'.out KL.out (by unfold maxLen; omega) (by omega) HZ2.out ?_; intro v3 w3 h3 b3; have ez : (Z.drop o).take j ++ (Z.drop (o + j)).take k = (Z.drop o).take (j + k) := (by rw [List.take_add, List.drop_drop]); rw [ez] at h3; have O3 := Lib.hid h3; have B3 := Lib.hid b3; have OB3 := Lib.hid (OB2.out.below b3 (by have := K3.out; omega)); have c1 := OB3.out.get 1 rfl; have f1 := OB3.out.frozen 1; clear h3 b3 ez))
          go_roundw
          case rel =>
            have k3 := K3.out; have kb := HKB.out
            have e1 : wrap64 ((o : Int) + j + k) = ((o + (j + k) : Nat) : Int) := by
              have := HKB.out; have := hL8.out
              unfold wrap64; omega
            rw [e1]
            have ou2 := OU.out.trans (U2.out.wide (lo' := lo) (hi' := hi) (by omega) (by omega))
            have ou3 : Out lo hi w w3 := ⟨B3.out.os.trans ou2.os, B3.out.tape.trans ou2.tape, B3.out.output.trans ou2.output, Nat.le_trans ou2.size B3.out.size, fun x hx hj => (B3.out.block x hx).trans (ou2.block x hx hj)⟩
            have o1 : Out q (q + 1) w3 (w3.setCell ⟨q, 1, none⟩ (.int .i64 ((o + (j + k) : Nat) : Int))) := (Out.refl q (q + 1) w3).setCell (p := ⟨q, 1, none⟩) (Nat.le_refl _) (Nat.lt_succ_self _) _
            have rf := (RF3.out.out (out_of_below (h := 0) B3.out) (.inl (by omega))).out o1 (.inl (by omega))
            exact ⟨j + k, r' + 1, kb.2.2, Nat.le_trans (Nat.le_of_eq (Nat.add_assoc o j k).symm) kb.2.1, own_out O3.out o1 (by omega), OB3.out.set 1 _, rf, ou3.trans (o1.wide (by omega) (by omega))⟩
          case measure =>
            obtain ⟨b', c', rfl, _⟩ := own_any O3.out
            have := HKB.out
            simp; omega
      · obtain rfl : j = 512 := by omega
        have hL512 : o + 512 ≤ Z.length := by rw [← hL.out]; exact HOJ.out
        obtain ⟨g1, g2, g3⟩ := nx_go (E := E) hL512
        have G1 := Lib.hid g1; have G2 := Lib.hid g2; have G3 := Lib.hid g3
        clear g1 g2 g3
        go_wp2_with fail
        go_ret2
        rw [G1.out, G2.out, G3.out]
        obtain ⟨b', c', hv, i1, _, _, _, x1⟩ := own_any OW.out
        simp only [Value.slice.injEq, true_and] at hv
        obtain ⟨rfl, rfl⟩ := hv
        refine ⟨va, vc, by rw [JL.out]; rfl, i1, fun x hx => (x1 x hx).1, ⟨m, h1, zs, F, cs, r', OB.out, RF.out, K3.out.1, K3.out.2.1, K3.out.2.2.1, Nat.le_trans K3.out.2.2.2 OU.out.size, K7.out, K8.out, hL512⟩, OU.out⟩
  · obtain ⟨g1, g2, g3⟩ := nx_err (Z := Z) (E := E) (o := o) he
    rw [g1, g2, g3]
    clear g1 g2 g3 k1 k2 k3 k4 k5 k6 k7 k8 k9
    go_enter Try.func28, Try.ntmps28
    go_wp2
    go_quiet (fail)
    go_wp2
    go_ret2
    exact ⟨none, 0, rfl, .inl rfl, (fun x hx => by cases hx), H.out.below (drewN_below _ _ _), .of_below (drewN_below _ _ _) (Nat.le_refl _)⟩
end Go.Proofs.Ytnnengigahakaaa
