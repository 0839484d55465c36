/-
  Layer 11: the walk of readBlocks.
-/
import Derived.Test.YtnnengigahakaaaPaySmall
import Derived.Test.YtnnengigahakaaaBlkRdr
namespace Go.Proofs.Ytnnengigahakaaa
open Go.RowKit

theorem Rdr.bd {w : World} {lo hi q : Nat} {Z : List Int} {E : Int} {o : Nat} {err : Int} (h : Rdr w lo hi q Z E o err) : Z.length ≤ 140737488355328 ∧ Bytes Z := by
  obtain ⟨s, h1, cs, r, k1, k2, k3⟩ := h
  refine ⟨?_, k2.bytes.1⟩
  obtain ⟨_, _, _, _, _, _, _, _, _, _, q6, _⟩ := k2
  exact q6

set_option maxRecDepth 100000 in
set_option maxHeartbeats 8000000 in
theorem rblk_any {lo hi q : Nat} {Z : List Int} {E : Int} {o : Nat} {err : Int} (n : Nat) (w : World) (h : Rdr w lo hi q Z E o err) (hE : E = 11 ∨ E = 4) (hn : n ≤ 4611686018427387904) :
    Calls Try.prog 25 #[.pointer (some ⟨q, 0, none⟩), .int .i64 n] w fun e w' => ∃ v, e = .returned (.tuple #[v, .int .i64 (pyE Z E o err n)]) ∧
      w'.ownsRow w.heap.size 5 1 v (pyB Z o err n).length ((pyB Z o err n).map (.int .u8)) ∧ Rdr w' lo hi q Z E (pyO Z o err n) (pyS Z E o err n) ∧ Out lo hi w w' := by
  have H := Lib.hid h; have HE := Lib.hid hE
  have HZ := Lib.hid h.bd; have HS := Lib.hid h.size
  have hn' : (n : Int) ≤ 4611686018427387904 := by omega
  clear h hE hn
  go_enter Try.func25, Try.ntmps25
  go_wp2_with fail
  go_loopw [6, 10] (fun v i wr => ∃ (j D : Nat), j ≤ n ∧ D = 512 * j ∧ i = .int .i64 j ∧ (0 < j → err = 0) ∧ o + D ≤ Z.length ∧ wr.ownsRow w.heap.size 5 1 v D (((Z.drop o).take D).map (.int .u8)) ∧ Rdr wr lo hi q Z E (o + D) err ∧ Out lo hi w wr) (fun _ i _ => n - (intOf i).toNat)
  case atStart => exact ⟨0, 0, Nat.zero_le _, rfl, rfl, fun h => absurd h (Nat.lt_irrefl _), HS.out.2.2.2, own_none _ _ _ _, H.out, .refl _ _ _⟩
  case round =>
    obtain ⟨j, D, hj, hD, rfl, hj0, hoj, hown, hrd, hout⟩ := hrel
    have HJ := Lib.hid hj; have HD := Lib.hid hD; have HJ0 := Lib.hid hj0; have HO := Lib.hid hoj; have OW := Lib.hid hown; have RR := Lib.hid hrd; have OU := Lib.hid hout
    clear hj hD hj0 hoj hown hrd hout
    by_cases hlt : j < n
    · have hlt' : (j : Int) < n := by omega
      by_cases he : err = 0
      · by_cases hgo : o + D + 512 ≤ Z.length
        · subst he
          obtain ⟨g1, g2, g3⟩ := nx_go (E := E) hgo
          have gl : (nxB Z (o + D) 0).length = 512 := by rw [g1, List.length_take, List.length_drop]; omega
          have GL := Lib.hid gl; have G1 := Lib.hid g1; have HG := Lib.hid hgo
          go_wp2_with fail
          refine (rdr_next wr RR.out HE.out).mono ?_; rintro e w2 ⟨b2, c2, rfl, l2, i2, x2, r2, u2⟩
          rw [g2, g3] at r2
          rw [g2, gl]
          have I2 := Lib.hid i2; have R2 : Hid (Rdr w2 lo hi q Z E (o + (D + 512)) 0) := (congrArg (fun p => Rdr w2 lo hi q Z E p 0) (Nat.add_assoc o D 512)).mp r2
          have U2 := Lib.hid u2
          have OW2 := Lib.hid (own_out OW.out u2 (Nat.le_trans (Nat.le_of_eq rfl) H.out.size.1))
          have Z2 : Hid (w.heap.size ≤ w2.heap.size) := Nat.le_trans OU.out.size u2.size
          have DB : Hid (D + 512 ≤ 140737488355328) := by show _ ≤ _; have := HZ.out.1; have := HG.out; omega
          clear l2 i2 x2 r2 u2 g1 g2 g3 gl hgo
          go_wp2_with (first | (at_builtin; refine wpList_append_k rfl _ _ 22 rfl w.heap.size 5 .u8 1 Try.underlying22 u8T _ D ((Z.drop o).take D) rfl OW2.out b2 512 c2 (nxB Z (o + D) 0) rfl I2.out GL.out (by have := DB.out; unfold maxLen; omega) (by have := DB.out; omega) Z2.out ?_; intro v3 w3 h3 b3; have ez : (Z.drop o).take D ++ nxB Z (o + D) 0 = (Z.drop o).take (D + 512) := (by rw [G1.out, List.take_add, List.drop_drop]); rw [ez] at h3; have O3 := Lib.hid h3; have B3 := Lib.hid b3; clear h3 b3 ez))
          go_roundw
          case rel =>
            have ou2 := OU.out.trans U2.out
            have ou3 : Out lo hi w w3 := ⟨B3.out.os.trans ou2.os, B3.out.tape.trans ou2.tape, B3.out.output.trans ou2.output, Nat.le_trans ou2.size B3.out.size, fun x hx hj => (B3.out.block x hx).trans (ou2.block x hx hj)⟩
            exact ⟨j + 1, D + 512, by omega, by have := HD.out; omega, by go_num, fun _ => by trivial, by have := HG.out; omega, O3.out, R2.out.out (out_of_below (h := 0) B3.out) (.inl HS.out.1), ou3⟩
          case measure => simp [intOf]; omega
        · subst he
          obtain ⟨p1, p2, p3, p4⟩ := py_stop (Z := Z) (E := E) (o := o) (n := n) (j := j) (by have := HD.out; have := HO.out; omega) (by have := HD.out; omega) hlt
          rw [← HD.out] at p1 p2 p3
          have hb : nxB Z (o + D) 0 = [] := (nx_stop (E := E) hgo).1
          have hne : (nxE Z E (o + D) 0 != 0) = true := by
            rw [(nx_stop (E := E) hgo).2.1]
            have := HE.out
            split
            · rfl
            · rcases this with h | h <;> rw [h] <;> rfl
          obtain ⟨V, hV⟩ := named (nxE Z E (o + D) 0)
          rw [← hV.out] at p1 p3 hne
          have P1 := Lib.hid p1; have P2 := Lib.hid p2; have P3 := Lib.hid p3; have P4 := Lib.hid p4
          clear p1 p2 p3 p4 hgo
          go_wp2_with fail
          refine (rdr_next wr RR.out HE.out).mono ?_; rintro e w2 ⟨b2, c2, rfl, l2, i2, x2, r2, u2⟩
          rw [← hV.out] at r2
          rw [← hV.out, hb]
          have R2 := Lib.hid r2; have U2 := Lib.hid u2
          clear l2 i2 x2 r2 u2 hb
          go_wp2_with fail
          go_ret2
          rw [P1.out, P2.out, P3.out, P4.out]
          exact ⟨_, rfl, own_none _ _ _ _, R2.out, OU.out.trans U2.out⟩
      · obtain ⟨p1, p2, p3, p4⟩ := py_err (Z := Z) (E := E) (o := o) he (show 0 < n by omega)
        have P1 := Lib.hid p1; have P2 := Lib.hid p2; have P3 := Lib.hid p3; have P4 := Lib.hid p4
        have hj0 : j = 0 := by
          rcases Nat.eq_zero_or_pos j with h | h
          · exact h
          · exact absurd (HJ0.out h) he
        have hD0 : D = 0 := by have := HD.out; omega
        subst hD0
        obtain ⟨g1, g2, g3⟩ := nx_err (Z := Z) (E := E) (o := o + 0) he
        have hne : (err != 0) = true := by simp [he]
        clear p1 p2 p3 p4 hj0
        go_wp2_with fail
        refine (rdr_next wr RR.out HE.out).mono ?_; rintro e w2 ⟨b2, c2, rfl, l2, i2, x2, r2, u2⟩
        rw [g2, g3] at r2
        rw [g2, g1]
        have R2 := Lib.hid r2; have U2 := Lib.hid u2
        clear l2 i2 x2 r2 u2 g1 g2 g3 he
        go_wp2_with fail
        go_ret2
        rw [P1.out, P2.out, P3.out, P4.out]
        exact ⟨_, rfl, own_none _ _ _ _, R2.out, OU.out.trans U2.out⟩
    · obtain rfl : j = n := by have := HJ.out; omega
      have hok : pyOk Z o err j := by
        rcases Nat.eq_zero_or_pos j with h | h
        · exact .inl h
        · exact .inr ⟨HJ0.out h, by have := HD.out; have := HO.out; omega⟩
      obtain ⟨p1, p2, p3, p4⟩ := py_ok (E := E) hok
      rw [← HD.out] at p2 p4
      have pl : ((Z.drop o).take D).length = D := by rw [List.length_take, List.length_drop]; have := HO.out; omega
      have P1 := Lib.hid p1; have P2 := Lib.hid p2; have P3 := Lib.hid p3; have P4 := Lib.hid p4; have PL := Lib.hid pl
      clear p1 p2 p3 p4 pl hok
      go_wp2_with fail
      go_ret2
      rw [P1.out, P2.out, P3.out, P4.out, PL.out]
      exact ⟨_, rfl, OW.out, RR.out, OU.out⟩
end Go.Proofs.Ytnnengigahakaaa
