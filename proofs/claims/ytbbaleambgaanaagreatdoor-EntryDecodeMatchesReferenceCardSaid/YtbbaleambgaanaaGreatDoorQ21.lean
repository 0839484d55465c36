/- PayBlks EtrSmall -/
import Derived.Test.YtbbaleambgaanaaGreatDoorQ18
import Derived.Test.YtbbaleambgaanaaGreatDoorQ20
import Derived.Test.YtbbaleambgaanaaGreatDoorQ19
import Derived.Test.YtbbaleambgaanaaGreatDoorQ5
import Derived.Test.YtbbaleambgaanaaGreatDoorQ11
import Derived.Test.YtbbaleambgaanaaGreatDoorQ8
namespace Go.Proofs.YtbbaleambgaanaaGreatDoor
open Go.RowKit
theorem Rdr.bd {w : World} {lo hi q : Nat} {Z : List Int} {E : Int} {o : Nat} {err : Int} (h : Rdr w lo hi q Z E o err) : Z.length ≤ 140737488355328 ∧ Bytes Z := by
  obtain ⟨s, h1, cs, r, k1, k2, k3⟩ := h
  refine ⟨?_, k2.bytes.1⟩
  obtain ⟨_, _, _, _, _, _, _, _, _, _, q6, _⟩ := k2
  exact q6
set_option maxRecDepth 100000 in
set_option maxHeartbeats 8000000 in
theorem rblk_any {lo hi q : Nat} {Z : List Int} {E : Int} {o : Nat} {err : Int} (n : Nat) (w : World) (h : Rdr w lo hi q Z E o err) (hE : E = 11 ∨ E = 4) (hn : n ≤ 4611686018427387904) :
    Calls Tryz.prog 158 #[.pointer (some ⟨q, 0, none⟩), .int .i64 n] w fun e w' => ∃ v, e = .returned (.tuple #[v, .int .i64 (pyE Z E o err n)]) ∧
      w'.ownsRow w.heap.size 5 1 v (pyB Z o err n).length ((pyB Z o err n).map (.int .u8)) ∧ Rdr w' lo hi q Z E (pyO Z o err n) (pyS Z E o err n) ∧ Out lo hi w w' := by
  have H := Lib.hid h; have HE := Lib.hid hE
  have HZ := Lib.hid h.bd; have HS := Lib.hid h.size
  have hn' : (n : Int) ≤ 4611686018427387904 := by omega
  clear h hE hn
  go_enter Tryz.func158, Tryz.ntmps158
  go_wp2_with fail
  go_loopw [6, 10] (fun v i wr => ∃ (j D : Nat), j ≤ n ∧ D = 512 * j ∧ i = .int .i64 j ∧ (0 < j → err = 0) ∧ o + D ≤ Z.length ∧ wr.ownsRow w.heap.size 5 1 v D (((Z.drop o).take D).map (.int .u8)) ∧ Rdr wr lo hi q Z E (o + D) err ∧ Out lo hi w wr) (fun _ i _ => n - (intOf i).toNat)
  case atStart => exact ⟨0, 0, Nat.zero_le _, rfl, rfl, fun h => absurd h (Nat.lt_irrefl _), HS.out.2.2.2, own_none _ _ _ _, H.out, .refl _ _ _⟩
  case round =>
    obtain ⟨j, D, hj, hD, rfl, hj0, hoj, hown, hrd, hout⟩ := hrel
    have HJ := Lib.hid hj; have HD := Lib.hid hD; have HJ0 := Lib.hid hj0; have HO := Lib.hid hoj; have OW := Lib.hid hown; have RR := Lib.hid hrd; have OU := Lib.hid hout
    clear hj hD hj0 hoj hown hrd hout
    by_cases hlt : j < n
    · have hlt' : (j : Int) < n := by omega
      by_cases he : err = 0
      · by_cases hgo : o + D + 512 ≤ Z.length
        · subst he
          obtain ⟨g1, g2, g3⟩ := nx_go (E := E) hgo
          have gl : (nxB Z (o + D) 0).length = 512 := by rw [g1, List.length_take, List.length_drop]; omega
          have GL := Lib.hid gl; have G1 := Lib.hid g1; have HG := Lib.hid hgo
          go_wp2_with fail
          refine (rdr_next wr RR.out HE.out).mono ?_; rintro e w2 ⟨b2, c2, rfl, l2, i2, x2, r2, u2⟩
          rw [g2, g3] at r2
          rw [g2, gl]
          have I2 := Lib.hid i2; have R2 : Hid (Rdr w2 lo hi q Z E (o + (D + 512)) 0) := (congrArg (fun p => Rdr w2 lo hi q Z E p 0) (Nat.add_assoc o D 512)).mp r2
          have U2 := Lib.hid u2
          have OW2 := Lib.hid (own_out OW.out u2 (Nat.le_trans (Nat.le_of_eq rfl) H.out.size.1))
          have Z2 : Hid (w.heap.size ≤ w2.heap.size) := Nat.le_trans OU.out.size u2.size
          have DB : Hid (D + 512 ≤ 140737488355328) := by show _ ≤ _; have := HZ.out.1; have := HG.out; omega
          clear l2 i2 x2 r2 u2 g1 g2 g3 gl hgo
          go_wp2_with (first | (at_builtin; refine wpList_append_k rfl _ _ 24 rfl w.heap.size 5 .u8 1 Tryz.underlying24 u8T _ D ((Z.drop o).take D) rfl OW2.out b2 512 c2 (nxB Z (o + D) 0) rfl I2.out GL.out (by have := DB.out; unfold maxLen; omega) (by have := DB.out; omega) Z2.out ?_; intro v3 w3 h3 b3; have ez : (Z.drop o).take D ++ nxB Z (o + D) 0 = (Z.drop o).take (D + 512) := (by rw [G1.out, List.take_add, List.drop_drop]); rw [ez] at h3; have O3 := Lib.hid h3; have B3 := Lib.hid b3; clear h3 b3 ez))
          go_roundw
          case rel =>
            have ou2 := OU.out.trans U2.out
            have ou3 : Out lo hi w w3 := ⟨B3.out.os.trans ou2.os, B3.out.tape.trans ou2.tape, B3.out.output.trans ou2.output, Nat.le_trans ou2.size B3.out.size, fun x hx hj => (B3.out.block x hx).trans (ou2.block x hx hj)⟩
            exact ⟨j + 1, D + 512, by omega, by have := HD.out; omega, by go_num, fun _ => by trivial, by have := HG.out; omega, O3.out, R2.out.out (out_of_below (h := 0) B3.out) (.inl HS.out.1), ou3⟩
          case measure => simp [intOf]; omega
        · subst he
          obtain ⟨p1, p2, p3, p4⟩ := py_stop (Z := Z) (E := E) (o := o) (n := n) (j := j) (by have := HD.out; have := HO.out; omega) (by have := HD.out; omega) hlt
          rw [← HD.out] at p1 p2 p3
          have hb : nxB Z (o + D) 0 = [] := (nx_stop (E := E) hgo).1
          have hne : (nxE Z E (o + D) 0 != 0) = true := by
            rw [(nx_stop (E := E) hgo).2.1]
            have := HE.out
            split
            · rfl
            · rcases this with h | h <;> rw [h] <;> rfl
          obtain ⟨V, hV⟩ := named (nxE Z E (o + D) 0)
          rw [← hV.out] at p1 p3 hne
          have P1 := Lib.hid p1; have P2 := Lib.hid p2; have P3 := Lib.hid p3; have P4 := Lib.hid p4
          clear p1 p2 p3 p4 hgo
          go_wp2_with fail
          refine (rdr_next wr RR.out HE.out).mono ?_; rintro e w2 ⟨b2, c2, rfl, l2, i2, x2, r2, u2⟩
          rw [← hV.out] at r2
          rw [← hV.out, hb]
          have R2 := Lib.hid r2; have U2 := Lib.hid u2
          clear l2 i2 x2 r2 u2 hb
          go_wp2_with fail
          go_ret2
          rw [P1.out, P2.out, P3.out, P4.out]
          exact ⟨_, rfl, own_none _ _ _ _, R2.out, OU.out.trans U2.out⟩
      · obtain ⟨p1, p2, p3, p4⟩ := py_err (Z := Z) (E := E) (o := o) he (show 0 < n by omega)
        have P1 := Lib.hid p1; have P2 := Lib.hid p2; have P3 := Lib.hid p3; have P4 := Lib.hid p4
        have hj0 : j = 0 := by
          rcases Nat.eq_zero_or_pos j with h | h
          · exact h
          · exact absurd (HJ0.out h) he
        have hD0 : D = 0 := by have := HD.out; omega
        subst hD0
        obtain ⟨g1, g2, g3⟩ := nx_err (Z := Z) (E := E) (o := o + 0) he
        have hne : (err != 0) = true := by simp [he]
        clear p1 p2 p3 p4 hj0
        go_wp2_with fail
        refine (rdr_next wr RR.out HE.out).mono ?_; rintro e w2 ⟨b2, c2, rfl, l2, i2, x2, r2, u2⟩
        rw [g2, g3] at r2
        rw [g2, g1]
        have R2 := Lib.hid r2; have U2 := Lib.hid u2
        clear l2 i2 x2 r2 u2 g1 g2 g3 he
        go_wp2_with fail
        go_ret2
        rw [P1.out, P2.out, P3.out, P4.out]
        exact ⟨_, rfl, own_none _ _ _ _, R2.out, OU.out.trans U2.out⟩
    · obtain rfl : j = n := by have := HJ.out; omega
      have hok : pyOk Z o err j := by
        rcases Nat.eq_zero_or_pos j with h | h
        · exact .inl h
        · exact .inr ⟨HJ0.out h, by have := HD.out; have := HO.out; omega⟩
      obtain ⟨p1, p2, p3, p4⟩ := py_ok (E := E) hok
      rw [← HD.out] at p2 p4
      have pl : ((Z.drop o).take D).length = D := by rw [List.length_take, List.length_drop]; have := HO.out; omega
      have P1 := Lib.hid p1; have P2 := Lib.hid p2; have P3 := Lib.hid p3; have P4 := Lib.hid p4; have PL := Lib.hid pl
      clear p1 p2 p3 p4 pl hok
      go_wp2_with fail
      go_ret2
      rw [P1.out, P2.out, P3.out, P4.out, PL.out]
      exact ⟨_, rfl, OW.out, RR.out, OU.out⟩
end Go.Proofs.YtbbaleambgaanaaGreatDoor
namespace Go.Proofs.YtbbaleambgaanaaGreatDoor.Etr
open Go.RowKit Go.Proofs.YtbbaleambgaanaaGreatDoor.Fit Pxr Pnm
theorem last_any {lo hi q : Nat} {Z : List Int} {E : Int} {o : Nat} {err : Int} (w : World) (h : Rdr w lo hi q Z E o err) (p : Nat) (hp : o = p + 512) :
    Calls Tryz.prog 35 #[.pointer (some ⟨q, 0, none⟩)] w fun e w' => e = .returned (.int .i64 p) ∧ w = w' := by
  have ho8 : (o : Int) ≤ 140737488355328 := by have := h.bd.1; have := h.size.2.2.2; omega
  have ho5 : (512 : Int) ≤ o := by omega
  go_enter Tryz.func35, Tryz.ntmps35
  go_wp2_with fail
  refine (rdr_off w h).mono ?_; rintro e w1 ⟨rfl, rfl⟩
  go_wp2_with fail
  go_ret
  exact ⟨rfl, rfl⟩
theorem eq_paxp (nm pf lk : ByteArray) (md sz : Int) (w : World) :
    (Op.equalIn 10000 56 (.agg (Ust.hdV 120 nm pf lk md sz).toArray) (.agg (Ust.hdV 120 kPax emp emp 0 sz).toArray)).run Tryz.prog w = .ok (decide (nm = kPax ∧ pf = emp ∧ lk = emp ∧ md = 0)) w := by
  rw [Ust.run_eqH 56 Tryz.underlying56 (by kernel_rfl)]
  congr 1
  simp
set_option maxRecDepth 100000 in
set_option maxHeartbeats 4000000 in
theorem isx_any (nm pf lk : ByteArray) (md sz : Int) (w : World) (b : Bool) (hb : b = true ↔ paxOk ⟨120, nm, pf, lk, md, sz⟩) :
    Calls Tryz.prog 127 #[.agg (Ust.hdV 120 nm pf lk md sz).toArray] w fun e w' => e = .returned (.bool b) ∧ Below w.heap.size w w' := by
  have HQ := Lib.hid (eq_paxp nm pf lk md sz)
  have gH : Tryz.prog.eqGuardType Tryz.prog.depth 56 = false := by kernel_rfl
  by_cases g1 : sz < 1
  · obtain rfl : b = false := by
      cases b with
      | false => rfl
      | true => have := (hb.1 rfl).2.2.2.2.1; simp only at this; omega
    have d1 : decide (1 ≤ sz) = false := decide_eq_false (by omega)
    have d1' : ¬ 1 ≤ sz := by omega
    clear hb HQ g1
    go_enter Tryz.func127, Tryz.ntmps127
    go_wp2_with (first | (refine wpList_box_obj rfl 56 _ rfl (Ust.hdV 120 nm pf lk md sz) rfl ?_; intro w1 h1 b1; have H1 := Lib.hid h1; have B1 := Lib.hid b1; have c0 := h1.get 0 rfl; have c1 := h1.get 1 rfl; have c2 := h1.get 2 rfl; have c3 := h1.get 3 rfl; have c4 := h1.get 4 rfl; have c5 := h1.get 5 rfl; clear h1 b1))
    go_quiet (fail)
    go_wp2
    go_ret
    exact ⟨rfl, B1.out.trans (drewN_below _ _ _)⟩
  by_cases g2 : 262144 < sz
  · obtain rfl : b = false := by
      cases b with
      | false => rfl
      | true => have := (hb.1 rfl).2.2.2.2.2; simp only at this; omega
    have d1 : decide (1 ≤ sz) = true := decide_eq_true (by omega)
    have d2 : decide (sz ≤ 262144) = false := decide_eq_false (by omega)
    have d1' : 1 ≤ sz := by omega
    have d2' : ¬ sz ≤ 262144 := by omega
    clear hb HQ g1 g2
    go_enter Tryz.func127, Tryz.ntmps127
    go_wp2_with (first | (refine wpList_box_obj rfl 56 _ rfl (Ust.hdV 120 nm pf lk md sz) rfl ?_; intro w1 h1 b1; have H1 := Lib.hid h1; have B1 := Lib.hid b1; have c0 := h1.get 0 rfl; have c1 := h1.get 1 rfl; have c2 := h1.get 2 rfl; have c3 := h1.get 3 rfl; have c4 := h1.get 4 rfl; have c5 := h1.get 5 rfl; clear h1 b1))
    go_quiet (fail)
    go_wp2
    go_ret
    exact ⟨rfl, B1.out.trans (drewN_below _ _ _)⟩
  have d1 : decide (1 ≤ sz) = true := decide_eq_true (by omega)
  have d2 : decide (sz ≤ 262144) = true := decide_eq_true (by omega)
  have d1' : 1 ≤ sz := by omega
  have d2' : sz ≤ 262144 := by omega
  by_cases h1 : nm = kPax ∧ pf = emp ∧ lk = emp ∧ md = 0
  · obtain rfl : b = true := hb.2 ⟨h1.1, h1.2.1, h1.2.2.1, h1.2.2.2, d1', d2'⟩
    clear hb g1 g2
    have hq : ∀ w : World, (Op.equalIn 10000 56 (.agg (Ust.hdV 120 nm pf lk md sz).toArray) (.agg (Ust.hdV 120 kPax emp emp 0 sz).toArray)).run Tryz.prog w = .ok true w := fun w => by rw [HQ.out w, decide_eq_true h1]
    clear h1 HQ
    go_enter Tryz.func127, Tryz.ntmps127
    go_wp2_with (first | (refine wpList_box_obj rfl 56 _ rfl (Ust.hdV 120 nm pf lk md sz) rfl ?_; intro w1 h1 b1; have H1 := Lib.hid h1; have B1 := Lib.hid b1; have c0 := h1.get 0 rfl; have c1 := h1.get 1 rfl; have c2 := h1.get 2 rfl; have c3 := h1.get 3 rfl; have c4 := h1.get 4 rfl; have c5 := h1.get 5 rfl; clear h1 b1))
    have KS : Hid (∀ w', Below w1.heap.size w1 w' → (fun w' => w'.cell? ⟨w.heap.size, 0, none⟩ = some (.int .u8 120) ∧ w'.cell? ⟨w.heap.size, 1, none⟩ = some (.string nm) ∧ w'.cell? ⟨w.heap.size, 2, none⟩ = some (.string pf) ∧ w'.cell? ⟨w.heap.size, 3, none⟩ = some (.string lk) ∧ w'.cell? ⟨w.heap.size, 4, none⟩ = some (.int .i64 md) ∧ w'.cell? ⟨w.heap.size, 5, none⟩ = some (.int .i64 sz)) w') := fun w' hb => by
      have h := H1.out.below hb H1.out.lt
      exact ⟨h.get 0 rfl, h.get 1 rfl, h.get 2 rfl, h.get 3 rfl, h.get 4 rfl, h.get 5 rfl⟩
    clear c0 c1 c2 c3 c4 c5
    refine wp_region_held_drew (S := (fun w' => w'.cell? ⟨w.heap.size, 0, none⟩ = some (.int .u8 120) ∧ w'.cell? ⟨w.heap.size, 1, none⟩ = some (.string nm) ∧ w'.cell? ⟨w.heap.size, 2, none⟩ = some (.string pf) ∧ w'.cell? ⟨w.heap.size, 3, none⟩ = some (.string lk) ∧ w'.cell? ⟨w.heap.size, 4, none⟩ = some (.int .i64 md) ∧ w'.cell? ⟨w.heap.size, 5, none⟩ = some (.int .i64 sz))) (by kernel_rfl) (KS.out _ (Below.refl _ _).drew) (fun hHeld => ?_)
    refine tk 0 { dst := some 3, op := Go.Op.fieldAddr 56 (Go.Operand.tmp 1) 5, type := 0, pos := "entry.go:76", after := #[], guard := none } ?_ ?_ ?_
    rotate_left 1
    focus ((intro wS hSw; (try dsimp only at hSw); go_simp) <;> (try with_reducible rfl))
    simp only [Act.put, List.setIfInBounds_toArray, List.set_cons_zero, List.set_cons_succ]
    refine tk 1 { dst := some 4, op := Go.Op.load 2 (Go.Operand.tmp 3), type := 2, pos := "entry.go:76", after := #[{ on := 0, ground := Go.Ground.data }], guard := none } ?_ ?_ ?_
    rotate_left 1
    focus ((intro wS hSw; (try dsimp only at hSw); go_simp) <;> (try with_reducible rfl))
    simp only [Act.put, List.setIfInBounds_toArray, List.set_cons_zero, List.set_cons_succ]
    refine tk 2 { dst := some 5, op := Go.Op.binOp Go.BinOp.geq 2 (Go.Operand.tmp 4) (Go.Operand.const (Go.Value.int Go.IntKind.i64 1)) 2, type := 4, pos := "entry.go:76", after := #[{ on := 1, ground := Go.Ground.data }], guard := none } ?_ ?_ ?_
    rotate_left 1
    focus ((intro wS hSw; (try dsimp only at hSw); go_simp) <;> (try with_reducible rfl))
    simp only [Act.put, List.setIfInBounds_toArray, List.set_cons_zero, List.set_cons_succ]
    refine tk 3 { dst := some 6, op := Go.Op.move (Go.Operand.tmp 5), type := 4, pos := "entry.go:76", after := #[{ on := 2, ground := Go.Ground.data }], guard := none } ?_ ?_ ?_
    rotate_left 1
    focus ((intro wS hSw; (try dsimp only at hSw); go_simp) <;> (try with_reducible rfl))
    simp only [Act.put, List.setIfInBounds_toArray, List.set_cons_zero, List.set_cons_succ]
    refine tk 4 { dst := some 7, op := Go.Op.fieldAddr 56 (Go.Operand.tmp 1) 5, type := 0, pos := "entry.go:76", after := #[{ on := 3, ground := Go.Ground.guard }], guard := some (3, true) } ?_ ?_ ?_
    rotate_left 1
    focus ((intro wS hSw; (try dsimp only at hSw); go_simp) <;> (try with_reducible rfl))
    simp only [Act.put, List.setIfInBounds_toArray, List.set_cons_zero, List.set_cons_succ]
    refine tk 5 { dst := some 8, op := Go.Op.load 2 (Go.Operand.tmp 7), type := 2, pos := "entry.go:76", after := #[{ on := 4, ground := Go.Ground.data }, { on := 3, ground := Go.Ground.guard }], guard := some (3, true) } ?_ ?_ ?_
    rotate_left 1
    focus ((intro wS hSw; (try dsimp only at hSw); go_simp) <;> (try with_reducible rfl))
    simp only [Act.put, List.setIfInBounds_toArray, List.set_cons_zero, List.set_cons_succ]
    refine tk 6 { dst := some 9, op := Go.Op.binOp Go.BinOp.leq 2 (Go.Operand.tmp 8) (Go.Operand.const (Go.Value.int Go.IntKind.i64 262144)) 2, type := 4, pos := "entry.go:76", after := #[{ on := 5, ground := Go.Ground.data }, { on := 3, ground := Go.Ground.guard }], guard := some (3, true) } ?_ ?_ ?_
    rotate_left 1
    focus ((intro wS hSw; (try dsimp only at hSw); go_simp) <;> (try with_reducible rfl))
    simp only [Act.put, List.setIfInBounds_toArray, List.set_cons_zero, List.set_cons_succ]
    refine tk 7 { dst := some 10, op := Go.Op.pick (Go.Operand.tmp 6) (Go.Operand.tmp 9) (Go.Operand.const (Go.Value.bool false)), type := 4, pos := "entry.go:76", after := #[{ on := 3, ground := Go.Ground.data }, { on := 6, ground := Go.Ground.data }], guard := none } ?_ ?_ ?_
    rotate_left 1
    focus ((intro wS hSw; (try dsimp only at hSw); go_simp) <;> (try with_reducible rfl))
    simp only [Act.put, List.setIfInBounds_toArray, List.set_cons_zero, List.set_cons_succ]
    refine tk 8 { dst := some 11, op := Go.Op.move (Go.Operand.tmp 10), type := 4, pos := "entry.go:76", after := #[{ on := 7, ground := Go.Ground.data }, { on := 3, ground := Go.Ground.chain }], guard := none } ?_ ?_ ?_
    rotate_left 1
    focus ((intro wS hSw; (try dsimp only at hSw); go_simp) <;> (try with_reducible rfl))
    simp only [Act.put, List.setIfInBounds_toArray, List.set_cons_zero, List.set_cons_succ]
    refine tk 9 { dst := some 12, op := Go.Op.load 56 (Go.Operand.tmp 1), type := 56, pos := "entry.go:76", after := #[{ on := 8, ground := Go.Ground.guard }], guard := some (8, true) } ?_ ?_ ?_
    rotate_left 1
    focus ((intro wS hSw; (try dsimp only at hSw); go_simp) <;> (try with_reducible rfl))
    simp only [Act.put, List.setIfInBounds_toArray, List.set_cons_zero, List.set_cons_succ]
    refine tk 10 { dst := some 13, op := Go.Op.fieldAddr 56 (Go.Operand.tmp 1) 5, type := 0, pos := "entry.go:76", after := #[{ on := 8, ground := Go.Ground.guard }], guard := some (8, true) } ?_ ?_ ?_
    rotate_left 1
    focus ((intro wS hSw; (try dsimp only at hSw); go_simp) <;> (try with_reducible rfl))
    simp only [Act.put, List.setIfInBounds_toArray, List.set_cons_zero, List.set_cons_succ]
    refine tk 11 { dst := some 14, op := Go.Op.load 2 (Go.Operand.tmp 13), type := 2, pos := "entry.go:76", after := #[{ on := 10, ground := Go.Ground.data }, { on := 8, ground := Go.Ground.guard }], guard := some (8, true) } ?_ ?_ ?_
    rotate_left 1
    focus ((intro wS hSw; (try dsimp only at hSw); go_simp) <;> (try with_reducible rfl))
    simp only [Act.put, List.setIfInBounds_toArray, List.set_cons_zero, List.set_cons_succ]
    refine wpAnyH_ready (rs := [12]) (by kernel_rfl) (by simp) ?_
    refine AllReadyH.cons (o := { dst := some 15, op := Go.Op.call { callee := Go.Callee.value (Go.Operand.func 58), args := #[Go.Operand.tmp 14], argTypes := #[2] }, type := 56, pos := "entry.go:76", after := #[{ on := 11, ground := Go.Ground.data }, { on := 8, ground := Go.Ground.chain }, { on := 8, ground := Go.Ground.guard }], guard := some (8, true) }) rfl (fun K hK => ?_) AllReadyH.nil
    go_simp
    refine (ext_any sz _).mono ?_; rintro e w2 ⟨rfl, b2⟩
    have D2 := Lib.hid ((Below.refl w1.heap.size w1).drew.trans b2)
    clear b2
    go_wp2_with fail
    refine hK.out _ _ (KS.out _ D2.out) (fun hHeld => ?_)
    clear hK K
    (try simp only [Act.put, List.setIfInBounds_toArray, List.set_cons_zero, List.set_cons_succ])
    refine tk 13 { dst := some 16, op := Go.Op.binOp Go.BinOp.eql 56 (Go.Operand.tmp 12) (Go.Operand.tmp 15) 56, type := 4, pos := "entry.go:76", after := #[{ on := 9, ground := Go.Ground.data }, { on := 12, ground := Go.Ground.data }, { on := 8, ground := Go.Ground.guard }], guard := some (8, true) } ?_ ?_ ?_
    rotate_left 1
    focus ((intro wS hSw; (try dsimp only at hSw); go_simp) <;> (try with_reducible rfl))
    simp only [Act.put, List.setIfInBounds_toArray, List.set_cons_zero, List.set_cons_succ]
    refine tk 14 { dst := some 17, op := Go.Op.pick (Go.Operand.tmp 11) (Go.Operand.tmp 16) (Go.Operand.const (Go.Value.bool false)), type := 4, pos := "entry.go:76", after := #[{ on := 8, ground := Go.Ground.data }, { on := 13, ground := Go.Ground.data }], guard := none } ?_ ?_ ?_
    rotate_left 1
    focus ((intro wS hSw; (try dsimp only at hSw); go_simp) <;> (try with_reducible rfl))
    simp only [Act.put, List.setIfInBounds_toArray, List.set_cons_zero, List.set_cons_succ]
    refine tk 15 { dst := some 2, op := Go.Op.assign (Go.Operand.tmp 17), type := 4, pos := "entry.go:76", after := #[{ on := 14, ground := Go.Ground.data }, { on := 12, ground := Go.Ground.chain }, { on := 0, ground := Go.Ground.phase }, { on := 1, ground := Go.Ground.phase }, { on := 2, ground := Go.Ground.phase }, { on := 3, ground := Go.Ground.phase }, { on := 4, ground := Go.Ground.phase }, { on := 5, ground := Go.Ground.phase }, { on := 6, ground := Go.Ground.phase }, { on := 7, ground := Go.Ground.phase }, { on := 8, ground := Go.Ground.phase }, { on := 9, ground := Go.Ground.phase }, { on := 10, ground := Go.Ground.phase }, { on := 11, ground := Go.Ground.phase }, { on := 12, ground := Go.Ground.phase }, { on := 13, ground := Go.Ground.phase }, { on := 14, ground := Go.Ground.phase }], guard := none } ?_ ?_ ?_
    rotate_left 1
    focus ((intro wS hSw; (try dsimp only at hSw); go_simp) <;> (try with_reducible rfl))
    simp only [Act.put, List.setIfInBounds_toArray, List.set_cons_zero, List.set_cons_succ]
    refine wpAnyH_done (by kernel_rfl) ?_ _
    go_wp2
    go_ret
    exact ⟨rfl, B1.out.trans (D2.out.mono B1.out.size)⟩
  · obtain rfl : b = false := by
      cases b with
      | false => rfl
      | true => have := hb.1 rfl; exact absurd ⟨this.1, this.2.1, this.2.2.1, this.2.2.2.1⟩ h1
    clear hb g1 g2
    have hq : ∀ w : World, (Op.equalIn 10000 56 (.agg (Ust.hdV 120 nm pf lk md sz).toArray) (.agg (Ust.hdV 120 kPax emp emp 0 sz).toArray)).run Tryz.prog w = .ok false w := fun w => by rw [HQ.out w, decide_eq_false h1]
    clear h1 HQ
    go_enter Tryz.func127, Tryz.ntmps127
    go_wp2_with (first | (refine wpList_box_obj rfl 56 _ rfl (Ust.hdV 120 nm pf lk md sz) rfl ?_; intro w1 h1 b1; have H1 := Lib.hid h1; have B1 := Lib.hid b1; have c0 := h1.get 0 rfl; have c1 := h1.get 1 rfl; have c2 := h1.get 2 rfl; have c3 := h1.get 3 rfl; have c4 := h1.get 4 rfl; have c5 := h1.get 5 rfl; clear h1 b1))
    have KS : Hid (∀ w', Below w1.heap.size w1 w' → (fun w' => w'.cell? ⟨w.heap.size, 0, none⟩ = some (.int .u8 120) ∧ w'.cell? ⟨w.heap.size, 1, none⟩ = some (.string nm) ∧ w'.cell? ⟨w.heap.size, 2, none⟩ = some (.string pf) ∧ w'.cell? ⟨w.heap.size, 3, none⟩ = some (.string lk) ∧ w'.cell? ⟨w.heap.size, 4, none⟩ = some (.int .i64 md) ∧ w'.cell? ⟨w.heap.size, 5, none⟩ = some (.int .i64 sz)) w') := fun w' hb => by
      have h := H1.out.below hb H1.out.lt
      exact ⟨h.get 0 rfl, h.get 1 rfl, h.get 2 rfl, h.get 3 rfl, h.get 4 rfl, h.get 5 rfl⟩
    clear c0 c1 c2 c3 c4 c5
    refine wp_region_held_drew (S := (fun w' => w'.cell? ⟨w.heap.size, 0, none⟩ = some (.int .u8 120) ∧ w'.cell? ⟨w.heap.size, 1, none⟩ = some (.string nm) ∧ w'.cell? ⟨w.heap.size, 2, none⟩ = some (.string pf) ∧ w'.cell? ⟨w.heap.size, 3, none⟩ = some (.string lk) ∧ w'.cell? ⟨w.heap.size, 4, none⟩ = some (.int .i64 md) ∧ w'.cell? ⟨w.heap.size, 5, none⟩ = some (.int .i64 sz))) (by kernel_rfl) (KS.out _ (Below.refl _ _).drew) (fun hHeld => ?_)
    refine tk 0 { dst := some 3, op := Go.Op.fieldAddr 56 (Go.Operand.tmp 1) 5, type := 0, pos := "entry.go:76", after := #[], guard := none } ?_ ?_ ?_
    rotate_left 1
    focus ((intro wS hSw; (try dsimp only at hSw); go_simp) <;> (try with_reducible rfl))
    simp only [Act.put, List.setIfInBounds_toArray, List.set_cons_zero, List.set_cons_succ]
    refine tk 1 { dst := some 4, op := Go.Op.load 2 (Go.Operand.tmp 3), type := 2, pos := "entry.go:76", after := #[{ on := 0, ground := Go.Ground.data }], guard := none } ?_ ?_ ?_
    rotate_left 1
    focus ((intro wS hSw; (try dsimp only at hSw); go_simp) <;> (try with_reducible rfl))
    simp only [Act.put, List.setIfInBounds_toArray, List.set_cons_zero, List.set_cons_succ]
    refine tk 2 { dst := some 5, op := Go.Op.binOp Go.BinOp.geq 2 (Go.Operand.tmp 4) (Go.Operand.const (Go.Value.int Go.IntKind.i64 1)) 2, type := 4, pos := "entry.go:76", after := #[{ on := 1, ground := Go.Ground.data }], guard := none } ?_ ?_ ?_
    rotate_left 1
    focus ((intro wS hSw; (try dsimp only at hSw); go_simp) <;> (try with_reducible rfl))
    simp only [Act.put, List.setIfInBounds_toArray, List.set_cons_zero, List.set_cons_succ]
    refine tk 3 { dst := some 6, op := Go.Op.move (Go.Operand.tmp 5), type := 4, pos := "entry.go:76", after := #[{ on := 2, ground := Go.Ground.data }], guard := none } ?_ ?_ ?_
    rotate_left 1
    focus ((intro wS hSw; (try dsimp only at hSw); go_simp) <;> (try with_reducible rfl))
    simp only [Act.put, List.setIfInBounds_toArray, List.set_cons_zero, List.set_cons_succ]
    refine tk 4 { dst := some 7, op := Go.Op.fieldAddr 56 (Go.Operand.tmp 1) 5, type := 0, pos := "entry.go:76", after := #[{ on := 3, ground := Go.Ground.guard }], guard := some (3, true) } ?_ ?_ ?_
    rotate_left 1
    focus ((intro wS hSw; (try dsimp only at hSw); go_simp) <;> (try with_reducible rfl))
    simp only [Act.put, List.setIfInBounds_toArray, List.set_cons_zero, List.set_cons_succ]
    refine tk 5 { dst := some 8, op := Go.Op.load 2 (Go.Operand.tmp 7), type := 2, pos := "entry.go:76", after := #[{ on := 4, ground := Go.Ground.data }, { on := 3, ground := Go.Ground.guard }], guard := some (3, true) } ?_ ?_ ?_
    rotate_left 1
    focus ((intro wS hSw; (try dsimp only at hSw); go_simp) <;> (try with_reducible rfl))
    simp only [Act.put, List.setIfInBounds_toArray, List.set_cons_zero, List.set_cons_succ]
    refine tk 6 { dst := some 9, op := Go.Op.binOp Go.BinOp.leq 2 (Go.Operand.tmp 8) (Go.Operand.const (Go.Value.int Go.IntKind.i64 262144)) 2, type := 4, pos := "entry.go:76", after := #[{ on := 5, ground := Go.Ground.data }, { on := 3, ground := Go.Ground.guard }], guard := some (3, true) } ?_ ?_ ?_
    rotate_left 1
    focus ((intro wS hSw; (try dsimp only at hSw); go_simp) <;> (try with_reducible rfl))
    simp only [Act.put, List.setIfInBounds_toArray, List.set_cons_zero, List.set_cons_succ]
    refine tk 7 { dst := some 10, op := Go.Op.pick (Go.Operand.tmp 6) (Go.Operand.tmp 9) (Go.Operand.const (Go.Value.bool false)), type := 4, pos := "entry.go:76", after := #[{ on := 3, ground := Go.Ground.data }, { on := 6, ground := Go.Ground.data }], guard := none } ?_ ?_ ?_
    rotate_left 1
    focus ((intro wS hSw; (try dsimp only at hSw); go_simp) <;> (try with_reducible rfl))
    simp only [Act.put, List.setIfInBounds_toArray, List.set_cons_zero, List.set_cons_succ]
    refine tk 8 { dst := some 11, op := Go.Op.move (Go.Operand.tmp 10), type := 4, pos := "entry.go:76", after := #[{ on := 7, ground := Go.Ground.data }, { on := 3, ground := Go.Ground.chain }], guard := none } ?_ ?_ ?_
    rotate_left 1
    focus ((intro wS hSw; (try dsimp only at hSw); go_simp) <;> (try with_reducible rfl))
    simp only [Act.put, List.setIfInBounds_toArray, List.set_cons_zero, List.set_cons_succ]
    refine tk 9 { dst := some 12, op := Go.Op.load 56 (Go.Operand.tmp 1), type := 56, pos := "entry.go:76", after := #[{ on := 8, ground := Go.Ground.guard }], guard := some (8, true) } ?_ ?_ ?_
    rotate_left 1
    focus ((intro wS hSw; (try dsimp only at hSw); go_simp) <;> (try with_reducible rfl))
    simp only [Act.put, List.setIfInBounds_toArray, List.set_cons_zero, List.set_cons_succ]
    refine tk 10 { dst := some 13, op := Go.Op.fieldAddr 56 (Go.Operand.tmp 1) 5, type := 0, pos := "entry.go:76", after := #[{ on := 8, ground := Go.Ground.guard }], guard := some (8, true) } ?_ ?_ ?_
    rotate_left 1
    focus ((intro wS hSw; (try dsimp only at hSw); go_simp) <;> (try with_reducible rfl))
    simp only [Act.put, List.setIfInBounds_toArray, List.set_cons_zero, List.set_cons_succ]
    refine tk 11 { dst := some 14, op := Go.Op.load 2 (Go.Operand.tmp 13), type := 2, pos := "entry.go:76", after := #[{ on := 10, ground := Go.Ground.data }, { on := 8, ground := Go.Ground.guard }], guard := some (8, true) } ?_ ?_ ?_
    rotate_left 1
    focus ((intro wS hSw; (try dsimp only at hSw); go_simp) <;> (try with_reducible rfl))
    simp only [Act.put, List.setIfInBounds_toArray, List.set_cons_zero, List.set_cons_succ]
    refine wpAnyH_ready (rs := [12]) (by kernel_rfl) (by simp) ?_
    refine AllReadyH.cons (o := { dst := some 15, op := Go.Op.call { callee := Go.Callee.value (Go.Operand.func 58), args := #[Go.Operand.tmp 14], argTypes := #[2] }, type := 56, pos := "entry.go:76", after := #[{ on := 11, ground := Go.Ground.data }, { on := 8, ground := Go.Ground.chain }, { on := 8, ground := Go.Ground.guard }], guard := some (8, true) }) rfl (fun K hK => ?_) AllReadyH.nil
    go_simp
    refine (ext_any sz _).mono ?_; rintro e w2 ⟨rfl, b2⟩
    have D2 := Lib.hid ((Below.refl w1.heap.size w1).drew.trans b2)
    clear b2
    go_wp2_with fail
    refine hK.out _ _ (KS.out _ D2.out) (fun hHeld => ?_)
    clear hK K
    (try simp only [Act.put, List.setIfInBounds_toArray, List.set_cons_zero, List.set_cons_succ])
    refine tk 13 { dst := some 16, op := Go.Op.binOp Go.BinOp.eql 56 (Go.Operand.tmp 12) (Go.Operand.tmp 15) 56, type := 4, pos := "entry.go:76", after := #[{ on := 9, ground := Go.Ground.data }, { on := 12, ground := Go.Ground.data }, { on := 8, ground := Go.Ground.guard }], guard := some (8, true) } ?_ ?_ ?_
    rotate_left 1
    focus ((intro wS hSw; (try dsimp only at hSw); go_simp) <;> (try with_reducible rfl))
    simp only [Act.put, List.setIfInBounds_toArray, List.set_cons_zero, List.set_cons_succ]
    refine tk 14 { dst := some 17, op := Go.Op.pick (Go.Operand.tmp 11) (Go.Operand.tmp 16) (Go.Operand.const (Go.Value.bool false)), type := 4, pos := "entry.go:76", after := #[{ on := 8, ground := Go.Ground.data }, { on := 13, ground := Go.Ground.data }], guard := none } ?_ ?_ ?_
    rotate_left 1
    focus ((intro wS hSw; (try dsimp only at hSw); go_simp) <;> (try with_reducible rfl))
    simp only [Act.put, List.setIfInBounds_toArray, List.set_cons_zero, List.set_cons_succ]
    refine tk 15 { dst := some 2, op := Go.Op.assign (Go.Operand.tmp 17), type := 4, pos := "entry.go:76", after := #[{ on := 14, ground := Go.Ground.data }, { on := 12, ground := Go.Ground.chain }, { on := 0, ground := Go.Ground.phase }, { on := 1, ground := Go.Ground.phase }, { on := 2, ground := Go.Ground.phase }, { on := 3, ground := Go.Ground.phase }, { on := 4, ground := Go.Ground.phase }, { on := 5, ground := Go.Ground.phase }, { on := 6, ground := Go.Ground.phase }, { on := 7, ground := Go.Ground.phase }, { on := 8, ground := Go.Ground.phase }, { on := 9, ground := Go.Ground.phase }, { on := 10, ground := Go.Ground.phase }, { on := 11, ground := Go.Ground.phase }, { on := 12, ground := Go.Ground.phase }, { on := 13, ground := Go.Ground.phase }, { on := 14, ground := Go.Ground.phase }], guard := none } ?_ ?_ ?_
    rotate_left 1
    focus ((intro wS hSw; (try dsimp only at hSw); go_simp) <;> (try with_reducible rfl))
    simp only [Act.put, List.setIfInBounds_toArray, List.set_cons_zero, List.set_cons_succ]
    refine wpAnyH_done (by kernel_rfl) ?_ _
    go_wp2
    go_ret
    exact ⟨rfl, B1.out.trans (D2.out.mono B1.out.size)⟩
end Go.Proofs.YtbbaleambgaanaaGreatDoor.Etr
