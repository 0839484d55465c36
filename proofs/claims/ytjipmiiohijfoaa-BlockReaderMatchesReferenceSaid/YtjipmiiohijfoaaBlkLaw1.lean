/-
  BlockReaderMatchesReference, walked.
-/
import Derived.Test.YtjipmiiohijfoaaBlkAlive
import Derived.Test.YtjipmiiohijfoaaStructArg
import Derived.Test.YtjipmiiohijfoaaRRd
import Derived.Test.YtjipmiiohijfoaaSwitch
namespace Go.Proofs.Ytjipmiiohijfoaa
open Go.RowKit

set_option maxRecDepth 100000 in
set_option maxHeartbeats 8000000 in
theorem walk_BlockReaderMatchesReference (a : Option Addr) (len cap : Nat) (zs : List Int) (ca : Option Addr) (cl cc : Nat) (cs : List Int) (F : Int) (w : World) (hz : ArgInts .u8 w a len cap zs) (hc : ArgInts .i64 w ca cl cc cs) (_ : (Lit.int .i64 F).wf = true) :
    Calls Try.prog 3 #[.slice a len cap, .agg #[.slice ca cl cc, .int .i64 F]] w fun e w' => e = .returned (.bool true) ∧ Below w.heap.size w w' := by
  have HB := Lib.hid hz.bytes; have HL := Lib.hid hz.1; have HC := Lib.hid hz.2.1; have HI := Lib.hid hc.inK; have HCL := Lib.hid hc.1
  clear hz hc
  by_cases h5000 : (5000 : Int) < len
  · go_enter Try.func3, Try.ntmps3
    go_wp2_with (first | (refine wpList_box_obj rfl 25 _ rfl [.slice ca cl cc, .int .i64 F] rfl ?_; intro w1 h1 b1; have H1 := Lib.hid h1; have B1 := Lib.hid b1; have c0 := h1.get 0 rfl; have c1 := h1.get 1 rfl; clear h1 b1))
    refine (alive_any _).mono ?_; rintro e w2 ⟨rfl, b2⟩
    go_wp2
    go_ret
    exact ⟨rfl, B1.out.trans (b2.mono B1.out.size)⟩
  · by_cases h300 : (300 : Int) < cl
    · go_enter Try.func3, Try.ntmps3
      go_wp2_with (first | (refine wpList_box_obj rfl 25 _ rfl [.slice ca cl cc, .int .i64 F] rfl ?_; intro w1 h1 b1; have H1 := Lib.hid h1; have B1 := Lib.hid b1; have c0 := h1.get 0 rfl; have c1 := h1.get 1 rfl; clear h1 b1))
      refine (alive_any _).mono ?_; rintro e w2 ⟨rfl, b2⟩
      go_wp2
      go_ret
      exact ⟨rfl, B1.out.trans (b2.mono B1.out.size)⟩
    · obtain ⟨Z, hZ⟩ := named (zs.take (endN F len))
      obtain ⟨E, hE⟩ := named (endE F len)
      have E4 : Hid (E = 11 ∨ E = 4) := by show _ ∨ _; rw [hE.out]; exact endE_ne _ _
      have ZB : Hid (Bytes Z) := by show Bytes _; rw [hZ.out]; exact HB.out.bytes.take _
      obtain ⟨M, hM⟩ : ∃ M : Nat, (len : Int) / 512 + 3 = M := ⟨len / 512 + 3, by omega⟩
      go_enter Try.func3, Try.ntmps3
      go_wp2_with (first | (refine wpList_box_obj rfl 25 _ rfl [.slice ca cl cc, .int .i64 F] rfl ?_; intro w1 h1 b1; have H1 := Lib.hid h1; have B1 := Lib.hid b1; have c0 := h1.get 0 rfl; have c1 := h1.get 1 rfl; clear h1 b1))
      have K0 : Hid (∀ w', Below w1.heap.size w1 w' → w'.cell? ⟨w.heap.size, 0, none⟩ = some (.slice ca cl cc) ∧ w'.cell? ⟨w.heap.size, 1, none⟩ = some (.int .i64 F)) := fun w' hb => ⟨(H1.out.below hb H1.out.lt).get 0 rfl, (H1.out.below hb H1.out.lt).get 1 rfl⟩
      refine (new_any a len cap zs ca cl cc cs F w1 (HB.out.below B1.out) HL.out HC.out (by omega) (HI.out.below B1.out) HCL.out (by omega)).mono ?_; rintro e w2 ⟨s, rfl, s2, b2⟩
      rw [← hZ.out, ← hE.out] at s2
      have S2 := Lib.hid s2; have B2 := Lib.hid b2
      clear s2 b2
      go_wp2_with fail
      refine (rdr_new w2 S2.out).mono ?_; rintro e w3 ⟨q, rfl, r3, b3⟩
      have R3 := Lib.hid r3; have B3 := Lib.hid (B2.out.trans (b3.mono B2.out.size))
      clear r3 b3 c0 c1
      obtain ⟨c0, c1⟩ := K0.out _ B3.out
      go_wp2_with fail
      refine (rnew_any a len cap zs ca cl cc cs F w3 ((HB.out.below B1.out).below B3.out) HL.out (by omega) ((HI.out.below B1.out).below B3.out) HCL.out (by omega)).mono ?_; rintro e w4 ⟨m, rfl, r4, b4⟩
      have M4 := Lib.hid r4; have B4 := Lib.hid b4
      have R4 := Lib.hid (R3.out.below b4)
      clear r4 b4 c0 c1
      go_wp2_with (first | (refine wpList_box_obj rfl 35 _ rfl [.pointer (some ⟨m, 0, none⟩), .int .i64 0, .int .i64 0] rfl ?_; intro w5 h5 b5; have H5 := Lib.hid h5; have B5 := Lib.hid b5; clear h5 b5))
      obtain ⟨lo, hlo⟩ := named w1.heap.size
      obtain ⟨hi, hhi⟩ := named w3.heap.size
      obtain ⟨p, hp⟩ := named w4.heap.size
      obtain ⟨top, htop⟩ := named w5.heap.size
      have R5 := Lib.hid (R4.out.below B5.out)
      rw [← hlo.out, ← hhi.out] at R5
      have ZT : Z = zs.take (endN F zs.length) := by rw [hZ.out, HL.out]
      have ET : E = endE F zs.length := by rw [hE.out, HL.out]
      have LH : Hid (lo ≤ hi ∧ hi ≤ p ∧ p < top) := by
        show _ ∧ _ ∧ _
        rw [hlo.out, hhi.out, hp.out, htop.out]
        exact ⟨B3.out.size, B4.out.size, H5.out.lt⟩
      have Q5 : Hid (RRd w5 hi top p Z E 0 0) := by
        show RRd _ _ _ _ _ _ _ _
        have l5 := H5.out.lt
        have z4 := B4.out.size
        have z5 := B5.out.size
        rw [hhi.out, htop.out, hp.out]
        exact ⟨m, w4.heap.size, zs, F, cs, 0, H5.out, M4.out.out (lo' := w4.heap.size) (hi' := w4.heap.size) (.of_below B5.out (Nat.le_refl _)) (.inl (Nat.le_refl _)), z4, Nat.le_refl _, l5, Nat.le_refl _, ZT, ET, Nat.zero_le _⟩
      have B15 : Hid (Below w1.heap.size w1 w5) := B3.out.trans ((B4.out.trans (B5.out.mono B4.out.size)).mono B3.out.size)
      clear ZT ET R4 M4
      rw [← hp.out]
      go_loopw [7, 8, 9, 10, 36] (fun _ _ _ _ i wr => ∃ (j o : Nat) (err : Int), j ≤ M ∧ i = .int .i64 j ∧ Rdr wr lo hi q Z E o err ∧ RRd wr hi top p Z E o err ∧ Below w1.heap.size w1 wr) (fun _ _ _ _ i _ => M - (intOf i).toNat)
      case atStart => exact ⟨0, 0, 0, Nat.zero_le _, rfl, R5.out, Q5.out, B15.out⟩
      case round =>
        obtain ⟨j, o, err, hj, rfl, hr, hq, hbel⟩ := hrel
        have RR := Lib.hid hr; have QQ := Lib.hid hq; have BR := Lib.hid hbel
        clear hr hq hbel
        by_cases hlt : j < M
        · have hlt' : (j : Int) < M := by omega
          obtain ⟨X, hX⟩ := named (nxB Z o err)
          obtain ⟨V, hV⟩ := named (nxE Z E o err)
          obtain ⟨O, hO⟩ := named (nxO Z o err)
          obtain ⟨N, hN⟩ := named X.length
          have XB : Hid (Bytes X) := by show Bytes _; rw [hX.out]; exact nxB_bytes ZB.out _ _
          obtain ⟨SZ, hSZ⟩ := named (strOfNums X)
          go_wp2_with fail
          refine (rdr_next wr RR.out E4.out).mono ?_; rintro e w6 ⟨b6, c6, rfl, l6, i6, x6, r6, u6⟩
          rw [← hX.out, ← hN.out] at l6
          rw [← hX.out] at i6
          rw [← hV.out, ← hO.out] at r6
          rw [← hX.out, ← hN.out, ← hV.out]
          have L6 := Lib.hid l6; have I6 := Lib.hid i6; have X6 := Lib.hid x6; have R6 := Lib.hid r6
          have Q6 := Lib.hid (QQ.out.out u6 (.inr (Nat.le_refl _)))
          have B6 := Lib.hid (BR.out.trans (u6.below (B := w1.heap.size) (by rw [hlo.out]; exact Nat.le_refl _) BR.out.size))
          have Z6 := Lib.hid u6.size
          clear l6 i6 x6 r6 u6
          go_wp2_with fail
          refine (rnext_any w6 Q6.out).mono ?_; rintro e w7 ⟨b7, c7, rfl, i7, x7, r7, u7⟩
          rw [← hX.out] at i7
          rw [← hV.out, ← hO.out] at r7
          rw [← hX.out, ← hN.out, ← hV.out]
          have Q7 := Lib.hid r7
          have R7 := Lib.hid (R6.out.out u7 (.inl (Nat.le_refl _)))
          have B7 := Lib.hid (B6.out.trans (u7.below (B := w1.heap.size) (by rw [← hlo.out]; exact LH.out.1) B6.out.size))
          have Y6 := Lib.hid ((I6.out.out u7 (fun x hx => .inr (Nat.le_trans QQ.out.size.1 (X6.out x hx)))).bytes XB.out)
          have Y7 := Lib.hid (i7.bytes XB.out)
          clear i7 x7 r7 u7
          have K7 : Hid (∀ w', Below w7.heap.size w7 w' → (convert 22 9 (.slice b6 N c6)).run Try.prog w' = .ok (.string SZ) w' ∧ (convert 22 9 (.slice b7 N c7)).run Try.prog w' = .ok (.string SZ) w' ∧ w'.cell? ⟨p, 1, none⟩ = some (.int .i64 O)) := fun w' hb => by
            refine ⟨?_, ?_, ?_⟩
            · rw [hSZ.out]; exact run_str_in (P := Try.prog) Try.underlying22 Try.underlying5 Try.underlying9 (Y6.out.below hb) N c6 hN.out.symm
            · rw [hSZ.out]; exact run_str_in (P := Try.prog) Try.underlying22 Try.underlying5 Try.underlying9 (Y7.out.below hb) N c7 hN.out.symm
            · obtain ⟨_, _, _, _, _, _, k1, _⟩ := Q7.out.below hb
              exact k1.get 1 rfl
          go_wp2_with fail
          refine wp_region_held_drew (S := (fun w' => (convert 22 9 (.slice b6 N c6)).run Try.prog w' = .ok (.string SZ) w' ∧ (convert 22 9 (.slice b7 N c7)).run Try.prog w' = .ok (.string SZ) w' ∧ w'.cell? ⟨p, 1, none⟩ = some (.int .i64 O))) (by kernel_rfl) (K7.out _ (Below.refl _ _).drew) (fun hHeld => ?_)
          refine wpAnyH_take (i := 0) (oi := { dst := some 48, op := Go.Op.move (Go.Operand.tmp 7), type := 22, pos := "law.go:39", after := #[], guard := none }) (v := ?_) rfl (by kernel_rfl) (by kernel_rfl) (by kernel_rfl) (fun _ _ _ h => h) (Or.inl ⟨by rfl, ?_⟩) (by assumption) ?_
          rotate_left 1
          focus ((intro wS hSw; (try dsimp only at hSw); go_simp) <;> (try with_reducible rfl))
          simp only [Act.put, List.setIfInBounds_toArray, List.set_cons_zero, List.set_cons_succ]
          refine wpAnyH_take (i := 1) (oi := { dst := some 49, op := Go.Op.convert 22 9 (Go.Operand.tmp 48), type := 9, pos := "law.go:39", after := #[{ on := 0, ground := Go.Ground.data }], guard := none }) (v := ?_) rfl (by kernel_rfl) (by kernel_rfl) (by kernel_rfl) (fun _ _ _ h => h) (Or.inl ⟨by rfl, ?_⟩) (by assumption) ?_
          rotate_left 1
          focus ((intro wS hSw; (try dsimp only at hSw); go_simp) <;> (try with_reducible rfl))
          simp only [Act.put, List.setIfInBounds_toArray, List.set_cons_zero, List.set_cons_succ]
          refine wpAnyH_take (i := 2) (oi := { dst := some 50, op := Go.Op.move (Go.Operand.tmp 9), type := 22, pos := "law.go:39", after := #[], guard := none }) (v := ?_) rfl (by kernel_rfl) (by kernel_rfl) (by kernel_rfl) (fun _ _ _ h => h) (Or.inl ⟨by rfl, ?_⟩) (by assumption) ?_
          rotate_left 1
          focus ((intro wS hSw; (try dsimp only at hSw); go_simp) <;> (try with_reducible rfl))
          simp only [Act.put, List.setIfInBounds_toArray, List.set_cons_zero, List.set_cons_succ]
          refine wpAnyH_take (i := 3) (oi := { dst := some 51, op := Go.Op.convert 22 9 (Go.Operand.tmp 50), type := 9, pos := "law.go:39", after := #[{ on := 2, ground := Go.Ground.data }], guard := none }) (v := ?_) rfl (by kernel_rfl) (by kernel_rfl) (by kernel_rfl) (fun _ _ _ h => h) (Or.inl ⟨by rfl, ?_⟩) (by assumption) ?_
          rotate_left 1
          focus ((intro wS hSw; (try dsimp only at hSw); go_simp) <;> (try with_reducible rfl))
          simp only [Act.put, List.setIfInBounds_toArray, List.set_cons_zero, List.set_cons_succ]
          refine wpAnyH_take (i := 4) (oi := { dst := some 52, op := Go.Op.binOp Go.BinOp.neq 9 (Go.Operand.tmp 49) (Go.Operand.tmp 51) 9, type := 4, pos := "law.go:39", after := #[{ on := 1, ground := Go.Ground.data }, { on := 3, ground := Go.Ground.data }], guard := none }) (v := ?_) rfl (by kernel_rfl) (by kernel_rfl) (by kernel_rfl) (fun _ _ _ h => h) (Or.inl ⟨by rfl, ?_⟩) (by assumption) ?_
          rotate_left 1
          focus ((intro wS hSw; (try dsimp only at hSw); go_simp) <;> (try with_reducible rfl))
          simp only [Act.put, List.setIfInBounds_toArray, List.set_cons_zero, List.set_cons_succ]
          refine wpAnyH_take (i := 5) (oi := { dst := some 53, op := Go.Op.move (Go.Operand.tmp 52), type := 4, pos := "law.go:39", after := #[{ on := 4, ground := Go.Ground.data }], guard := none }) (v := ?_) rfl (by kernel_rfl) (by kernel_rfl) (by kernel_rfl) (fun _ _ _ h => h) (Or.inl ⟨by rfl, ?_⟩) (by assumption) ?_
          rotate_left 1
          focus ((intro wS hSw; (try dsimp only at hSw); go_simp) <;> (try with_reducible rfl))
          simp only [Act.put, List.setIfInBounds_toArray, List.set_cons_zero, List.set_cons_succ]
          refine wpAnyH_take (i := 6) (oi := { dst := some 54, op := Go.Op.move (Go.Operand.tmp 8), type := 36, pos := "law.go:39", after := #[{ on := 5, ground := Go.Ground.guard }], guard := some (5, false) }) (v := ?_) rfl (by kernel_rfl) (by kernel_rfl) (by kernel_rfl) (fun _ _ _ h => h) (Or.inl ⟨by rfl, ?_⟩) (by assumption) ?_
          rotate_left 1
          focus ((intro wS hSw; (try dsimp only at hSw); go_simp) <;> (try with_reducible rfl))
          simp only [Act.put, List.setIfInBounds_toArray, List.set_cons_zero, List.set_cons_succ]
          refine wpAnyH_take (i := 7) (oi := { dst := some 55, op := Go.Op.move (Go.Operand.tmp 10), type := 3, pos := "law.go:39", after := #[{ on := 5, ground := Go.Ground.guard }], guard := some (5, false) }) (v := ?_) rfl (by kernel_rfl) (by kernel_rfl) (by kernel_rfl) (fun _ _ _ h => h) (Or.inl ⟨by rfl, ?_⟩) (by assumption) ?_
          rotate_left 1
          focus ((intro wS hSw; (try dsimp only at hSw); go_simp) <;> (try with_reducible rfl))
          simp only [Act.put, List.setIfInBounds_toArray, List.set_cons_zero, List.set_cons_succ]
          refine wpAnyH_take (i := 8) (oi := { dst := some 56, op := Go.Op.binOp Go.BinOp.neq 3 (Go.Operand.tmp 54) (Go.Operand.tmp 55) 3, type := 4, pos := "law.go:39", after := #[{ on := 6, ground := Go.Ground.data }, { on := 7, ground := Go.Ground.data }, { on := 5, ground := Go.Ground.guard }], guard := some (5, false) }) (v := ?_) rfl (by kernel_rfl) (by kernel_rfl) (by kernel_rfl) (fun _ _ _ h => h) (Or.inl ⟨by rfl, ?_⟩) (by assumption) ?_
          rotate_left 1
          focus ((intro wS hSw; (try dsimp only at hSw); go_simp) <;> (try with_reducible rfl))
          simp only [Act.put, List.setIfInBounds_toArray, List.set_cons_zero, List.set_cons_succ]
          refine wpAnyH_take (i := 9) (oi := { dst := some 57, op := Go.Op.pick (Go.Operand.tmp 53) (Go.Operand.const (Go.Value.bool true)) (Go.Operand.tmp 56), type := 4, pos := "law.go:39", after := #[{ on := 5, ground := Go.Ground.data }, { on := 8, ground := Go.Ground.data }], guard := none }) (v := ?_) rfl (by kernel_rfl) (by kernel_rfl) (by kernel_rfl) (fun _ _ _ h => h) (Or.inl ⟨by rfl, ?_⟩) (by assumption) ?_
          rotate_left 1
          focus ((intro wS hSw; (try dsimp only at hSw); go_simp) <;> (try with_reducible rfl))
          simp only [Act.put, List.setIfInBounds_toArray, List.set_cons_zero, List.set_cons_succ]
          refine wpAnyH_take (i := 10) (oi := { dst := some 58, op := Go.Op.move (Go.Operand.tmp 57), type := 4, pos := "law.go:39", after := #[{ on := 9, ground := Go.Ground.data }, { on := 5, ground := Go.Ground.chain }], guard := none }) (v := ?_) rfl (by kernel_rfl) (by kernel_rfl) (by kernel_rfl) (fun _ _ _ h => h) (Or.inl ⟨by rfl, ?_⟩) (by assumption) ?_
          rotate_left 1
          focus ((intro wS hSw; (try dsimp only at hSw); go_simp) <;> (try with_reducible rfl))
          simp only [Act.put, List.setIfInBounds_toArray, List.set_cons_zero, List.set_cons_succ]
          refine wpAnyH_take (i := 11) (oi := { dst := some 59, op := Go.Op.move (Go.Operand.tmp 5), type := 27, pos := "law.go:39", after := #[{ on := 10, ground := Go.Ground.guard }], guard := some (10, false) }) (v := ?_) rfl (by kernel_rfl) (by kernel_rfl) (by kernel_rfl) (fun _ _ _ h => h) (Or.inl ⟨by rfl, ?_⟩) (by assumption) ?_
          rotate_left 1
          focus ((intro wS hSw; (try dsimp only at hSw); go_simp) <;> (try with_reducible rfl))
          simp only [Act.put, List.setIfInBounds_toArray, List.set_cons_zero, List.set_cons_succ]
          refine wpAnyH_take (i := 13) (oi := { dst := some 61, op := Go.Op.move (Go.Operand.tmp 6), type := 31, pos := "law.go:39", after := #[{ on := 10, ground := Go.Ground.guard }], guard := some (10, false) }) (v := ?_) rfl (by kernel_rfl) (by kernel_rfl) (by kernel_rfl) (fun _ _ _ h => h) (Or.inl ⟨by rfl, ?_⟩) (by assumption) ?_
          rotate_left 1
          focus ((intro wS hSw; (try dsimp only at hSw); go_simp) <;> (try with_reducible rfl))
          simp only [Act.put, List.setIfInBounds_toArray, List.set_cons_zero, List.set_cons_succ]
          refine wpAnyH_take (i := 14) (oi := { dst := some 62, op := Go.Op.nilCheck (Go.Operand.tmp 61), type := 0, pos := "law.go:39", after := #[{ on := 13, ground := Go.Ground.data }, { on := 10, ground := Go.Ground.guard }], guard := some (10, false) }) (v := ?_) rfl (by kernel_rfl) (by kernel_rfl) (by kernel_rfl) (fun _ _ _ h => h) (Or.inl ⟨by rfl, ?_⟩) (by assumption) ?_
          rotate_left 1
          focus ((intro wS hSw; (try dsimp only at hSw); go_simp) <;> (try with_reducible rfl))
          simp only [Act.put, List.setIfInBounds_toArray, List.set_cons_zero, List.set_cons_succ]
          refine wpAnyH_take (i := 15) (oi := { dst := some 63, op := Go.Op.fieldAddr 35 (Go.Operand.tmp 62) 1, type := 0, pos := "law.go:39", after := #[{ on := 14, ground := Go.Ground.data }, { on := 10, ground := Go.Ground.guard }], guard := some (10, false) }) (v := ?_) rfl (by kernel_rfl) (by kernel_rfl) (by kernel_rfl) (fun _ _ _ h => h) (Or.inl ⟨by rfl, ?_⟩) (by assumption) ?_
          rotate_left 1
          focus ((intro wS hSw; (try dsimp only at hSw); go_simp) <;> (try with_reducible rfl))
          simp only [Act.put, List.setIfInBounds_toArray, List.set_cons_zero, List.set_cons_succ]
          refine wpAnyH_take (i := 16) (oi := { dst := some 64, op := Go.Op.load 2 (Go.Operand.tmp 63), type := 2, pos := "law.go:39", after := #[{ on := 15, ground := Go.Ground.data }, { on := 10, ground := Go.Ground.guard }], guard := some (10, false) }) (v := ?_) rfl (by kernel_rfl) (by kernel_rfl) (by kernel_rfl) (fun _ _ _ h => h) (Or.inl ⟨by rfl, ?_⟩) (by assumption) ?_
          rotate_left 1
          focus ((intro wS hSw; (try dsimp only at hSw); go_simp) <;> (try with_reducible rfl))
          simp only [Act.put, List.setIfInBounds_toArray, List.set_cons_zero, List.set_cons_succ]
          refine wpAnyH_ready (rs := [12]) (by kernel_rfl) (by simp) ?_
          refine AllReadyH.cons (o := { dst := some 60, op := Go.Op.call { callee := Go.Callee.value (Go.Operand.func 15), args := #[Go.Operand.tmp 59], argTypes := #[27] }, type := 2, pos := "law.go:39", after := #[{ on := 11, ground := Go.Ground.data }, { on := 10, ground := Go.Ground.chain }, { on := 10, ground := Go.Ground.guard }], guard := some (10, false) }) rfl (fun K hK => ?_) AllReadyH.nil
          go_simp
          refine (rdr_off w7.drew (R7.out.below (Below.refl _ _).drew)).mono ?_; rintro e w8 ⟨rfl, rfl⟩
          go_wp2_with fail
          refine hK.out _ _ (K7.out _ (Below.refl _ _).drew) (fun hHeld => ?_)
          clear hK K
          (try simp only [Act.put, List.setIfInBounds_toArray, List.set_cons_zero, List.set_cons_succ])
          refine wpAnyH_take (i := 17) (oi := { dst := some 65, op := Go.Op.binOp Go.BinOp.neq 2 (Go.Operand.tmp 60) (Go.Operand.tmp 64) 2, type := 4, pos := "law.go:39", after := #[{ on := 12, ground := Go.Ground.data }, { on := 16, ground := Go.Ground.data }, { on := 10, ground := Go.Ground.guard }], guard := some (10, false) }) (v := ?_) rfl (by kernel_rfl) (by kernel_rfl) (by kernel_rfl) (fun _ _ _ h => h) (Or.inl ⟨by rfl, ?_⟩) (by assumption) ?_
          rotate_left 1
          focus ((intro wS hSw; (try dsimp only at hSw); go_simp) <;> (try with_reducible rfl))
          simp only [Act.put, List.setIfInBounds_toArray, List.set_cons_zero, List.set_cons_succ]
          refine wpAnyH_take (i := 18) (oi := { dst := some 66, op := Go.Op.pick (Go.Operand.tmp 58) (Go.Operand.const (Go.Value.bool true)) (Go.Operand.tmp 65), type := 4, pos := "law.go:39", after := #[{ on := 10, ground := Go.Ground.data }, { on := 17, ground := Go.Ground.data }], guard := none }) (v := ?_) rfl (by kernel_rfl) (by kernel_rfl) (by kernel_rfl) (fun _ _ _ h => h) (Or.inl ⟨by rfl, ?_⟩) (by assumption) ?_
          rotate_left 1
          focus ((intro wS hSw; (try dsimp only at hSw); go_simp) <;> (try with_reducible rfl))
          simp only [Act.put, List.setIfInBounds_toArray, List.set_cons_zero, List.set_cons_succ]
          refine wpAnyH_done (by kernel_rfl) ?_ _
          go_wp2_with fail
          go_roundw
          case rel => exact ⟨j + 1, O, V, by omega, by go_num, R7.out.below (Below.refl _ _).drew, Q7.out.below (Below.refl _ _).drew, B7.out.trans (Below.refl _ _).drew⟩
          case measure => simp [intOf]; omega
        · obtain rfl : j = M := by omega
          go_wp2_with fail
          refine (alive_any _).mono ?_; rintro e w6 ⟨rfl, b6⟩
          go_wp2
          go_ret
          exact ⟨rfl, B1.out.trans ((BR.out.trans (b6.mono BR.out.size)).mono B1.out.size)⟩
end Go.Proofs.Ytjipmiiohijfoaa
