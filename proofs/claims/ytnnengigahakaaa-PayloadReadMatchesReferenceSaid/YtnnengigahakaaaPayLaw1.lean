/-
  PayloadReadMatchesReference, walked.
-/
import Derived.Test.YtnnengigahakaaaPayAlive
import Derived.Test.YtnnengigahakaaaPayRef
import Derived.Test.YtnnengigahakaaaStructArg
import Derived.Test.YtnnengigahakaaaStepBox
import Derived.Test.YtnnengigahakaaaSwitch
namespace Go.Proofs.Ytnnengigahakaaa
open Go.RowKit

set_option maxRecDepth 100000 in
set_option maxHeartbeats 8000000 in
theorem walk_PayloadReadMatchesReference (a : Option Addr) (len cap : Nat) (zs : List Int) (ca : Option Addr) (cl cc : Nat) (cs : List Int) (F : Int) (da : Option Addr) (dl dc : Nat) (ds : List Int) (w : World) (hz : ArgInts .u8 w a len cap zs) (hc : ArgInts .i64 w ca cl cc cs) (_ : (Lit.int .i64 F).wf = true) (hd : ArgInts .i64 w da dl dc ds) :
    Calls Try.prog 3 #[.slice a len cap, .agg #[.slice ca cl cc, .int .i64 F], .slice da dl dc] w fun e w' => e = .returned (.bool true) ∧ Below w.heap.size w w' := by
  have HB := Lib.hid hz.bytes; have HL := Lib.hid hz.1; have HC := Lib.hid hz.2.1; have HI := Lib.hid hc.inK; have HCL := Lib.hid hc.1
  have HJ := Lib.hid hd.inK; have HDL := Lib.hid hd.1; have HDC := Lib.hid hd.2.1; have HDW := Lib.hid hd.2.2.2.1
  clear hz hc hd
  by_cases h5000 : (5000 : Int) < len
  · go_enter Try.func3, Try.ntmps3
    go_wp2_with (first | (refine wpList_box_obj rfl 25 _ rfl [.slice ca cl cc, .int .i64 F] rfl ?_; intro w1 h1 b1; have H1 := Lib.hid h1; have B1 := Lib.hid b1; have c0 := h1.get 0 rfl; have c1 := h1.get 1 rfl; clear h1 b1))
    refine (alive_any _).mono ?_; rintro e w2 ⟨rfl, b2⟩
    go_wp2
    go_ret
    exact ⟨rfl, B1.out.trans (b2.mono B1.out.size)⟩
  · by_cases h300 : (300 : Int) < cl
    · go_enter Try.func3, Try.ntmps3
      go_wp2_with (first | (refine wpList_box_obj rfl 25 _ rfl [.slice ca cl cc, .int .i64 F] rfl ?_; intro w1 h1 b1; have H1 := Lib.hid h1; have B1 := Lib.hid b1; have c0 := h1.get 0 rfl; have c1 := h1.get 1 rfl; clear h1 b1))
      refine (alive_any _).mono ?_; rintro e w2 ⟨rfl, b2⟩
      go_wp2
      go_ret
      exact ⟨rfl, B1.out.trans (b2.mono B1.out.size)⟩
    · by_cases h20 : (20 : Int) < dl
      · go_enter Try.func3, Try.ntmps3
        go_wp2_with (first | (refine wpList_box_obj rfl 25 _ rfl [.slice ca cl cc, .int .i64 F] rfl ?_; intro w1 h1 b1; have H1 := Lib.hid h1; have B1 := Lib.hid b1; have c0 := h1.get 0 rfl; have c1 := h1.get 1 rfl; clear h1 b1))
        refine (alive_any _).mono ?_; rintro e w2 ⟨rfl, b2⟩
        go_wp2
        go_ret
        exact ⟨rfl, B1.out.trans (b2.mono B1.out.size)⟩
      · obtain ⟨Z, hZ⟩ := named (zs.take (endN F len))
        obtain ⟨E, hE⟩ := named (endE F len)
        have E4 : Hid (E = 11 ∨ E = 4) := by show _ ∨ _; rw [hE.out]; exact endE_ne _ _
        have ZB : Hid (Bytes Z) := by show Bytes _; rw [hZ.out]; exact HB.out.bytes.take _
        go_enter Try.func3, Try.ntmps3
        go_wp2_with (first | (refine wpList_box_obj rfl 25 _ rfl [.slice ca cl cc, .int .i64 F] rfl ?_; intro w1 h1 b1; have H1 := Lib.hid h1; have B1 := Lib.hid b1; have c0 := h1.get 0 rfl; have c1 := h1.get 1 rfl; clear h1 b1))
        have K0 : Hid (∀ w', Below w1.heap.size w1 w' → w'.cell? ⟨w.heap.size, 0, none⟩ = some (.slice ca cl cc) ∧ w'.cell? ⟨w.heap.size, 1, none⟩ = some (.int .i64 F)) := fun w' hb => ⟨(H1.out.below hb H1.out.lt).get 0 rfl, (H1.out.below hb H1.out.lt).get 1 rfl⟩
        have HB1 := Lib.hid (HB.out.below B1.out); have HI1 := Lib.hid (HI.out.below B1.out); have HJ1 := Lib.hid (HJ.out.below B1.out)
        clear c0 c1
        refine wp_region_held_drew (S := (fun w' => w'.cell? ⟨w.heap.size, 0, none⟩ = some (.slice ca cl cc) ∧ w'.cell? ⟨w.heap.size, 1, none⟩ = some (.int .i64 F))) (by kernel_rfl) (K0.out _ (Below.refl _ _).drew) (fun hHeld => ?_)
        refine wpAnyH_take (i := 0) (oi := { dst := some 35, op := Go.Op.move (Go.Operand.tmp 0), type := 22, pos := "law.go:47", after := #[], guard := none }) (v := ?_) rfl (by kernel_rfl) (by kernel_rfl) (by kernel_rfl) (fun _ _ _ h => h) (Or.inl ⟨by rfl, ?_⟩) (by assumption) ?_
        rotate_left 1
        focus ((intro wS hSw; (try dsimp only at hSw); go_simp) <;> (try with_reducible rfl))
        simp only [Act.put, List.setIfInBounds_toArray, List.set_cons_zero, List.set_cons_succ]
        refine wpAnyH_take (i := 1) (oi := { dst := some 36, op := Go.Op.load 25 (Go.Operand.tmp 4), type := 25, pos := "law.go:47", after := #[], guard := none }) (v := ?_) rfl (by kernel_rfl) (by kernel_rfl) (by kernel_rfl) (fun _ _ _ h => h) (Or.inl ⟨by rfl, ?_⟩) (by assumption) ?_
        rotate_left 1
        focus ((intro wS hSw; (try dsimp only at hSw); go_simp) <;> (try with_reducible rfl))
        simp only [Act.put, List.setIfInBounds_toArray, List.set_cons_zero, List.set_cons_succ]
        refine wpAnyH_take (i := 4) (oi := { dst := some 39, op := Go.Op.move (Go.Operand.tmp 0), type := 22, pos := "law.go:47", after := #[], guard := none }) (v := ?_) rfl (by kernel_rfl) (by kernel_rfl) (by kernel_rfl) (fun _ _ _ h => h) (Or.inl ⟨by rfl, ?_⟩) (by assumption) ?_
        rotate_left 1
        focus ((intro wS hSw; (try dsimp only at hSw); go_simp) <;> (try with_reducible rfl))
        simp only [Act.put, List.setIfInBounds_toArray, List.set_cons_zero, List.set_cons_succ]
        refine wpAnyH_take (i := 5) (oi := { dst := some 40, op := Go.Op.load 25 (Go.Operand.tmp 4), type := 25, pos := "law.go:47", after := #[], guard := none }) (v := ?_) rfl (by kernel_rfl) (by kernel_rfl) (by kernel_rfl) (fun _ _ _ h => h) (Or.inl ⟨by rfl, ?_⟩) (by assumption) ?_
        rotate_left 1
        focus ((intro wS hSw; (try dsimp only at hSw); go_simp) <;> (try with_reducible rfl))
        simp only [Act.put, List.setIfInBounds_toArray, List.set_cons_zero, List.set_cons_succ]
        refine wpAnyH_ready (rs := [2]) (by kernel_rfl) (by simp) ?_
        refine AllReadyH.cons (o := { dst := some 37, op := Go.Op.call { callee := Go.Callee.value (Go.Operand.func 10), args := #[Go.Operand.tmp 35, Go.Operand.tmp 36], argTypes := #[22, 25] }, type := 30, pos := "law.go:47", after := #[{ on := 0, ground := Go.Ground.data }, { on := 1, ground := Go.Ground.data }], guard := none }) rfl (fun K hK => ?_) AllReadyH.nil
        go_simp
        refine (new_any a len cap zs ca cl cc cs F _ (HB1.out.below (Below.refl w1.heap.size w1).drew) HL.out HC.out (by omega) (HI1.out.below (Below.refl w1.heap.size w1).drew) HCL.out (by omega)).mono ?_; rintro e w2 ⟨s, rfl, s2, b2⟩
        rw [← hZ.out, ← hE.out] at s2
        have S2 : Hid (Src w2 w1.heap.size w2.heap.size s Z E cs 0 0) := s2
        have B2 : Hid (Below w1.heap.size w1 w2) := (Below.refl w1.heap.size w1).drew.trans b2
        clear s2 b2
        go_wp2_with fail
        refine hK.out _ _ (K0.out _ B2.out) (fun hHeld => ?_)
        clear hK K
        (try simp only [Act.put, List.setIfInBounds_toArray, List.set_cons_zero, List.set_cons_succ])
        refine wpAnyH_ready (rs := [3]) (by kernel_rfl) (by simp) ?_
        refine AllReadyH.cons (o := { dst := some 38, op := Go.Op.call { callee := Go.Callee.value (Go.Operand.func 9), args := #[Go.Operand.tmp 37], argTypes := #[30] }, type := 28, pos := "law.go:47", after := #[{ on := 2, ground := Go.Ground.data }, { on := 2, ground := Go.Ground.chain }], guard := none }) rfl (fun K hK => ?_) AllReadyH.nil
        go_simp
        refine (rdr_new w2 S2.out).mono ?_; rintro e w3 ⟨q, rfl, r3, b3⟩
        have R3 := Lib.hid r3; have B3 := Lib.hid (B2.out.trans (b3.mono B2.out.size))
        clear r3 b3
        go_wp2_with fail
        refine hK.out _ _ (K0.out _ B3.out) (fun hHeld => ?_)
        clear hK K
        (try simp only [Act.put, List.setIfInBounds_toArray, List.set_cons_zero, List.set_cons_succ])
        refine wpAnyH_ready (rs := [6]) (by kernel_rfl) (by simp) ?_
        refine AllReadyH.cons (o := { dst := some 41, op := Go.Op.call { callee := Go.Callee.value (Go.Operand.func 11), args := #[Go.Operand.tmp 39, Go.Operand.tmp 40], argTypes := #[22, 25] }, type := 33, pos := "law.go:47", after := #[{ on := 4, ground := Go.Ground.data }, { on := 5, ground := Go.Ground.data }, { on := 3, ground := Go.Ground.chain }], guard := none }) rfl (fun K hK => ?_) AllReadyH.nil
        go_simp
        refine (rnew_any a len cap zs ca cl cc cs F w3 (HB1.out.below B3.out) HL.out (by omega) (HI1.out.below B3.out) HCL.out (by omega)).mono ?_; rintro e w4 ⟨m, rfl, r4, b4⟩
        have M4 := Lib.hid r4; have B4 := Lib.hid b4
        have R4 := Lib.hid (R3.out.below b4)
        have B14 := Lib.hid (B3.out.trans (b4.mono B3.out.size))
        clear r4 b4
        go_wp2_with fail
        refine hK.out _ _ (K0.out _ B14.out) (fun hHeld => ?_)
        clear hK K
        (try simp only [Act.put, List.setIfInBounds_toArray, List.set_cons_zero, List.set_cons_succ])
        refine wpAnyH_take (i := 7) (oi := { dst := some 42, op := Go.Op.build 36 #[(0, Go.Operand.tmp 41)], type := 36, pos := "law.go:47", after := #[{ on := 6, ground := Go.Ground.data }, { on := 9, ground := Go.Ground.gcOnly Go.Departure.lateStores }], guard := none }) (v := ?_) rfl (by kernel_rfl) (by kernel_rfl) (by kernel_rfl) (fun _ _ _ h => h) (Or.inl ⟨by rfl, ?_⟩) (by assumption) ?_
        rotate_left 1
        focus ((intro wS hSw; (try dsimp only at hSw); go_simp) <;> (try with_reducible rfl))
        simp only [Act.put, List.setIfInBounds_toArray, List.set_cons_zero, List.set_cons_succ]
        refine wpAnyH_take (i := 9) (oi := { dst := some 7, op := Go.Op.assign (Go.Operand.tmp 38), type := 28, pos := "law.go:47", after := #[{ on := 3, ground := Go.Ground.data }, { on := 6, ground := Go.Ground.chain }, { on := 0, ground := Go.Ground.phase }, { on := 1, ground := Go.Ground.phase }, { on := 2, ground := Go.Ground.phase }, { on := 3, ground := Go.Ground.phase }, { on := 4, ground := Go.Ground.textOnly Go.Departure.lateStores }, { on := 5, ground := Go.Ground.textOnly Go.Departure.lateStores }, { on := 6, ground := Go.Ground.textOnly Go.Departure.lateStoresUnsure }, { on := 7, ground := Go.Ground.textOnly Go.Departure.lateStores }, { on := 8, ground := Go.Ground.textOnly Go.Departure.lateStores }], guard := none }) (v := ?_) rfl (by kernel_rfl) (by kernel_rfl) (by kernel_rfl) (fun _ _ _ h => h) (Or.inl ⟨by rfl, ?_⟩) (by assumption) ?_
        rotate_left 1
        focus ((intro wS hSw; (try dsimp only at hSw); go_simp) <;> (try with_reducible rfl))
        simp only [Act.put, List.setIfInBounds_toArray, List.set_cons_zero, List.set_cons_succ]
        refine wpAnyH_ready (rs := [8]) (by kernel_rfl) (by simp) ?_
        refine AllReadyH.cons (o := { dst := some 43, op := Go.Op.box 36 (Go.Operand.tmp 42), type := 32, pos := "law.go:47", after := #[{ on := 7, ground := Go.Ground.data }, { on := 9, ground := Go.Ground.gcOnly Go.Departure.lateStores }], guard := none }) rfl (fun K hK => ?_) AllReadyH.nil
        refine step_box_obj rfl 36 _ rfl [.pointer (some ⟨m, 0, none⟩), .int .i64 0, .int .i64 0] rfl ?_; intro w5 h5 b5; have H5 := Lib.hid h5; have B5 := Lib.hid b5; clear h5 b5
        have B15 := Lib.hid (B14.out.trans (B5.out.mono B14.out.size))
        refine hK.out _ _ (K0.out _ B15.out) (fun hHeld => ?_)
        clear hK K
        (try simp only [Act.put, List.setIfInBounds_toArray, List.set_cons_zero, List.set_cons_succ])
        refine wpAnyH_take (i := 10) (oi := { dst := some 8, op := Go.Op.assign (Go.Operand.tmp 43), type := 32, pos := "law.go:47", after := #[{ on := 8, ground := Go.Ground.data }, { on := 9, ground := Go.Ground.chain }, { on := 0, ground := Go.Ground.phase }, { on := 1, ground := Go.Ground.phase }, { on := 2, ground := Go.Ground.phase }, { on := 3, ground := Go.Ground.phase }, { on := 4, ground := Go.Ground.phase }, { on := 5, ground := Go.Ground.phase }, { on := 6, ground := Go.Ground.phase }, { on := 7, ground := Go.Ground.phase }, { on := 8, ground := Go.Ground.phase }, { on := 9, ground := Go.Ground.phase }], guard := none }) (v := ?_) rfl (by kernel_rfl) (by kernel_rfl) (by kernel_rfl) (fun _ _ _ h => h) (Or.inl ⟨by rfl, ?_⟩) (by assumption) ?_
        rotate_left 1
        focus ((intro wS hSw; (try dsimp only at hSw); go_simp) <;> (try with_reducible rfl))
        simp only [Act.put, List.setIfInBounds_toArray, List.set_cons_zero, List.set_cons_succ]
        refine wpAnyH_done (by kernel_rfl) ?_ _
        have LH0 : Hid (w1.heap.size ≤ w3.heap.size ∧ w3.heap.size ≤ w4.heap.size ∧ w4.heap.size < w5.heap.size) := ⟨B3.out.size, B4.out.size, H5.out.lt⟩
        have R5' := Lib.hid (R4.out.below B5.out)
        have ZT : Z = zs.take (endN F zs.length) := by rw [hZ.out, HL.out]
        have ET : E = endE F zs.length := by rw [hE.out, HL.out]
        have Q5' : Hid (RRd w5 w3.heap.size w5.heap.size w4.heap.size Z E 0 0) := by
          show RRd _ _ _ _ _ _ _ _
          have l5 := H5.out.lt
          have z4 := B4.out.size
          exact ⟨m, w4.heap.size, zs, F, cs, 0, H5.out, M4.out.out (lo' := w4.heap.size) (hi' := w4.heap.size) (.of_below B5.out (Nat.le_refl _)) (.inl (Nat.le_refl _)), z4, Nat.le_refl _, l5, Nat.le_refl _, ZT, ET, Nat.zero_le _⟩
        clear ZT ET R4 M4 R3 S2
        obtain ⟨lo, hlo⟩ := named w1.heap.size
        obtain ⟨hi, hhi⟩ := named w3.heap.size
        obtain ⟨p, hp⟩ := named w4.heap.size
        obtain ⟨top, htop⟩ := named w5.heap.size
        have R5 : Hid (Rdr w5 lo hi q Z E 0 0) := by show Rdr _ _ _ _ _ _ _ _; rw [hlo.out, hhi.out]; exact R5'.out
        have Q5 : Hid (RRd w5 hi top p Z E 0 0) := by show RRd _ _ _ _ _ _ _ _; rw [hhi.out, htop.out, hp.out]; exact Q5'.out
        have LH : Hid (lo ≤ hi ∧ hi ≤ p ∧ p < top) := by show _ ∧ _ ∧ _; rw [hlo.out, hhi.out, hp.out, htop.out]; exact LH0.out
        rw [← hp.out]
        clear R5' Q5' LH0
        go_wp2_with fail
        go_loopw [46] (fun i wr => ∃ (j o : Nat) (err : Int), j ≤ dl ∧ i = .int .i64 j ∧ Rdr wr lo hi q Z E o err ∧ RRd wr hi top p Z E o err ∧ Below w1.heap.size w1 wr) (fun i _ => dl - (intOf i).toNat)
        case atStart => exact ⟨0, 0, 0, Nat.zero_le _, rfl, R5.out, Q5.out, B15.out⟩
        case round =>
          obtain ⟨j, o, err, hj, rfl, hr, hq, hbel⟩ := hrel
          have RR := Lib.hid hr; have QQ := Lib.hid hq; have BR := Lib.hid hbel
          clear hr hq hbel
          by_cases hlt : j < dl
          · have hlt' : (j : Int) < dl := by omega
            obtain ⟨b, off, rfl, _⟩ := HJ1.out.plain (by rw [HDL.out]; omega)
            obtain ⟨z, hz⟩ := named (ds.getD j 0)
            have hcell := (HJ1.out.below BR.out).get j (by rw [HDL.out]; exact hlt)
            rw [← hz.out] at hcell
            have hzw : z ≤ 9223372036854775807 := by
              refine (bounds_i64 (n := z) ?_).2
              rw [hz.out, List.getD_eq_getElem?_getD, List.getElem?_eq_getElem (by rw [HDL.out]; exact hlt)]
              exact HDW.out _ (List.getElem_mem _)
            clear hz
            obtain ⟨X, hX⟩ := named (rdD Z o err z)
            obtain ⟨V, hV⟩ := named (rdE Z E o err z)
            obtain ⟨PO, hPO⟩ := named (rdP Z o err z)
            obtain ⟨O, hO⟩ := named (rdO Z o err z)
            obtain ⟨S, hS⟩ := named (rdS Z E o err z)
            obtain ⟨N, hN⟩ := named X.length
            have XB : Hid (Bytes X) := by show Bytes _; rw [hX.out]; exact rdD_bytes ZB.out _ _ _
            obtain ⟨SZ, hSZ⟩ := named (strOfNums X)
            go_wp2_with fail
            refine (pread_any z wr RR.out E4.out).mono ?_; rintro e w6 ⟨⟨b6, c6, rfl, l6, i6, x6⟩, r6, u6⟩
            rw [← hX.out] at i6
            rw [← hS.out, ← hO.out] at r6
            rw [← hX.out, ← hN.out, ← hV.out, ← hPO.out]
            have I6 := Lib.hid i6; have X6 := Lib.hid x6; have R6 := Lib.hid r6
            have Q6 := Lib.hid (QQ.out.out u6 (.inr (Nat.le_refl _)))
            have B6 := Lib.hid (BR.out.trans (u6.below (B := w1.heap.size) (by rw [hlo.out]; exact Nat.le_refl _) BR.out.size))
            clear l6 i6 x6 r6 u6
            go_wp2_with fail
            refine (rrd_any z w6 Q6.out).mono ?_; rintro e w7 ⟨⟨b7, c7, rfl, l7, i7, x7⟩, r7, u7⟩
            rw [← hX.out] at i7
            rw [← hS.out, ← hO.out] at r7
            rw [← hX.out, ← hN.out, ← hV.out, ← hPO.out]
            have Q7 := Lib.hid r7
            have R7 := Lib.hid (R6.out.out u7 (.inl (Nat.le_refl _)))
            have B7 := Lib.hid (B6.out.trans (u7.below (B := w1.heap.size) (by rw [← hlo.out]; exact LH.out.1) B6.out.size))
            have Y6 := Lib.hid ((I6.out.out u7 (fun x hx => .inr (Nat.le_trans QQ.out.size.1 (X6.out x hx)))).bytes XB.out)
            have Y7 := Lib.hid (i7.bytes XB.out)
            clear l7 i7 x7 r7 u7
            have k6 : (convert 22 9 (.slice b6 N c6)).run Try.prog w7 = .ok (.string SZ) w7 := by
              rw [hSZ.out]; exact run_str_in (P := Try.prog) Try.underlying22 Try.underlying5 Try.underlying9 Y6.out N c6 hN.out.symm
            have k7 : (convert 22 9 (.slice b7 N c7)).run Try.prog w7 = .ok (.string SZ) w7 := by
              rw [hSZ.out]; exact run_str_in (P := Try.prog) Try.underlying22 Try.underlying5 Try.underlying9 Y7.out N c7 hN.out.symm
            go_wp2_with fail
            refine (blocks_any z hzw w7).mono ?_; rintro e w8 ⟨rfl, rfl⟩
            go_wp2_with fail
            refine (rblocks_any z hzw w7).mono ?_; rintro e w8 ⟨rfl, rfl⟩
            go_wp2_with fail
            go_roundw
            case rel => exact ⟨j + 1, O, S, by omega, by go_num, R7.out, Q7.out, B7.out⟩
            case measure => simp [intOf]; omega
          · obtain rfl : j = dl := by omega
            go_wp2_with fail
            refine (pread_nil 1 wr).mono ?_; rintro e w6 ⟨rfl, rfl⟩
            go_wp2_with fail
            refine (alive_any _).mono ?_; rintro e w6 ⟨rfl, b6⟩
            go_wp2
            go_ret
            exact ⟨rfl, B1.out.trans ((BR.out.trans (b6.mono BR.out.size)).mono B1.out.size)⟩
end Go.Proofs.Ytnnengigahakaaa
