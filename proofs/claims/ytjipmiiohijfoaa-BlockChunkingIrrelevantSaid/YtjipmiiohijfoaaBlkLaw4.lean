/-
  BlockChunkingIrrelevant, walked.
-/
import Derived.Test.YtjipmiiohijfoaaBlkAlive
import Derived.Test.YtjipmiiohijfoaaStructArg
import Derived.Test.YtjipmiiohijfoaaSwitch
namespace Go.Proofs.Ytjipmiiohijfoaa
open Go.RowKit

theorem wrap_i64 {n : Int} (h0 : 0 ≤ n) (h1 : n ≤ 1000000000000) : IntKind.i64.wrap n = n := by
  have hb : IntKind.i64.bits = 64 := rfl
  have hs : IntKind.i64.signed = true := rfl
  unfold IntKind.wrap
  simp only [hb, hs, Bool.true_and]
  have e : (2 : Int) ^ 64 = 18446744073709551616 := by decide
  have e' : (2 : Int) ^ (64 - 1) = 9223372036854775808 := by decide
  rw [e, e', Int.emod_eq_of_lt h0 (by omega), if_neg (by simp; omega)]
theorem padN_zero' {o : Nat} (h : o % 512 = 0) : padN o = 0 := by unfold padN; omega

set_option maxRecDepth 100000 in
set_option maxHeartbeats 8000000 in
theorem walk_BlockChunkingIrrelevant (a : Option Addr) (len cap : Nat) (zs : List Int) (ca : Option Addr) (cl cc : Nat) (cs : List Int) (F : Int) (da : Option Addr) (dl dc : Nat) (ds : List Int) (G : Int) (w : World) (hz : ArgInts .u8 w a len cap zs) (hc : ArgInts .i64 w ca cl cc cs) (_ : (Lit.int .i64 F).wf = true) (hd : ArgInts .i64 w da dl dc ds) (_ : (Lit.int .i64 G).wf = true) :
    Calls Try.prog 6 #[.slice a len cap, .agg #[.slice ca cl cc, .int .i64 F], .agg #[.slice da dl dc, .int .i64 G]] w fun e w' => e = .returned (.bool true) ∧ Below w.heap.size w w' := by
  have HB := Lib.hid hz.bytes; have HL := Lib.hid hz.1; have HC := Lib.hid hz.2.1; have HI := Lib.hid hc.inK; have HCL := Lib.hid hc.1; have HJ := Lib.hid hd.inK; have HDL := Lib.hid hd.1
  clear hz hc hd
  by_cases h3000 : (3000 : Int) < len
  · go_enter Try.func6, Try.ntmps6
    go_wp2_with (first | (refine wpList_box_obj rfl 25 _ rfl [.slice ca cl cc, .int .i64 F] rfl ?_; intro w1 h1 b1; have H1 := Lib.hid h1; have B1 := Lib.hid b1; clear h1 b1) | (refine wpList_box_obj rfl 25 _ rfl [.slice da dl dc, .int .i64 G] rfl ?_; intro w2 h2 b2; have H2 := Lib.hid h2; have B2 := Lib.hid b2; have c0 := h2.get 0 rfl; have d0 := (H1.out.below b2 H1.out.lt).get 0 rfl; clear h2 b2))
    have B12 := Lib.hid (B1.out.trans (B2.out.mono B1.out.size))
    refine (alive_any _).mono ?_; rintro e w3 ⟨rfl, b3⟩
    go_wp2
    go_ret
    exact ⟨rfl, B12.out.trans (b3.mono B12.out.size)⟩
  · by_cases h300 : (300 : Int) < cl
    · go_enter Try.func6, Try.ntmps6
      go_wp2_with (first | (refine wpList_box_obj rfl 25 _ rfl [.slice ca cl cc, .int .i64 F] rfl ?_; intro w1 h1 b1; have H1 := Lib.hid h1; have B1 := Lib.hid b1; clear h1 b1) | (refine wpList_box_obj rfl 25 _ rfl [.slice da dl dc, .int .i64 G] rfl ?_; intro w2 h2 b2; have H2 := Lib.hid h2; have B2 := Lib.hid b2; have c0 := h2.get 0 rfl; have d0 := (H1.out.below b2 H1.out.lt).get 0 rfl; clear h2 b2))
      have B12 := Lib.hid (B1.out.trans (B2.out.mono B1.out.size))
      refine (alive_any _).mono ?_; rintro e w3 ⟨rfl, b3⟩
      go_wp2
      go_ret
      exact ⟨rfl, B12.out.trans (b3.mono B12.out.size)⟩
    · by_cases h300' : (300 : Int) < dl
      · go_enter Try.func6, Try.ntmps6
        go_wp2_with (first | (refine wpList_box_obj rfl 25 _ rfl [.slice ca cl cc, .int .i64 F] rfl ?_; intro w1 h1 b1; have H1 := Lib.hid h1; have B1 := Lib.hid b1; clear h1 b1) | (refine wpList_box_obj rfl 25 _ rfl [.slice da dl dc, .int .i64 G] rfl ?_; intro w2 h2 b2; have H2 := Lib.hid h2; have B2 := Lib.hid b2; have c0 := h2.get 0 rfl; have d0 := (H1.out.below b2 H1.out.lt).get 0 rfl; clear h2 b2))
        have B12 := Lib.hid (B1.out.trans (B2.out.mono B1.out.size))
        refine (alive_any _).mono ?_; rintro e w3 ⟨rfl, b3⟩
        go_wp2
        go_ret
        exact ⟨rfl, B12.out.trans (b3.mono B12.out.size)⟩
      · obtain ⟨M, hM⟩ : ∃ M : Nat, (len : Int) / 512 = M := ⟨len / 512, by omega⟩
        obtain ⟨D, hD⟩ : ∃ D : Nat, (M : Int) * 512 = D := ⟨M * 512, by omega⟩
        have HM := Lib.hid (show 512 * M ≤ len ∧ len < 512 * M + 512 ∧ D = 512 * M ∧ D ≤ 3000 by omega)
        have EN : Hid (endN (-1) len = len) := by show _ = _; unfold endN; rw [if_neg (by omega)]
        have EE : Hid (endE (-1) len = 4) := by show _ = _; unfold endE; rw [if_neg (by omega)]
        have ET : Hid (zs.take len = zs) := List.take_of_length_le (by rw [HL.out]; exact Nat.le_refl _)
        have hz : (Try.prog.info? 25).map (·.zero) = some (some (.agg [Value.slice none 0 0, .int .i64 0].toArray)) := by kernel_rfl
        have hs : (Try.prog.info? 25).map (·.size) = some 2 := by kernel_rfl
        have HZ := Lib.hid hz; have HS := Lib.hid hs
        clear hz hs
        go_enter Try.func6, Try.ntmps6
        go_wp2_with (first | (refine wpList_box_obj rfl 25 _ rfl [.slice ca cl cc, .int .i64 F] rfl ?_; intro w1 h1 b1; have H1 := Lib.hid h1; have B1 := Lib.hid b1; clear h1 b1) | (refine wpList_box_obj rfl 25 _ rfl [.slice da dl dc, .int .i64 G] rfl ?_; intro w2 h2 b2; have H2 := Lib.hid h2; have B2 := Lib.hid b2; have c0 := h2.get 0 rfl; have d0 := (H1.out.below b2 H1.out.lt).get 0 rfl; clear h2 b2) | (refine wpList_alloc_obj rfl 25 rfl [.slice none 0 0, .int .i64 0] HZ.out ?_; intro w3 h3 b3; have H3 := Lib.hid h3; have B3 := Lib.hid b3; clear h3 b3; have H4' : Hid (ObjAt w3 w1.heap.size 25 [.slice da dl dc, .int .i64 G]) := H2.out.below B3.out H2.out.lt) | (refine wpList_store_obj rfl 25 _ _ rfl w2.heap.size rfl [.slice ca cl cc, .int .i64 (-1)] [.slice none 0 0, .int .i64 0] rfl 25 H3.out HS.out rfl (by intro v hv; simp at hv; rcases hv with rfl | rfl <;> rfl) ?_; intro w4 h4 t4; have H4 := Lib.hid h4; have T4 := Lib.hid t4; have c0 := (H4'.out.turned t4 (by have := H2.out.lt; omega)).get 0 rfl; clear h4 t4) | (refine wpList_alloc_obj rfl 25 rfl [.slice none 0 0, .int .i64 0] HZ.out ?_; intro w5 h5 b5; have H5 := Lib.hid h5; have B5 := Lib.hid b5; clear h5 b5) | (refine wpList_store_obj rfl 25 _ _ rfl w4.heap.size rfl [.slice da dl dc, .int .i64 (-1)] [.slice none 0 0, .int .i64 0] rfl 25 H5.out HS.out rfl (by intro v hv; simp at hv; rcases hv with rfl | rfl <;> rfl) ?_; intro w6 h6 t6; have H6 := Lib.hid h6; have T6 := Lib.hid t6; clear h6 t6))
        have b26 : Below w2.heap.size w2 w6 := (B3.out.trans (T4.out.below (Nat.le_refl _))).trans ((B5.out.trans (T6.out.below (Nat.le_refl _))).mono (by have := B3.out.size; have := T4.out.size; omega))
        have b06 : Below w.heap.size w w6 := B1.out.trans ((B2.out.trans (b26.mono B2.out.size)).mono B1.out.size)
        have h46 : ObjAt w6 w2.heap.size 25 [.slice ca cl cc, .int .i64 (-1)] := (H4.out.below B5.out H4.out.lt).turned T6.out (by have := H3.out.lt; have := T4.out.size; omega)
        have K0 : Hid (∀ w', Below w6.heap.size w6 w' → (w'.cell? ⟨w2.heap.size, 0, none⟩ = some (.slice ca cl cc) ∧ w'.cell? ⟨w2.heap.size, 1, none⟩ = some (.int .i64 (-1))) ∧ w'.cell? ⟨w4.heap.size, 0, none⟩ = some (.slice da dl dc) ∧ w'.cell? ⟨w4.heap.size, 1, none⟩ = some (.int .i64 (-1))) := fun w' hb => ⟨⟨(h46.below hb h46.lt).get 0 rfl, (h46.below hb h46.lt).get 1 rfl⟩, (H6.out.below hb H6.out.lt).get 0 rfl, (H6.out.below hb H6.out.lt).get 1 rfl⟩
        have HB6 := Lib.hid (HB.out.below b06); have HI6 := Lib.hid (HI.out.below b06); have HJ6 := Lib.hid (HJ.out.below b06)
        have B06 := Lib.hid b06
        clear b26 b06 h46 c0 d0
        refine wp_region_held_drew (S := (fun w' => (w'.cell? ⟨w2.heap.size, 0, none⟩ = some (.slice ca cl cc) ∧ w'.cell? ⟨w2.heap.size, 1, none⟩ = some (.int .i64 (-1))) ∧ w'.cell? ⟨w4.heap.size, 0, none⟩ = some (.slice da dl dc) ∧ w'.cell? ⟨w4.heap.size, 1, none⟩ = some (.int .i64 (-1)))) (by kernel_rfl) (K0.out _ (Below.refl _ _).drew) (fun hHeld => ?_)
        refine wpAnyH_take (i := 0) (oi := { dst := some 39, op := Go.Op.move (Go.Operand.tmp 0), type := 22, pos := "law.go:100", after := #[], guard := none }) (v := ?_) rfl (by kernel_rfl) (by kernel_rfl) (by kernel_rfl) (fun _ _ _ h => h) (Or.inl ⟨by rfl, ?_⟩) (by assumption) ?_
        rotate_left 1
        focus ((intro wS hSw; (try dsimp only at hSw); go_simp) <;> (try with_reducible rfl))
        simp only [Act.put, List.setIfInBounds_toArray, List.set_cons_zero, List.set_cons_succ]
        refine wpAnyH_take (i := 1) (oi := { dst := some 40, op := Go.Op.load 25 (Go.Operand.tmp 7), type := 25, pos := "law.go:100", after := #[], guard := none }) (v := ?_) rfl (by kernel_rfl) (by kernel_rfl) (by kernel_rfl) (fun _ _ _ h => h) (Or.inl ⟨by rfl, ?_⟩) (by assumption) ?_
        rotate_left 1
        focus ((intro wS hSw; (try dsimp only at hSw); go_simp) <;> (try with_reducible rfl))
        simp only [Act.put, List.setIfInBounds_toArray, List.set_cons_zero, List.set_cons_succ]
        refine wpAnyH_take (i := 4) (oi := { dst := some 43, op := Go.Op.move (Go.Operand.tmp 0), type := 22, pos := "law.go:100", after := #[], guard := none }) (v := ?_) rfl (by kernel_rfl) (by kernel_rfl) (by kernel_rfl) (fun _ _ _ h => h) (Or.inl ⟨by rfl, ?_⟩) (by assumption) ?_
        rotate_left 1
        focus ((intro wS hSw; (try dsimp only at hSw); go_simp) <;> (try with_reducible rfl))
        simp only [Act.put, List.setIfInBounds_toArray, List.set_cons_zero, List.set_cons_succ]
        refine wpAnyH_take (i := 5) (oi := { dst := some 44, op := Go.Op.load 25 (Go.Operand.tmp 8), type := 25, pos := "law.go:100", after := #[], guard := none }) (v := ?_) rfl (by kernel_rfl) (by kernel_rfl) (by kernel_rfl) (fun _ _ _ h => h) (Or.inl ⟨by rfl, ?_⟩) (by assumption) ?_
        rotate_left 1
        focus ((intro wS hSw; (try dsimp only at hSw); go_simp) <;> (try with_reducible rfl))
        simp only [Act.put, List.setIfInBounds_toArray, List.set_cons_zero, List.set_cons_succ]
        refine wpAnyH_ready (rs := [2]) (by kernel_rfl) (by simp) ?_
        refine AllReadyH.cons (o := { dst := some 41, op := Go.Op.call { callee := Go.Callee.value (Go.Operand.func 11), args := #[Go.Operand.tmp 39, Go.Operand.tmp 40], argTypes := #[22, 25] }, type := 29, pos := "law.go:100", after := #[{ on := 0, ground := Go.Ground.data }, { on := 1, ground := Go.Ground.data }], guard := none }) rfl (fun K hK => ?_) AllReadyH.nil
        go_simp
        refine (new_any a len cap zs ca cl cc cs (-1) _ (HB6.out.below (Below.refl w6.heap.size w6).drew) HL.out HC.out (by omega) (HI6.out.below (Below.refl w6.heap.size w6).drew) HCL.out (by omega)).mono ?_; rintro e w7 ⟨s, rfl, sw7, bw7⟩; rw [EN.out, EE.out, ET.out] at sw7; have Sw7 := Lib.hid sw7; have Bw7 := Lib.hid (((Below.refl w6.heap.size w6).drew : Below w6.heap.size w6 _).trans (bw7.mono ((Below.refl w6.heap.size w6).drew : Below w6.heap.size w6 _).size)); clear sw7 bw7
        go_wp2_with fail
        refine hK.out _ _ (K0.out _ Bw7.out) (fun hHeld => ?_)
        clear hK K
        (try simp only [Act.put, List.setIfInBounds_toArray, List.set_cons_zero, List.set_cons_succ])
        refine wpAnyH_ready (rs := [3]) (by kernel_rfl) (by simp) ?_
        refine AllReadyH.cons (o := { dst := some 42, op := Go.Op.call { callee := Go.Callee.value (Go.Operand.func 10), args := #[Go.Operand.tmp 41], argTypes := #[29] }, type := 27, pos := "law.go:100", after := #[{ on := 2, ground := Go.Ground.data }, { on := 2, ground := Go.Ground.chain }], guard := none }) rfl (fun K hK => ?_) AllReadyH.nil
        go_simp
        refine (rdr_new w7 Sw7.out).mono ?_; rintro e w8 ⟨q, rfl, r8, b8⟩; have R8 := Lib.hid r8; have Bw8 := Lib.hid (Bw7.out.trans (b8.mono Bw7.out.size)); clear r8 b8
        go_wp2_with fail
        refine hK.out _ _ (K0.out _ Bw8.out) (fun hHeld => ?_)
        clear hK K
        (try simp only [Act.put, List.setIfInBounds_toArray, List.set_cons_zero, List.set_cons_succ])
        refine wpAnyH_ready (rs := [6]) (by kernel_rfl) (by simp) ?_
        refine AllReadyH.cons (o := { dst := some 45, op := Go.Op.call { callee := Go.Callee.value (Go.Operand.func 11), args := #[Go.Operand.tmp 43, Go.Operand.tmp 44], argTypes := #[22, 25] }, type := 29, pos := "law.go:100", after := #[{ on := 4, ground := Go.Ground.data }, { on := 5, ground := Go.Ground.data }, { on := 3, ground := Go.Ground.chain }], guard := none }) rfl (fun K hK => ?_) AllReadyH.nil
        go_simp
        refine (new_any a len cap zs da dl dc ds (-1) _ (HB6.out.below Bw8.out) HL.out HC.out (by omega) (HJ6.out.below Bw8.out) HDL.out (by omega)).mono ?_; rintro e w9 ⟨t, rfl, sw9, bw9⟩; rw [EN.out, EE.out, ET.out] at sw9; have Sw9 := Lib.hid sw9; have Bw9 := Lib.hid ((Bw8.out : Below w6.heap.size w6 _).trans (bw9.mono (Bw8.out : Below w6.heap.size w6 _).size)); have Y9 := Lib.hid bw9; clear sw9 bw9
        go_wp2_with fail
        refine hK.out _ _ (K0.out _ Bw9.out) (fun hHeld => ?_)
        clear hK K
        (try simp only [Act.put, List.setIfInBounds_toArray, List.set_cons_zero, List.set_cons_succ])
        refine wpAnyH_ready (rs := [7]) (by kernel_rfl) (by simp) ?_
        refine AllReadyH.cons (o := { dst := some 46, op := Go.Op.call { callee := Go.Callee.value (Go.Operand.func 10), args := #[Go.Operand.tmp 45], argTypes := #[29] }, type := 27, pos := "law.go:100", after := #[{ on := 6, ground := Go.Ground.data }, { on := 6, ground := Go.Ground.chain }], guard := none }) rfl (fun K hK => ?_) AllReadyH.nil
        go_simp
        refine (rdr_new w9 Sw9.out).mono ?_; rintro e w10 ⟨p, rfl, r10, b10⟩; have R10 := Lib.hid r10; have Bw10 := Lib.hid (Bw9.out.trans (b10.mono Bw9.out.size)); have X10 := Lib.hid b10.size; have Y10 := Lib.hid b10; clear r10 b10
        go_wp2_with fail
        refine hK.out _ _ (K0.out _ Bw10.out) (fun hHeld => ?_)
        clear hK K
        (try simp only [Act.put, List.setIfInBounds_toArray, List.set_cons_zero, List.set_cons_succ])
        refine wpAnyH_take (i := 8) (oi := { dst := some 9, op := Go.Op.assign (Go.Operand.tmp 42), type := 27, pos := "law.go:100", after := #[{ on := 3, ground := Go.Ground.data }, { on := 7, ground := Go.Ground.chain }, { on := 0, ground := Go.Ground.phase }, { on := 1, ground := Go.Ground.phase }, { on := 2, ground := Go.Ground.phase }, { on := 3, ground := Go.Ground.phase }, { on := 4, ground := Go.Ground.textOnly Go.Departure.lateStores }, { on := 5, ground := Go.Ground.textOnly Go.Departure.lateStores }, { on := 6, ground := Go.Ground.textOnly Go.Departure.lateStoresUnsure }, { on := 7, ground := Go.Ground.textOnly Go.Departure.lateStoresUnsure }], guard := none }) (v := ?_) rfl (by kernel_rfl) (by kernel_rfl) (by kernel_rfl) (fun _ _ _ h => h) (Or.inl ⟨by rfl, ?_⟩) (by assumption) ?_
        rotate_left 1
        focus ((intro wS hSw; (try dsimp only at hSw); go_simp) <;> (try with_reducible rfl))
        simp only [Act.put, List.setIfInBounds_toArray, List.set_cons_zero, List.set_cons_succ]
        refine wpAnyH_take (i := 9) (oi := { dst := some 10, op := Go.Op.assign (Go.Operand.tmp 46), type := 27, pos := "law.go:100", after := #[{ on := 7, ground := Go.Ground.data }, { on := 8, ground := Go.Ground.chain }, { on := 0, ground := Go.Ground.phase }, { on := 1, ground := Go.Ground.phase }, { on := 2, ground := Go.Ground.phase }, { on := 3, ground := Go.Ground.phase }, { on := 4, ground := Go.Ground.phase }, { on := 5, ground := Go.Ground.phase }, { on := 6, ground := Go.Ground.phase }, { on := 7, ground := Go.Ground.phase }, { on := 8, ground := Go.Ground.phase }], guard := none }) (v := ?_) rfl (by kernel_rfl) (by kernel_rfl) (by kernel_rfl) (fun _ _ _ h => h) (Or.inl ⟨by rfl, ?_⟩) (by assumption) ?_
        rotate_left 1
        focus ((intro wS hSw; (try dsimp only at hSw); go_simp) <;> (try with_reducible rfl))
        simp only [Act.put, List.setIfInBounds_toArray, List.set_cons_zero, List.set_cons_succ]
        refine wpAnyH_done (by kernel_rfl) ?_ _
        have R8' := Lib.hid ((R8.out.below Y9.out).below Y10.out)
        obtain ⟨⟨c0, c1⟩, _⟩ := K0.out _ Bw10.out
        go_wp2_with fail
        refine (snk_new ca cl cc cs (-1) w10 (HI6.out.below Bw10.out) HCL.out (by omega)).mono ?_; rintro e w11 ⟨m, rfl, s11, b11⟩
        have S11 := Lib.hid s11; have Y11 := Lib.hid b11
        clear s11 b11 c0 c1
        go_wp2_with fail
        refine (wtr_new w11 S11.out).mono ?_; rintro e w12 ⟨g, rfl, s12, b12⟩
        have HS12 : Hid (∀ k, Grow (fun k => w10.heap.size ≤ k ∧ k < w11.heap.size) w11 w12 k → w10.heap.size ≤ k) := fun k hk => hk.elim (fun h => h.1) (fun h => Nat.le_trans Y11.out.size h.1)
        obtain ⟨S0, hS0⟩ := named (Grow (fun k => w10.heap.size ≤ k ∧ k < w11.heap.size) w11 w12)
        rw [← hS0.out] at s12 HS12
        have W12 := Lib.hid s12
        have R12 := Lib.hid ((R8'.out.below Y11.out).below b12); have P12 := Lib.hid ((R10.out.below Y11.out).below b12)
        obtain ⟨lo, hlo⟩ : ∃ lo, Hid (lo = w6.heap.size) := ⟨_, rfl⟩
        obtain ⟨mid, hmid⟩ : ∃ mid, Hid (mid = w8.heap.size) := ⟨_, rfl⟩
        obtain ⟨top, htop⟩ : ∃ top, Hid (top = w10.heap.size) := ⟨_, rfl⟩
        have R12' : Hid (Rdr w12 lo mid q zs 4 0 0) := by show Rdr _ _ _ _ _ _ _ _; rw [hlo.out, hmid.out]; exact R12.out
        have P12' : Hid (Rdr w12 mid top p zs 4 0 0) := by show Rdr _ _ _ _ _ _ _ _; rw [hmid.out, htop.out]; exact P12.out
        have LM : Hid (w.heap.size ≤ lo ∧ lo ≤ mid ∧ mid ≤ top) := by
          show _ ∧ _ ∧ _
          rw [hlo.out, hmid.out, htop.out]
          exact ⟨B06.out.size, Bw8.out.size, Nat.le_trans Y9.out.size Y10.out.size⟩
        have HS0 : Hid (∀ k, S0 k → top ≤ k) := by show ∀ _, _; rw [htop.out]; exact HS12.out
        have B12' : Hid (Below w.heap.size w w12) := by
          have b1 := B06.out.trans (Bw10.out.mono B06.out.size)
          have b2 := b1.trans (Y11.out.mono b1.size)
          exact b2.trans (b12.mono b2.size)
        have B12 := B12'
        clear s12 b12 R8 R8' R10 R12 P12 Y9 Y10 Sw7 Sw9 S11 hS0 HS12
        go_wp2_with fail
        go_loopw [69] (fun i wr => ∃ (S : Nat → Prop) (j o err : Nat), j ≤ M + 1 ∧ i = .int .i64 j ∧ (j ≤ M → o = 512 * j ∧ err = 0) ∧ Rdr wr lo mid q zs 4 o (err : Int) ∧ Rdr wr mid top p zs 4 o (err : Int) ∧ Wtr wr S g m (zs.take (512 * min j M)) (-1) (512 * min j M) 0 ∧ (∀ k, S k → top ≤ k) ∧ Below w.heap.size w wr) (fun i _ => M + 1 - (intOf i).toNat)
        case atStart =>
          refine ⟨S0, 0, 0, 0, Nat.zero_le _, rfl, fun _ => ⟨rfl, rfl⟩, R12'.out, P12'.out, ?_, HS0.out, B12'.out⟩
          rw [Nat.zero_min, Nat.mul_zero, List.take_zero]
          exact W12.out
        case round =>
          obtain ⟨S, j, o, err, hj, rfl, hst, hr, hp, hw, hS, hbel⟩ := hrel
          have RR := Lib.hid hr; have PP := Lib.hid hp; have WW0 := Lib.hid hw; have HSS := Lib.hid hS; have BR := Lib.hid hbel
          have YL0 : Hid ((zs.take (512 * min j M)).length = 512 * min j M) := by show _ = _; rw [List.length_take, HL.out]; have := HM.out; omega
          clear hr hp hw hS hbel
          by_cases hlt : j < M + 1
          · have hlt' : (j : Int) < (M : Int) + 1 := by omega
            obtain ⟨rfl, rfl⟩ := hst (by omega)
            clear hst
            obtain ⟨X, hX⟩ := named (nxB zs (512 * j) 0)
            obtain ⟨V, hV⟩ : ∃ V : Nat, Hid ((V : Int) = nxE zs 4 (512 * j) 0) := ⟨(nxE zs 4 (512 * j) 0).toNat, by
              show _ = _
              unfold nxE; rw [if_neg (fun h => h rfl)]; split
              · rfl
              · split <;> rfl⟩
            obtain ⟨O, hO⟩ := named (nxO zs (512 * j) 0)
            obtain ⟨N, hN⟩ := named X.length
            have XB : Hid (Bytes X) := by show Bytes _; rw [hX.out]; exact nxB_bytes HB.out.bytes _ _
            have NX : Hid (N ≤ 512) := by show _ ≤ _; rw [hN.out, hX.out]; exact nxB_len _ _ _
            obtain ⟨SZ, hSZ⟩ := named (strOfNums X)
            go_wp2_with fail
            refine (rdr_next wr RR.out (.inr rfl)).mono ?_; rintro e w3' ⟨b6, c6, rfl, l6, i6, x6, r6, u6⟩
            have cz : ((0 : Nat) : Int) = 0 := rfl
            rw [cz] at l6 i6 r6 ⊢
            rw [← hX.out, ← hN.out] at l6
            rw [← hX.out] at i6
            rw [← hV.out, ← hO.out] at r6
            rw [← hX.out, ← hN.out, ← hV.out]
            have L6 := Lib.hid l6; have I6 := Lib.hid i6; have X6 := Lib.hid x6; have R6 := Lib.hid r6
            have Q6 := Lib.hid (PP.out.out u6 (.inr (Nat.le_refl _)))
            have only6 : Only (fun k => lo ≤ k ∧ k < mid) wr w3' := ⟨u6.os, u6.tape, u6.output, u6.size, fun k hk hj => u6.block k hk (by omega)⟩
            have W6 := Lib.hid (WW0.out.only only6 (fun k hk h => by have := HSS.out k hk; have := LM.out; omega))
            have B6 := Lib.hid (BR.out.trans (u6.below (B := w.heap.size) LM.out.1 BR.out.size))
            clear l6 i6 x6 r6 only6
            go_wp2_with fail
            refine (rdr_next w3' Q6.out (.inr rfl)).mono ?_; rintro e w4' ⟨b7, c7, rfl, l7, i7, x7, r7, u7⟩
            rw [cz] at l7 i7 r7 ⊢
            rw [← hX.out] at i7
            rw [← hV.out, ← hO.out] at r7
            rw [← hX.out, ← hN.out, ← hV.out]
            have Q7 := Lib.hid r7
            have R7 := Lib.hid (R6.out.out u7 (.inl (Nat.le_refl _)))
            have only7 : Only (fun k => mid ≤ k ∧ k < top) w3' w4' := ⟨u7.os, u7.tape, u7.output, u7.size, fun k hk hj => u7.block k hk (by omega)⟩
            have W7 := Lib.hid (W6.out.only only7 (fun k hk h => by have := HSS.out k hk; omega))
            have B7 := Lib.hid (B6.out.trans (u7.below (B := w.heap.size) (by have := LM.out; omega) B6.out.size))
            have Y6 := Lib.hid ((I6.out.out u7 (fun x hx => .inr (Nat.le_trans PP.out.size.1 (X6.out x hx)))).bytes XB.out)
            have Y7 := Lib.hid (i7.bytes XB.out)
            have k1 := run_str_in (P := Try.prog) Try.underlying22 Try.underlying5 Try.underlying9 Y6.out N c6 hN.out.symm
            have k2 := run_str_in (P := Try.prog) Try.underlying22 Try.underlying5 Try.underlying9 Y7.out N c7 hN.out.symm
            rw [← hSZ.out] at k1 k2
            have hlt6 := WW0.out.lt.1
            have HNS : Hid (∀ x, b6 = some x → X = [] ∨ ¬ S x.block) := fun x hx => .inr fun h => by have := hlt6 _ h; have := X6.out x hx; omega
            clear i7 x7 r7 u7 u6 only7 l7 hlt6
            go_wp2_with fail
            refine (wtr_write b6 N c6 X w4' W7.out Y6.out hN.out.symm L6.out (by rw [YL0.out]; have := NX.out; have := HM.out; omega) (by decide) HNS.out).mono ?_; rintro e w5' ⟨rfl, s5, o5⟩
            obtain ⟨g1, g2⟩ := ww_neg (F := -1) (by decide) (zs.take (512 * min j M)).length N
            have et : X.take N = X := List.take_of_length_le (by rw [← hN.out]; exact Nat.le_refl _)
            rw [g1, g2, et] at s5
            rw [g2]
            have W8 := Lib.hid s5
            have R8 := Lib.hid (R7.out.only o5 (fun k h1 h2 h => by have := HSS.out k h; have := LM.out; omega))
            have Q8 := Lib.hid (Q7.out.only o5 (fun k h1 h2 h => by have := HSS.out k h; omega))
            have B8 := Lib.hid (B7.out.trans (o5.below (B := w.heap.size) (fun k hk => by have := HSS.out k hk; have := LM.out; omega) B7.out.size))
            have HS8 : Hid (∀ k, Grow S w4' w5' k → top ≤ k) := fun k hk => hk.elim (HSS.out k) (fun h => by have := Q7.out.size; omega)
            clear s5 o5 g1 g2 et k1 k2
            have nx : Hid (zs.take (512 * min j M) ++ X = zs.take (512 * min (j + 1) M) ∧ 512 * min j M + N = 512 * min (j + 1) M ∧ (j + 1 ≤ M → O = 512 * (j + 1) ∧ V = 0)) := by
              show _ ∧ _ ∧ _
              have hm := HM.out
              by_cases hjm : j < M
              · obtain ⟨g1, g2, g3⟩ := nx_go (E := 4) (Z := zs) (o := 512 * j) (by rw [HL.out]; omega)
                have hv := hV.out
                rw [g2] at hv
                rw [Nat.min_eq_left (by omega), Nat.min_eq_left (by omega), hN.out, hX.out, hO.out, g1, g3]
                refine ⟨by rw [← List.take_add, Nat.mul_succ], by rw [List.length_take, List.length_drop, HL.out]; omega, fun _ => ⟨by omega, by omega⟩⟩
              · obtain ⟨g1, g2, g3⟩ := nx_stop (E := 4) (Z := zs) (o := 512 * j) (by rw [HL.out]; omega)
                rw [Nat.min_eq_right (by omega), Nat.min_eq_right (by omega), hN.out, hX.out, g1]
                refine ⟨by simp, by simp, fun h => by omega⟩
            go_wp2_with fail
            go_roundw
            case rel =>
              have w8 := W8.out
              rw [nx.out.1, nx.out.2.1] at w8
              exact ⟨_, j + 1, O, V, by omega, by go_num, nx.out.2.2, R8.out, Q8.out, w8, HS8.out, B8.out⟩
            case measure => simp [intOf]; omega
          · obtain rfl : j = M + 1 := by omega
            have hmin : 512 * min (M + 1) M = D := by have := HM.out; rw [Nat.min_eq_right (by omega)]; omega
            rw [hmin] at WW0 YL0
            obtain ⟨Y, hY⟩ := named (zs.take D)
            rw [← hY.out] at WW0 YL0
            have WX := WW0; have YL := YL0; have BX := BR
            have YB : Hid (Bytes Y) := by show Bytes _; rw [hY.out]; exact HB.out.bytes.take _
            have PD : Hid (padN D = 0) := padN_zero' (by have := HM.out; omega)
            have WW : Hid (wwK (-1) Y.length 0 0 = 0 ∧ wwE (-1) Y.length 0 0 = 0) := ww_neg (by decide) _ _
            have HSX : Hid (∀ k, S k → w.heap.size ≤ k) := fun k hk => by have := HSS.out k hk; have := LM.out; omega
            obtain ⟨S', cs', r', hs', _, _⟩ := WX.out.sink
            have SX := Lib.hid hs'
            obtain ⟨SZ, hSZ⟩ := named (strOfNums Y)
            have CB : Hid (∀ w', Below w.heap.size w w' → (convert 22 9 (.slice a D cap)).run Try.prog w' = .ok (.string SZ) w') := fun w' hb => by
              rw [hSZ.out, hY.out]; exact run_str_in (P := Try.prog) Try.underlying22 Try.underlying5 Try.underlying9 ((HB.out.below hb).take D) D cap (by rw [List.length_take, HL.out]; have := HM.out; omega)
            have q1 : D ≤ cap := by have := HM.out; have := HC.out; omega
            have q2 : (D : Int) ≤ cap := by omega
            have q3 : (0 : Int) ≤ D := by omega
            have q4 : D ≤ 3000 := HM.out.2.2.2
            have qm : IntKind.i64.wrap (M : Int) = M := wrap_i64 (by omega) (by have := HM.out; omega)
            have qd : IntKind.i64.wrap (D : Int) = D := wrap_i64 (by omega) (by omega)
            clear hs' hmin hst
            go_wp2_with fail
            refine wp_region_held_drew (S := (fun w' => (convert 22 9 (.slice a D cap)).run Try.prog w' = .ok (.string SZ) w')) (by kernel_rfl) (CB.out _ (BX.out.trans ((Below.refl wr.heap.size wr).drew.mono BX.out.size))) (fun hHeld => ?_)
            refine wpAnyH_ready (rs := [0]) (by kernel_rfl) (by simp) ?_
            refine AllReadyH.cons (o := { dst := some 98, op := Go.Op.call { callee := Go.Callee.value (Go.Operand.func 9), args := #[], argTypes := #[] }, type := 4, pos := "law.go:113", after := #[], guard := none }) rfl (fun K hK => ?_) AllReadyH.nil
            go_simp
            refine (alive_any _).mono ?_; rintro e v1 ⟨rfl, k1⟩; have V1 := Lib.hid ((Below.refl wr.heap.size wr).drew.trans k1); clear k1
            go_wp2_with fail
            refine hK.out _ _ (CB.out _ (BX.out.trans (V1.out.mono BX.out.size))) (fun hHeld => ?_)
            clear hK K
            (try simp only [Act.put, List.setIfInBounds_toArray, List.set_cons_zero, List.set_cons_succ])
            refine wpAnyH_take (i := 1) (oi := { dst := some 99, op := Go.Op.move (Go.Operand.tmp 98), type := 4, pos := "law.go:113", after := #[{ on := 0, ground := Go.Ground.data }, { on := 0, ground := Go.Ground.chain }], guard := none }) (v := ?_) rfl (by kernel_rfl) (by kernel_rfl) (by kernel_rfl) (fun _ _ _ h => h) (Or.inl ⟨by rfl, ?_⟩) (by assumption) ?_
            rotate_left 1
            focus ((intro wS hSw; (try dsimp only at hSw); go_simp) <;> (try with_reducible rfl))
            simp only [Act.put, List.setIfInBounds_toArray, List.set_cons_zero, List.set_cons_succ]
            refine wpAnyH_take (i := 2) (oi := { dst := some 100, op := Go.Op.move (Go.Operand.tmp 11), type := 44, pos := "law.go:113", after := #[{ on := 1, ground := Go.Ground.guard }], guard := some (1, true) }) (v := ?_) rfl (by kernel_rfl) (by kernel_rfl) (by kernel_rfl) (fun _ _ _ h => h) (Or.inl ⟨by rfl, ?_⟩) (by assumption) ?_
            rotate_left 1
            focus ((intro wS hSw; (try dsimp only at hSw); go_simp) <;> (try with_reducible rfl))
            simp only [Act.put, List.setIfInBounds_toArray, List.set_cons_zero, List.set_cons_succ]
            refine wpAnyH_take (i := 5) (oi := { dst := some 103, op := Go.Op.move (Go.Operand.tmp 0), type := 22, pos := "law.go:113", after := #[{ on := 1, ground := Go.Ground.guard }], guard := some (1, true) }) (v := ?_) rfl (by kernel_rfl) (by kernel_rfl) (by kernel_rfl) (fun _ _ _ h => h) (Or.inl ⟨by rfl, ?_⟩) (by assumption) ?_
            rotate_left 1
            focus ((intro wS hSw; (try dsimp only at hSw); go_simp) <;> (try with_reducible rfl))
            simp only [Act.put, List.setIfInBounds_toArray, List.set_cons_zero, List.set_cons_succ]
            refine wpAnyH_take (i := 6) (oi := { dst := some 104, op := Go.Op.move (Go.Operand.tmp 0), type := 22, pos := "law.go:113", after := #[{ on := 1, ground := Go.Ground.guard }], guard := some (1, true) }) (v := ?_) rfl (by kernel_rfl) (by kernel_rfl) (by kernel_rfl) (fun _ _ _ h => h) (Or.inl ⟨by rfl, ?_⟩) (by assumption) ?_
            rotate_left 1
            focus ((intro wS hSw; (try dsimp only at hSw); go_simp) <;> (try with_reducible rfl))
            simp only [Act.put, List.setIfInBounds_toArray, List.set_cons_zero, List.set_cons_succ]
            refine wpAnyH_take (i := 7) (oi := { dst := some 105, op := Go.Op.call { callee := Go.Callee.builtin Go.Builtin.len, args := #[Go.Operand.tmp 104], argTypes := #[22] }, type := 3, pos := "law.go:113", after := #[{ on := 6, ground := Go.Ground.data }, { on := 1, ground := Go.Ground.guard }], guard := some (1, true) }) (v := ?_) rfl (by kernel_rfl) (by kernel_rfl) (by kernel_rfl) (fun _ _ _ h => h) (Or.inl ⟨by rfl, ?_⟩) (by assumption) ?_
            rotate_left 1
            focus ((intro wS hSw; (try dsimp only at hSw); go_simp) <;> (try with_reducible rfl))
            simp only [Act.put, List.setIfInBounds_toArray, List.set_cons_zero, List.set_cons_succ]
            refine wpAnyH_take (i := 8) (oi := { dst := some 106, op := Go.Op.binOp Go.BinOp.quo 3 (Go.Operand.tmp 105) (Go.Operand.const (Go.Value.int Go.IntKind.i64 512)) 3, type := 3, pos := "law.go:113", after := #[{ on := 7, ground := Go.Ground.data }, { on := 1, ground := Go.Ground.guard }], guard := some (1, true) }) (v := ?_) rfl (by kernel_rfl) (by kernel_rfl) (by kernel_rfl) (fun _ _ _ h => h) (Or.inl ⟨by rfl, ?_⟩) (by assumption) ?_
            rotate_left 1
            focus ((intro wS hSw; (try dsimp only at hSw); go_simp) <;> (try with_reducible rfl))
            simp only [Act.put, List.setIfInBounds_toArray, List.set_cons_zero, List.set_cons_succ]
            refine wpAnyH_take (i := 9) (oi := { dst := some 107, op := Go.Op.binOp Go.BinOp.mul 3 (Go.Operand.tmp 106) (Go.Operand.const (Go.Value.int Go.IntKind.i64 512)) 3, type := 3, pos := "law.go:113", after := #[{ on := 8, ground := Go.Ground.data }, { on := 1, ground := Go.Ground.guard }], guard := some (1, true) }) (v := ?_) rfl (by kernel_rfl) (by kernel_rfl) (by kernel_rfl) (fun _ _ _ h => h) (Or.inl ⟨by rfl, ?_⟩) (by assumption) ?_
            rotate_left 1
            focus ((intro wS hSw; (try dsimp only at hSw); go_simp) <;> (try with_reducible rfl))
            simp only [Act.put, List.setIfInBounds_toArray, List.set_cons_zero, List.set_cons_succ]
            refine wpAnyH_take (i := 10) (oi := { dst := some 108, op := Go.Op.slice 22 (Go.Operand.tmp 103) none (some (Go.Operand.tmp 107)) none, type := 22, pos := "law.go:113", after := #[{ on := 5, ground := Go.Ground.data }, { on := 9, ground := Go.Ground.data }, { on := 1, ground := Go.Ground.guard }], guard := some (1, true) }) (v := ?_) rfl (by kernel_rfl) (by kernel_rfl) (by kernel_rfl) (fun _ _ _ h => h) (Or.inl ⟨by rfl, ?_⟩) (by assumption) ?_
            rotate_left 1
            focus ((intro wS hSw; (try dsimp only at hSw); go_simp) <;> (try with_reducible rfl))
            simp only [Act.put, List.setIfInBounds_toArray, List.set_cons_zero, List.set_cons_succ]
            refine wpAnyH_take (i := 11) (oi := { dst := some 109, op := Go.Op.convert 22 9 (Go.Operand.tmp 108), type := 9, pos := "law.go:113", after := #[{ on := 10, ground := Go.Ground.data }, { on := 1, ground := Go.Ground.guard }], guard := some (1, true) }) (v := ?_) rfl (by kernel_rfl) (by kernel_rfl) (by kernel_rfl) (fun _ _ _ h => h) (Or.inl ⟨by rfl, ?_⟩) (by assumption) ?_
            rotate_left 1
            focus ((intro wS hSw; (try dsimp only at hSw); go_simp) <;> (try with_reducible rfl))
            simp only [Act.put, List.setIfInBounds_toArray, List.set_cons_zero, List.set_cons_succ]
            refine wpAnyH_ready (rs := [3]) (by kernel_rfl) (by simp) ?_
            refine AllReadyH.cons (o := { dst := some 101, op := Go.Op.call { callee := Go.Callee.value (Go.Operand.func 26), args := #[Go.Operand.tmp 100], argTypes := #[44] }, type := 22, pos := "law.go:113", after := #[{ on := 2, ground := Go.Ground.data }, { on := 1, ground := Go.Ground.chain }, { on := 1, ground := Go.Ground.guard }], guard := some (1, true) }) rfl (fun K hK => ?_) AllReadyH.nil
            go_simp
            refine (sbytes_any v1 (SX.out.below V1.out)).mono ?_; rintro e v2 ⟨vv, rfl, o2, k2⟩; rw [YL.out] at o2; obtain ⟨a9, c9, rfl, x9, y9⟩ := own_bytes o2 YB.out; have X9 := Lib.hid x9; have Y9' := Lib.hid y9; have V2 := Lib.hid (V1.out.trans (k2.mono V1.out.size)); have L2 := Lib.hid V1.out.size; clear o2 k2 x9 y9
            go_wp2_with fail
            refine hK.out _ _ (CB.out _ (BX.out.trans (V2.out.mono BX.out.size))) (fun hHeld => ?_)
            clear hK K
            (try simp only [Act.put, List.setIfInBounds_toArray, List.set_cons_zero, List.set_cons_succ])
            refine wpAnyH_switch (S2 := (fun w' => (convert 22 9 (.slice a9 D c9)).run Try.prog w' = .ok (.string SZ) w' ∧ (convert 22 9 (.slice a D cap)).run Try.prog w' = .ok (.string SZ) w')) (fun _ h => h.2) ?_
            have hHeld : ((fun w' => (convert 22 9 (.slice a9 D c9)).run Try.prog w' = .ok (.string SZ) w' ∧ (convert 22 9 (.slice a D cap)).run Try.prog w' = .ok (.string SZ) w')) _ := ⟨(by show _ = _; rw [hSZ.out]; exact run_str_in (P := Try.prog) Try.underlying22 Try.underlying5 Try.underlying9 X9.out D c9 YL.out), CB.out _ (BX.out.trans (V2.out.mono BX.out.size))⟩
            refine wpAnyH_take (i := 4) (oi := { dst := some 102, op := Go.Op.convert 22 9 (Go.Operand.tmp 101), type := 9, pos := "law.go:113", after := #[{ on := 3, ground := Go.Ground.data }, { on := 1, ground := Go.Ground.guard }], guard := some (1, true) }) (v := ?_) rfl (by kernel_rfl) (by kernel_rfl) (by kernel_rfl) (fun _ _ _ h => h) (Or.inl ⟨by rfl, ?_⟩) (by assumption) ?_
            rotate_left 1
            focus ((intro wS hSw; (try dsimp only at hSw); go_simp) <;> (try with_reducible rfl))
            simp only [Act.put, List.setIfInBounds_toArray, List.set_cons_zero, List.set_cons_succ]
            refine wpAnyH_take (i := 12) (oi := { dst := some 110, op := Go.Op.binOp Go.BinOp.eql 9 (Go.Operand.tmp 102) (Go.Operand.tmp 109) 9, type := 4, pos := "law.go:113", after := #[{ on := 4, ground := Go.Ground.data }, { on := 11, ground := Go.Ground.data }, { on := 1, ground := Go.Ground.guard }], guard := some (1, true) }) (v := ?_) rfl (by kernel_rfl) (by kernel_rfl) (by kernel_rfl) (fun _ _ _ h => h) (Or.inl ⟨by rfl, ?_⟩) (by assumption) ?_
            rotate_left 1
            focus ((intro wS hSw; (try dsimp only at hSw); go_simp) <;> (try with_reducible rfl))
            simp only [Act.put, List.setIfInBounds_toArray, List.set_cons_zero, List.set_cons_succ]
            refine wpAnyH_take (i := 13) (oi := { dst := some 111, op := Go.Op.pick (Go.Operand.tmp 99) (Go.Operand.tmp 110) (Go.Operand.const (Go.Value.bool false)), type := 4, pos := "law.go:113", after := #[{ on := 1, ground := Go.Ground.data }, { on := 12, ground := Go.Ground.data }], guard := none }) (v := ?_) rfl (by kernel_rfl) (by kernel_rfl) (by kernel_rfl) (fun _ _ _ h => h) (Or.inl ⟨by rfl, ?_⟩) (by assumption) ?_
            rotate_left 1
            focus ((intro wS hSw; (try dsimp only at hSw); go_simp) <;> (try with_reducible rfl))
            simp only [Act.put, List.setIfInBounds_toArray, List.set_cons_zero, List.set_cons_succ]
            refine wpAnyH_take (i := 14) (oi := { dst := some 112, op := Go.Op.move (Go.Operand.tmp 111), type := 4, pos := "law.go:113", after := #[{ on := 13, ground := Go.Ground.data }, { on := 3, ground := Go.Ground.chain }], guard := none }) (v := ?_) rfl (by kernel_rfl) (by kernel_rfl) (by kernel_rfl) (fun _ _ _ h => h) (Or.inl ⟨by rfl, ?_⟩) (by assumption) ?_
            rotate_left 1
            focus ((intro wS hSw; (try dsimp only at hSw); go_simp) <;> (try with_reducible rfl))
            simp only [Act.put, List.setIfInBounds_toArray, List.set_cons_zero, List.set_cons_succ]
            refine wpAnyH_take (i := 15) (oi := { dst := some 113, op := Go.Op.move (Go.Operand.tmp 12), type := 48, pos := "law.go:113", after := #[{ on := 14, ground := Go.Ground.guard }], guard := some (14, true) }) (v := ?_) rfl (by kernel_rfl) (by kernel_rfl) (by kernel_rfl) (fun _ _ _ h => h) (Or.inl ⟨by rfl, ?_⟩) (by assumption) ?_
            rotate_left 1
            focus ((intro wS hSw; (try dsimp only at hSw); go_simp) <;> (try with_reducible rfl))
            simp only [Act.put, List.setIfInBounds_toArray, List.set_cons_zero, List.set_cons_succ]
            refine wpAnyH_ready (rs := [16]) (by kernel_rfl) (by simp) ?_
            refine AllReadyH.cons (o := { dst := some 114, op := Go.Op.call { callee := Go.Callee.value (Go.Operand.func 21), args := #[Go.Operand.tmp 113], argTypes := #[48] }, type := 36, pos := "law.go:113", after := #[{ on := 15, ground := Go.Ground.data }, { on := 14, ground := Go.Ground.chain }, { on := 14, ground := Go.Ground.guard }], guard := some (14, true) }) rfl (fun K hK => ?_) AllReadyH.nil
            go_simp
            refine (wtr_pad v2 (WX.out.below V2.out) (by rw [YL.out]; omega) (by decide)).mono ?_; rintro e v3 ⟨rfl, s3, o3⟩; rw [PD.out, WW.out.1, WW.out.2, Nat.add_zero] at s3; rw [PD.out, WW.out.2]; have W3 := Lib.hid s3; have HC3 : Hid ((convert 22 9 (.slice a9 D c9)).run Try.prog v3 = .ok (.string SZ) v3) := (by show _ = _; rw [hSZ.out]; exact run_str_in (P := Try.prog) Try.underlying22 Try.underlying5 Try.underlying9 (X9.out.only o3 (fun x hx h => by have h1 := Y9'.out x hx; have h2 := WX.out.lt.1 _ h; have := L2.out; omega)) D c9 YL.out); have V3 := Lib.hid ((BX.out.trans (V2.out.mono BX.out.size)).trans (o3.below (B := w.heap.size) HSX.out (Nat.le_trans BX.out.size V2.out.size))); clear s3 o3
            go_wp2_with fail
            refine hK.out _ _ (⟨HC3.out, CB.out _ V3.out⟩) (fun hHeld => ?_)
            clear hK K
            (try simp only [Act.put, List.setIfInBounds_toArray, List.set_cons_zero, List.set_cons_succ])
            refine wpAnyH_take (i := 17) (oi := { dst := some 115, op := Go.Op.binOp Go.BinOp.eql 36 (Go.Operand.tmp 114) (Go.Operand.const (Go.Value.int Go.IntKind.i64 0)) 36, type := 4, pos := "law.go:113", after := #[{ on := 16, ground := Go.Ground.data }, { on := 14, ground := Go.Ground.guard }], guard := some (14, true) }) (v := ?_) rfl (by kernel_rfl) (by kernel_rfl) (by kernel_rfl) (fun _ _ _ h => h) (Or.inl ⟨by rfl, ?_⟩) (by assumption) ?_
            rotate_left 1
            focus ((intro wS hSw; (try dsimp only at hSw); go_simp) <;> (try with_reducible rfl))
            simp only [Act.put, List.setIfInBounds_toArray, List.set_cons_zero, List.set_cons_succ]
            refine wpAnyH_take (i := 18) (oi := { dst := some 116, op := Go.Op.pick (Go.Operand.tmp 112) (Go.Operand.tmp 115) (Go.Operand.const (Go.Value.bool false)), type := 4, pos := "law.go:113", after := #[{ on := 14, ground := Go.Ground.data }, { on := 17, ground := Go.Ground.data }], guard := none }) (v := ?_) rfl (by kernel_rfl) (by kernel_rfl) (by kernel_rfl) (fun _ _ _ h => h) (Or.inl ⟨by rfl, ?_⟩) (by assumption) ?_
            rotate_left 1
            focus ((intro wS hSw; (try dsimp only at hSw); go_simp) <;> (try with_reducible rfl))
            simp only [Act.put, List.setIfInBounds_toArray, List.set_cons_zero, List.set_cons_succ]
            refine wpAnyH_take (i := 19) (oi := { dst := some 117, op := Go.Op.move (Go.Operand.tmp 116), type := 4, pos := "law.go:113", after := #[{ on := 18, ground := Go.Ground.data }, { on := 16, ground := Go.Ground.chain }], guard := none }) (v := ?_) rfl (by kernel_rfl) (by kernel_rfl) (by kernel_rfl) (fun _ _ _ h => h) (Or.inl ⟨by rfl, ?_⟩) (by assumption) ?_
            rotate_left 1
            focus ((intro wS hSw; (try dsimp only at hSw); go_simp) <;> (try with_reducible rfl))
            simp only [Act.put, List.setIfInBounds_toArray, List.set_cons_zero, List.set_cons_succ]
            refine wpAnyH_take (i := 20) (oi := { dst := some 118, op := Go.Op.move (Go.Operand.tmp 12), type := 48, pos := "law.go:113", after := #[{ on := 19, ground := Go.Ground.guard }], guard := some (19, true) }) (v := ?_) rfl (by kernel_rfl) (by kernel_rfl) (by kernel_rfl) (fun _ _ _ h => h) (Or.inl ⟨by rfl, ?_⟩) (by assumption) ?_
            rotate_left 1
            focus ((intro wS hSw; (try dsimp only at hSw); go_simp) <;> (try with_reducible rfl))
            simp only [Act.put, List.setIfInBounds_toArray, List.set_cons_zero, List.set_cons_succ]
            refine wpAnyH_take (i := 22) (oi := { dst := some 120, op := Go.Op.move (Go.Operand.tmp 0), type := 22, pos := "law.go:113", after := #[{ on := 19, ground := Go.Ground.guard }], guard := some (19, true) }) (v := ?_) rfl (by kernel_rfl) (by kernel_rfl) (by kernel_rfl) (fun _ _ _ h => h) (Or.inl ⟨by rfl, ?_⟩) (by assumption) ?_
            rotate_left 1
            focus ((intro wS hSw; (try dsimp only at hSw); go_simp) <;> (try with_reducible rfl))
            simp only [Act.put, List.setIfInBounds_toArray, List.set_cons_zero, List.set_cons_succ]
            refine wpAnyH_take (i := 23) (oi := { dst := some 121, op := Go.Op.call { callee := Go.Callee.builtin Go.Builtin.len, args := #[Go.Operand.tmp 120], argTypes := #[22] }, type := 3, pos := "law.go:113", after := #[{ on := 22, ground := Go.Ground.data }, { on := 19, ground := Go.Ground.guard }], guard := some (19, true) }) (v := ?_) rfl (by kernel_rfl) (by kernel_rfl) (by kernel_rfl) (fun _ _ _ h => h) (Or.inl ⟨by rfl, ?_⟩) (by assumption) ?_
            rotate_left 1
            focus ((intro wS hSw; (try dsimp only at hSw); go_simp) <;> (try with_reducible rfl))
            simp only [Act.put, List.setIfInBounds_toArray, List.set_cons_zero, List.set_cons_succ]
            refine wpAnyH_take (i := 24) (oi := { dst := some 122, op := Go.Op.binOp Go.BinOp.quo 3 (Go.Operand.tmp 121) (Go.Operand.const (Go.Value.int Go.IntKind.i64 512)) 3, type := 3, pos := "law.go:113", after := #[{ on := 23, ground := Go.Ground.data }, { on := 19, ground := Go.Ground.guard }], guard := some (19, true) }) (v := ?_) rfl (by kernel_rfl) (by kernel_rfl) (by kernel_rfl) (fun _ _ _ h => h) (Or.inl ⟨by rfl, ?_⟩) (by assumption) ?_
            rotate_left 1
            focus ((intro wS hSw; (try dsimp only at hSw); go_simp) <;> (try with_reducible rfl))
            simp only [Act.put, List.setIfInBounds_toArray, List.set_cons_zero, List.set_cons_succ]
            refine wpAnyH_take (i := 25) (oi := { dst := some 123, op := Go.Op.binOp Go.BinOp.mul 3 (Go.Operand.tmp 122) (Go.Operand.const (Go.Value.int Go.IntKind.i64 512)) 3, type := 3, pos := "law.go:113", after := #[{ on := 24, ground := Go.Ground.data }, { on := 19, ground := Go.Ground.guard }], guard := some (19, true) }) (v := ?_) rfl (by kernel_rfl) (by kernel_rfl) (by kernel_rfl) (fun _ _ _ h => h) (Or.inl ⟨by rfl, ?_⟩) (by assumption) ?_
            rotate_left 1
            focus ((intro wS hSw; (try dsimp only at hSw); go_simp) <;> (try with_reducible rfl))
            simp only [Act.put, List.setIfInBounds_toArray, List.set_cons_zero, List.set_cons_succ]
            refine wpAnyH_ready (rs := [21]) (by kernel_rfl) (by simp) ?_
            refine AllReadyH.cons (o := { dst := some 119, op := Go.Op.call { callee := Go.Callee.value (Go.Operand.func 25), args := #[Go.Operand.tmp 118], argTypes := #[48] }, type := 2, pos := "law.go:113", after := #[{ on := 20, ground := Go.Ground.data }, { on := 19, ground := Go.Ground.chain }, { on := 19, ground := Go.Ground.guard }], guard := some (19, true) }) rfl (fun K hK => ?_) AllReadyH.nil
            go_simp
            refine (wtr_off v3 W3.out).mono ?_; rintro e v4 ⟨rfl, rfl⟩
            go_wp2_with fail
            refine hK.out _ _ (⟨HC3.out, CB.out _ V3.out⟩) (fun hHeld => ?_)
            clear hK K
            (try simp only [Act.put, List.setIfInBounds_toArray, List.set_cons_zero, List.set_cons_succ])
            refine wpAnyH_take (i := 26) (oi := { dst := some 124, op := Go.Op.binOp Go.BinOp.eql 2 (Go.Operand.tmp 119) (Go.Operand.tmp 123) 2, type := 4, pos := "law.go:113", after := #[{ on := 21, ground := Go.Ground.data }, { on := 25, ground := Go.Ground.data }, { on := 19, ground := Go.Ground.guard }], guard := some (19, true) }) (v := ?_) rfl (by kernel_rfl) (by kernel_rfl) (by kernel_rfl) (fun _ _ _ h => h) (Or.inl ⟨by rfl, ?_⟩) (by assumption) ?_
            rotate_left 1
            focus ((intro wS hSw; (try dsimp only at hSw); go_simp) <;> (try with_reducible rfl))
            simp only [Act.put, List.setIfInBounds_toArray, List.set_cons_zero, List.set_cons_succ]
            refine wpAnyH_take (i := 27) (oi := { dst := some 125, op := Go.Op.pick (Go.Operand.tmp 117) (Go.Operand.tmp 124) (Go.Operand.const (Go.Value.bool false)), type := 4, pos := "law.go:113", after := #[{ on := 19, ground := Go.Ground.data }, { on := 26, ground := Go.Ground.data }], guard := none }) (v := ?_) rfl (by kernel_rfl) (by kernel_rfl) (by kernel_rfl) (fun _ _ _ h => h) (Or.inl ⟨by rfl, ?_⟩) (by assumption) ?_
            rotate_left 1
            focus ((intro wS hSw; (try dsimp only at hSw); go_simp) <;> (try with_reducible rfl))
            simp only [Act.put, List.setIfInBounds_toArray, List.set_cons_zero, List.set_cons_succ]
            refine wpAnyH_take (i := 28) (oi := { dst := some 6, op := Go.Op.assign (Go.Operand.tmp 125), type := 4, pos := "law.go:113", after := #[{ on := 27, ground := Go.Ground.data }, { on := 21, ground := Go.Ground.chain }, { on := 0, ground := Go.Ground.phase }, { on := 1, ground := Go.Ground.phase }, { on := 2, ground := Go.Ground.phase }, { on := 3, ground := Go.Ground.phase }, { on := 4, ground := Go.Ground.phase }, { on := 5, ground := Go.Ground.phase }, { on := 6, ground := Go.Ground.phase }, { on := 7, ground := Go.Ground.phase }, { on := 8, ground := Go.Ground.phase }, { on := 9, ground := Go.Ground.phase }, { on := 10, ground := Go.Ground.phase }, { on := 11, ground := Go.Ground.phase }, { on := 12, ground := Go.Ground.phase }, { on := 13, ground := Go.Ground.phase }, { on := 14, ground := Go.Ground.phase }, { on := 15, ground := Go.Ground.phase }, { on := 16, ground := Go.Ground.phase }, { on := 17, ground := Go.Ground.phase }, { on := 18, ground := Go.Ground.phase }, { on := 19, ground := Go.Ground.phase }, { on := 20, ground := Go.Ground.phase }, { on := 21, ground := Go.Ground.phase }, { on := 22, ground := Go.Ground.phase }, { on := 23, ground := Go.Ground.phase }, { on := 24, ground := Go.Ground.phase }, { on := 25, ground := Go.Ground.phase }, { on := 26, ground := Go.Ground.phase }, { on := 27, ground := Go.Ground.phase }], guard := none }) (v := ?_) rfl (by kernel_rfl) (by kernel_rfl) (by kernel_rfl) (fun _ _ _ h => h) (Or.inl ⟨by rfl, ?_⟩) (by assumption) ?_
            rotate_left 1
            focus ((intro wS hSw; (try dsimp only at hSw); go_simp) <;> (try with_reducible rfl))
            simp only [Act.put, List.setIfInBounds_toArray, List.set_cons_zero, List.set_cons_succ]
            refine wpAnyH_done (by kernel_rfl) ?_ _
            go_wp2
            go_ret
            exact ⟨rfl, V3.out⟩
end Go.Proofs.Ytjipmiiohijfoaa
