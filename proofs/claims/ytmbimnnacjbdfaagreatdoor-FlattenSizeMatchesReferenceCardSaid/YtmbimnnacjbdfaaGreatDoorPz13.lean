/-
  Layer 7: the program's Encode, over what its field writers answer.
-/
import Derived.Test.YtmbimnnacjbdfaaGreatDoorPz12
import Derived.Test.YtmbimnnacjbdfaaGreatDoorPz09
import Derived.Deep.RegionHeld3
namespace Go.Proofs.YtmbimnnacjbdfaaGreatDoor.Ust
open Go.RowKit
open Oct Cst Chk

set_option maxHeartbeats 4000000 in
set_option maxRecDepth 100000 in
theorem enc_loop (V C : Nat → List Int) (v0 v1 v2 v3 v4 v5 : Value) (w : World) (h0 : C 0 = zeros 512) (h1 : ∀ j, j < 13 → C (j + 1) = lay (C j) (offT j) (V j)) (hC : ∀ j, j ≤ 13 → (C j).length = 512) (hV : ∀ j, j < 13 → (V j).length = wdT j)
    (hk : ∀ w, Calls Tryz.prog 43 #[.agg #[v0, v1, v2, v3, v4, v5]] w fun e w' => e = .returned (.int .i64 0) ∧ Below w.heap.size w w')
    (hf : ∀ j, j < 13 → ∀ w, Calls Tryz.prog (fmtT j) #[.agg #[v0, v1, v2, v3, v4, v5], .int .i64 (wdT j : Int)] w (OneB (V j) (wdT j) w)) :
    Calls Tryz.prog 25 #[.agg #[v0, v1, v2, v3, v4, v5]] w fun e w' => ∃ b : Nat, e = .returned (.tuple #[.slice (some ⟨b, 0, none⟩) 512 512, .int .i64 0]) ∧ ArrAt w' b 119 (sealZ (C 13)) ∧ w.heap.size ≤ b ∧ Below w.heap.size w w' := by
  have C0 := Lib.hid h0; have C1 := Lib.hid h1; have CL := Lib.hid hC; have VL := Lib.hid hV; have HK := Lib.hid hk; have HF := Lib.hid hf
  clear h0 h1 hC hV hk hf
  go_enter Tryz.func25, Tryz.ntmps25
  go_wp2_with (first | (refine wpList_box_obj rfl 63 _ rfl [v0, v1, v2, v3, v4, v5] rfl ?_; intro w1 g1 b1; have H1 := Lib.hid g1; have B1 := Lib.hid b1; have c0 := g1.get 0 rfl; have c1 := g1.get 1 rfl; have c2 := g1.get 2 rfl; have c3 := g1.get 3 rfl; have c4 := g1.get 4 rfl; have c5 := g1.get 5 rfl; clear g1 b1))
  refine (HK.out _).mono ?_; rintro e w2 ⟨rfl, b2⟩
  have H2 := Lib.hid (H1.out.below b2 H1.out.lt)
  have B2 := Lib.hid (belT B1.out b2)
  clear b2 c0 c1 c2 c3 c4 c5 H1 B1
  have L2 := Lib.hid H2.out.lt
  obtain ⟨i0, HJ⟩ := info_u8 (P := Tryz.prog) (e := 5) (by kernel_rfl)
  go_wp2_with (first | (refine wpList_make_arr rfl _ _ 25 5 rfl Tryz.underlying25 i0 HJ 512 rfl rfl (by decide) ?_; intro w3 h3 b3; have A3 := Lib.hid h3; have B3 := Lib.hid b3; clear h3 b3))
  refine (fields_any _).mono ?_; rintro e w4 ⟨rfl, h4, b4⟩
  have H4 := Lib.hid h4; have B4 := Lib.hid b4; clear h4 b4
  have O4 := Lib.hid ((H2.out.below B3.out H2.out.lt).below B4.out (Nat.lt_of_lt_of_le L2.out B3.out.size))
  have A4 := Lib.hid (A3.out.below B4.out A3.out.lt)
  have BB := Lib.hid (belT (belT B2.out B3.out) B4.out)
  have L3 := Lib.hid A3.out.lt
  have L4 := Lib.hid H4.out.lt
  clear HJ
  obtain ⟨hb, hhb⟩ := named w.heap.size
  obtain ⟨ab, hab⟩ := named w2.heap.size
  obtain ⟨tb, htb⟩ := named w3.heap.size
  rw [← hhb.out] at O4 L2
  rw [← hab.out] at A4 L3 L2
  rw [← htb.out] at H4 L3 L4
  have LW : Hid (w.heap.size ≤ ab) := by have h := hab.out; show _ ≤ _; rw [h]; exact B2.out.size
  rw [← hab.out, ← htb.out, ← hhb.out]
  go_wp2_with fail
  go_loopw [16] (fun i wr => ∃ j : Nat, j ≤ 13 ∧ i = .int .i64 j ∧ ArrAt wr ab 5 (C j) ∧ ObjAt wr tb 94 tabV ∧ ObjAt wr hb 63 [v0, v1, v2, v3, v4, v5] ∧ Below w.heap.size w wr) (fun i _ => 13 - (intOf i).toNat)
  case atStart => exact ⟨0, Nat.zero_le _, rfl, by rw [C0.out]; exact A4.out, H4.out, O4.out, BB.out⟩
  case round =>
    obtain ⟨j, hj, rfl, ha, ht, ho, hbb⟩ := hrel
    have A := Lib.hid ha; have T := Lib.hid ht; have O := Lib.hid ho; have B := Lib.hid hbb
    clear ha ht ho hbb
    by_cases hlt : j < 13
    · have hlt' : (j : Int) < 13 := by omega
      have hrow := tab_row hlt
      obtain ⟨off, hoff⟩ := named (offT j)
      obtain ⟨wd, hwd⟩ := named (wdT j)
      obtain ⟨f, hfn⟩ := named (fmtT j)
      obtain ⟨p, hpn⟩ := named (prsT j)
      have HFj := Lib.hid (HF.out j hlt)
      have VLj := Lib.hid (VL.out j hlt)
      have FIT := Lib.hid (wdT_fit hlt)
      have CN := Lib.hid (C1.out j hlt)
      rw [← hoff.out, ← hwd.out, ← hfn.out, ← hpn.out] at hrow
      have FE : Hid (∀ args w, (callFunc (fmtT j) args).run Tryz.prog w = .ok (.enter (fmtT j) args) w) := fun args w => fmt_enter hlt args w
      rw [← hfn.out] at FE
      rw [← hwd.out, ← hfn.out] at HFj
      rw [← hwd.out] at VLj
      rw [← hoff.out] at CN
      rw [← hoff.out, ← hwd.out] at FIT
      have RW : Hid (∀ i u, (rowV off wd f p)[i]? = some u → wr.cell? ⟨tb, j * 4 + i, none⟩ = some u) := fun i u hu => T.out.get _ (hrow i u hu)
      clear hrow hoff hwd hfn hpn
      have HZ : Hid ((Tryz.prog.info? 94).map (·.zero) = some (some (.agg ([.int .i64 0, .int .i64 0, .nilFunc, .nilFunc] : List Value).toArray))) := by show _ = _; kernel_rfl
      have HT : Hid (ObjT Tryz.prog 94 4) := ⟨⟨_, Tryz.underlying94⟩, by kernel_rfl⟩
      go_wp2_with (first | (refine wpList_load_part rfl 94 4 HT.out _ rfl tb (j * 4) rfl (rowV off wd f p) rfl RW.out ?_) | (refine wpList_alloc_obj rfl 94 rfl [.int .i64 0, .int .i64 0, .nilFunc, .nilFunc] HZ.out ?_; intro w5 g5 b5; have H5 := Lib.hid g5; have B5 := Lib.hid b5; clear g5 b5) | (refine wpList_store_obj rfl 94 _ _ rfl wr.heap.size rfl (rowV off wd f p) [.int .i64 0, .int .i64 0, .nilFunc, .nilFunc] rfl 94 H5.out HT.out.2 rfl (by simp [Value.oneCell']) ?_; intro w6 g6 t6; have H6 := Lib.hid g6; have T6 := Lib.hid t6; clear g6 t6))
      obtain ⟨g, hg⟩ := named wr.heap.size
      have LA := Lib.hid A.out.lt; have LT := Lib.hid T.out.lt; have LO := Lib.hid O.out.lt
      rw [← hg.out] at H5 H6 T6 LA LT LO
      have NG : Hid (Below w.heap.size w w6) := by
        have h : w.heap.size ≤ g := by rw [hg.out]; exact B.out.size
        exact B.out.trans ((B5.out.mono B.out.size).trans (T6.out.below h))
      have A6 : Hid (ArrAt w6 ab 5 (C j)) := (A.out.below B5.out A.out.lt).turned T6.out (Nat.ne_of_lt LA.out)
      have T6' : Hid (ObjAt w6 tb 94 tabV) := (T.out.below B5.out T.out.lt).turned T6.out (Nat.ne_of_lt LT.out)
      have O6 : Hid (ObjAt w6 hb 63 [v0, v1, v2, v3, v4, v5]) := (O.out.below B5.out O.out.lt).turned T6.out (Nat.ne_of_lt LO.out)
      have KS : Hid (∀ w', Below w6.heap.size w6 w' → w'.cell? ⟨g, 0, none⟩ = some (.int .i64 off) ∧ w'.cell? ⟨g, 1, none⟩ = some (.int .i64 wd) ∧ w'.cell? ⟨g, 2, none⟩ = some (.func (.func f) #[] #[]) ∧ w'.cell? ⟨hb, 0, none⟩ = some v0 ∧ w'.cell? ⟨hb, 1, none⟩ = some v1 ∧ w'.cell? ⟨hb, 2, none⟩ = some v2 ∧ w'.cell? ⟨hb, 3, none⟩ = some v3 ∧ w'.cell? ⟨hb, 4, none⟩ = some v4 ∧ w'.cell? ⟨hb, 5, none⟩ = some v5) := fun w' hw => by
        have h := H6.out.below hw H6.out.lt
        have h' := O6.out.below hw O6.out.lt
        exact ⟨h.get 0 rfl, h.get 1 rfl, h.get 2 rfl, h'.get 0 rfl, h'.get 1 rfl, h'.get 2 rfl, h'.get 3 rfl, h'.get 4 rfl, h'.get 5 rfl⟩
      have NGA : Hid (g ≠ ab) := by have := LA.out; show _ ≠ _; omega
      have NOA : Hid (hb ≠ ab) := Nat.ne_of_lt L2.out
      have NTA : Hid (tb ≠ ab) := by have := L3.out; show _ ≠ _; omega
      have KT : Hid (∀ w' w'', Below w6.heap.size w6 w' → Turned w' w'' ab → w''.cell? ⟨g, 0, none⟩ = some (.int .i64 off) ∧ w''.cell? ⟨g, 1, none⟩ = some (.int .i64 wd) ∧ w''.cell? ⟨g, 2, none⟩ = some (.func (.func f) #[] #[]) ∧ w''.cell? ⟨hb, 0, none⟩ = some v0 ∧ w''.cell? ⟨hb, 1, none⟩ = some v1 ∧ w''.cell? ⟨hb, 2, none⟩ = some v2 ∧ w''.cell? ⟨hb, 3, none⟩ = some v3 ∧ w''.cell? ⟨hb, 4, none⟩ = some v4 ∧ w''.cell? ⟨hb, 5, none⟩ = some v5) := fun w' w'' hw ht => by
        have h := (H6.out.below hw H6.out.lt).turned ht NGA.out
        have h' := (O6.out.below hw O6.out.lt).turned ht NOA.out
        exact ⟨h.get 0 rfl, h.get 1 rfl, h.get 2 rfl, h'.get 0 rfl, h'.get 1 rfl, h'.get 2 rfl, h'.get 3 rfl, h'.get 4 rfl, h'.get 5 rfl⟩
      have CLj := Lib.hid (CL.out j hj)
      have HE : Hid ((Tryz.prog.info? 5).map (·.size) = some 1) := by show _ = _; kernel_rfl
      have o1 : (off : Int) ≤ 512 := by have := FIT.out; omega
      have o2 : ¬ 512 < off := by have := FIT.out; omega
      have o3 : ¬ 512 = off := by have := FIT.out; omega
      go_simp
      rw [← hg.out]
      -- REGION
      refine wp_region_held_drew (S := (fun w' => w'.cell? ⟨g, 0, none⟩ = some (.int .i64 off) ∧ w'.cell? ⟨g, 1, none⟩ = some (.int .i64 wd) ∧ w'.cell? ⟨g, 2, none⟩ = some (.func (.func f) #[] #[]) ∧ w'.cell? ⟨hb, 0, none⟩ = some v0 ∧ w'.cell? ⟨hb, 1, none⟩ = some v1 ∧ w'.cell? ⟨hb, 2, none⟩ = some v2 ∧ w'.cell? ⟨hb, 3, none⟩ = some v3 ∧ w'.cell? ⟨hb, 4, none⟩ = some v4 ∧ w'.cell? ⟨hb, 5, none⟩ = some v5)) (by kernel_rfl) (KS.out _ (Below.refl _ _).drew) (fun hHeld => ?_)
      refine wpAnyH_take (i := 0) (oi := { dst := some 20, op := Go.Op.move (Go.Operand.tmp 5), type := 25, pos := "ustar.go:68", after := #[], guard := none }) (v := ?_) rfl (by kernel_rfl) (by kernel_rfl) (by kernel_rfl) (fun _ _ _ h => h) (Or.inl ⟨by rfl, ?_⟩) (by assumption) ?_
      rotate_left 1
      focus ((intro wS hSw; (try dsimp only at hSw); go_simp) <;> (try with_reducible rfl))
      simp only [Act.put, List.setIfInBounds_toArray, List.set_cons_zero, List.set_cons_succ]
      refine wpAnyH_take (i := 1) (oi := { dst := some 21, op := Go.Op.fieldAddr 94 (Go.Operand.tmp 7) 0, type := 0, pos := "ustar.go:68", after := #[], guard := none }) (v := ?_) rfl (by kernel_rfl) (by kernel_rfl) (by kernel_rfl) (fun _ _ _ h => h) (Or.inl ⟨by rfl, ?_⟩) (by assumption) ?_
      rotate_left 1
      focus ((intro wS hSw; (try dsimp only at hSw); go_simp) <;> (try with_reducible rfl))
      simp only [Act.put, List.setIfInBounds_toArray, List.set_cons_zero, List.set_cons_succ]
      refine wpAnyH_take (i := 2) (oi := { dst := some 22, op := Go.Op.load 3 (Go.Operand.tmp 21), type := 3, pos := "ustar.go:68", after := #[{ on := 1, ground := Go.Ground.data }], guard := none }) (v := ?_) rfl (by kernel_rfl) (by kernel_rfl) (by kernel_rfl) (fun _ _ _ h => h) (Or.inl ⟨by rfl, ?_⟩) (by assumption) ?_
      rotate_left 1
      focus ((intro wS hSw; (try dsimp only at hSw); go_simp) <;> (try with_reducible rfl))
      simp only [Act.put, List.setIfInBounds_toArray, List.set_cons_zero, List.set_cons_succ]
      refine wpAnyH_take (i := 3) (oi := { dst := some 23, op := Go.Op.slice 25 (Go.Operand.tmp 20) (some (Go.Operand.tmp 22)) none none, type := 25, pos := "ustar.go:68", after := #[{ on := 0, ground := Go.Ground.data }, { on := 2, ground := Go.Ground.data }], guard := none }) (v := ?_) rfl (by kernel_rfl) (by kernel_rfl) (by kernel_rfl) (fun _ _ _ h => h) (Or.inl ⟨by rfl, ?_⟩) (by assumption) ?_
      rotate_left 1
      focus ((intro wS hSw; (try dsimp only at hSw); go_simp) <;> (try with_reducible rfl))
      simp only [Act.put, List.setIfInBounds_toArray, List.set_cons_zero, List.set_cons_succ]
      refine wpAnyH_take (i := 4) (oi := { dst := some 24, op := Go.Op.fieldAddr 94 (Go.Operand.tmp 7) 2, type := 0, pos := "ustar.go:68", after := #[], guard := none }) (v := ?_) rfl (by kernel_rfl) (by kernel_rfl) (by kernel_rfl) (fun _ _ _ h => h) (Or.inl ⟨by rfl, ?_⟩) (by assumption) ?_
      rotate_left 1
      focus ((intro wS hSw; (try dsimp only at hSw); go_simp) <;> (try with_reducible rfl))
      simp only [Act.put, List.setIfInBounds_toArray, List.set_cons_zero, List.set_cons_succ]
      refine wpAnyH_take (i := 5) (oi := { dst := some 25, op := Go.Op.load 91 (Go.Operand.tmp 24), type := 91, pos := "ustar.go:68", after := #[{ on := 4, ground := Go.Ground.data }], guard := none }) (v := ?_) rfl (by kernel_rfl) (by kernel_rfl) (by kernel_rfl) (fun _ _ _ h => h) (Or.inl ⟨by rfl, ?_⟩) (by assumption) ?_
      rotate_left 1
      focus ((intro wS hSw; (try dsimp only at hSw); go_simp) <;> (try with_reducible rfl))
      simp only [Act.put, List.setIfInBounds_toArray, List.set_cons_zero, List.set_cons_succ]
      refine wpAnyH_take (i := 6) (oi := { dst := some 26, op := Go.Op.load 63 (Go.Operand.tmp 1), type := 63, pos := "ustar.go:68", after := #[], guard := none }) (v := ?_) rfl (by kernel_rfl) (by kernel_rfl) (by kernel_rfl) (fun _ _ _ h => h) (Or.inl ⟨by rfl, ?_⟩) (by assumption) ?_
      rotate_left 1
      focus ((intro wS hSw; (try dsimp only at hSw); go_simp) <;> (try with_reducible rfl))
      simp only [Act.put, List.setIfInBounds_toArray, List.set_cons_zero, List.set_cons_succ]
      refine wpAnyH_take (i := 7) (oi := { dst := some 27, op := Go.Op.fieldAddr 94 (Go.Operand.tmp 7) 1, type := 0, pos := "ustar.go:68", after := #[], guard := none }) (v := ?_) rfl (by kernel_rfl) (by kernel_rfl) (by kernel_rfl) (fun _ _ _ h => h) (Or.inl ⟨by rfl, ?_⟩) (by assumption) ?_
      rotate_left 1
      focus ((intro wS hSw; (try dsimp only at hSw); go_simp) <;> (try with_reducible rfl))
      simp only [Act.put, List.setIfInBounds_toArray, List.set_cons_zero, List.set_cons_succ]
      refine wpAnyH_take (i := 8) (oi := { dst := some 28, op := Go.Op.load 3 (Go.Operand.tmp 27), type := 3, pos := "ustar.go:68", after := #[{ on := 7, ground := Go.Ground.data }], guard := none }) (v := ?_) rfl (by kernel_rfl) (by kernel_rfl) (by kernel_rfl) (fun _ _ _ h => h) (Or.inl ⟨by rfl, ?_⟩) (by assumption) ?_
      rotate_left 1
      focus ((intro wS hSw; (try dsimp only at hSw); go_simp) <;> (try with_reducible rfl))
      simp only [Act.put, List.setIfInBounds_toArray, List.set_cons_zero, List.set_cons_succ]
      refine wpAnyH_ready (rs := [9]) (by kernel_rfl) (by simp) ?_
      refine AllReadyH.cons (o := { dst := some 29, op := Go.Op.call { callee := Go.Callee.value (Go.Operand.tmp 25), args := #[Go.Operand.tmp 26, Go.Operand.tmp 28], argTypes := #[63, 3] }, type := 25, pos := "ustar.go:68", after := #[{ on := 5, ground := Go.Ground.data }, { on := 6, ground := Go.Ground.data }, { on := 8, ground := Go.Ground.data }], guard := none }) rfl (fun K hK => ?_) AllReadyH.nil
      go_simp
      rw [FE.out, Oper.upon_enter]
      refine (HFj.out _).mono ?_; rintro e w7 ⟨b7, c7, rfl, r7, l7, n7, m7, d7⟩
      have R7 := Lib.hid r7; have L7 := Lib.hid l7; have D7 := Lib.hid ((Below.refl _ _).drew.trans d7); clear r7 l7 d7 n7 m7
      go_wp2_with fail
      refine hK.out _ _ (KS.out _ D7.out) (fun hHeld => ?_)
      clear hK K
      (try simp only [Act.put, List.setIfInBounds_toArray, List.set_cons_zero, List.set_cons_succ])
      refine wpAnyH_ready (rs := [10]) (by kernel_rfl) (by simp) ?_
      refine AllReadyH.cons (o := { dst := some 30, op := Go.Op.call { callee := Go.Callee.builtin Go.Builtin.copy, args := #[Go.Operand.tmp 23, Go.Operand.tmp 29], argTypes := #[25, 25] }, type := 3, pos := "ustar.go:68", after := #[{ on := 3, ground := Go.Ground.data }, { on := 9, ground := Go.Ground.data }, { on := 9, ground := Go.Ground.chain }], guard := none }) rfl (fun K hK => ?_) AllReadyH.nil
      have A7 := Lib.hid (A6.out.below D7.out A6.out.lt)
      refine step_copy_arr rfl (.tmp 23) (.tmp 29) 25 25 rfl 5 Tryz.underlying25 HE.out ab off (512 - off) (512 - off) rfl (some ⟨b7, 0, none⟩) wd c7 rfl (V j) (.of_row R7.out L7.out) VLj.out 5 (C j) A7.out (by rw [CLj.out]; omega) ?_
      intro w8 a8 t8
      have A8 := Lib.hid a8; have T8 := Lib.hid t8; clear a8 t8
      refine hK.out _ _ (KT.out _ _ D7.out T8.out) (fun hHeld => ?_)
      clear hK K
      (try simp only [Act.put, List.setIfInBounds_toArray, List.set_cons_zero, List.set_cons_succ])
      refine wpAnyH_done (by kernel_rfl) ?_ _
      -- BEHIND
      have AN : Hid (ArrAt w8 ab 5 (C (j + 1))) := by
        have h := A8.out
        rw [List.take_of_length_le (by have := FIT.out; rw [VLj.out]; omega), ← CN.out] at h
        exact h
      have TN := Lib.hid ((T6'.out.below D7.out T6'.out.lt).turned T8.out NTA.out)
      have ON := Lib.hid ((O6.out.below D7.out O6.out.lt).turned T8.out NOA.out)
      have BN := Lib.hid (NG.out.trans ((D7.out.mono NG.out.size).trans (T8.out.below LW.out)))
      clear o1 o2 o3
      obtain ⟨z, hz⟩ := named (goInt ↑(List.take (512 - off) (V j)).length)
      rw [← hz.out]
      clear hz
      go_wp2
      go_roundw
      case rel => exact ⟨j + 1, by omega, by go_num, AN.out, TN.out, ON.out, BN.out⟩
      case measure => simp [intOf]; omega
    · obtain rfl : j = 13 := by omega
      go_wp2_with fail
      refine (Chk.seal_ok (some ⟨ab, 0, none⟩) 512 (C 13) _ (CL.out 13 (Nat.le_refl _)) A.out.bytes A.out.2).mono ?_; rintro e w9 ⟨b, rfl, h9, l9, b9⟩
      have H9 := Lib.hid h9; have L9 := Lib.hid (Nat.le_trans B.out.size l9); have B9 := Lib.hid (belT B.out b9); clear h9 l9 b9
      go_wp2
      go_ret2
      exact ⟨b, rfl, H9.out, L9.out, B9.out⟩
section
variable (T : Int) (nm pf lk : ByteArray) (md sz : Int)
/-- the field writers, row by row -/
theorem fmt_row (h : ckH T nm pf lk md sz = 0) {j : Nat} (hj : j < 13) (w : World) :
    Calls Tryz.prog (fmtT j) #[.agg (hdV T nm pf lk md sz).toArray, .int .i64 (wdT j : Int)] w (OneB (valT T nm pf lk md sz j) (wdT j) w) := by
  obtain ⟨k1, k2, k3, k4, k5, k6⟩ := ckH_zero.1 h
  match j, hj with
  | 0, _ => exact fm_name T nm pf lk md sz w 100 100 rfl k2
  | 1, _ => exact fm_mode T nm pf lk md sz w k5.1 k5.2
  | 2, _ => exact fm_zero T nm pf lk md sz w 8 7 (by decide) (by decide) rfl
  | 3, _ => exact fm_zero T nm pf lk md sz w 8 7 (by decide) (by decide) rfl
  | 4, _ => exact fm_size T nm pf lk md sz w k6.1 k6.2
  | 5, _ => exact fm_zero T nm pf lk md sz w 12 11 (by decide) (by decide) rfl
  | 6, _ => exact fm_type T nm pf lk md sz w (known_byte k1) 1
  | 7, _ => exact fm_link T nm pf lk md sz w 100 100 rfl k3
  | 8, _ => exact fm_magic T nm pf lk md sz w
  | 9, _ => exact fm_version T nm pf lk md sz w
  | 10, _ => exact fm_zero T nm pf lk md sz w 8 7 (by decide) (by decide) rfl
  | 11, _ => exact fm_zero T nm pf lk md sz w 8 7 (by decide) (by decide) rfl
  | 12, _ => exact fm_prefix T nm pf lk md sz w 155 155 rfl k4

theorem enc_ok (w : World) (hn : nm.size ≤ maxLen) (hp : pf.size ≤ maxLen) (hk : lk.size ≤ maxLen) (h : ckH T nm pf lk md sz = 0) :
    Calls Tryz.prog 25 #[.agg (hdV T nm pf lk md sz).toArray] w fun e w' => ∃ b c, e = .returned (.tuple #[.slice (some ⟨b, 0, none⟩) 512 c, .int .i64 0]) ∧ RowAt w' b 0 (encH T nm pf lk md sz) ∧ w.heap.size ≤ b ∧ b < w'.heap.size ∧ 512 ≤ c ∧ c ≤ maxLen ∧ Below w.heap.size w w' := by
  have hk1 := known_byte (ckH_zero.1 h).1
  refine (enc_loop (valT T nm pf lk md sz) (cont T nm pf lk md sz) (.int .u8 T) (.string nm) (.string pf) (.string lk) (.int .i64 md) (.int .i64 sz) w rfl (fun _ _ => rfl) (fun j hj => cont_length h hj) (fun j hj => valT_length h hj)
    (fun w => by have := check_any T nm pf lk md sz w hn hp hk hk1; rw [h] at this; exact this) (fun j hj w => fmt_row T nm pf lk md sz h hj w)).mono ?_
  rintro e w' ⟨b, rfl, h1, h2, h3⟩
  rw [cont_sealed h] at h1
  exact ⟨b, 512, rfl, h1.row, h2, h1.lt, Nat.le_refl _, by unfold maxLen; omega, h3⟩

set_option maxHeartbeats 1000000 in
theorem enc_bad (w : World) (hn : nm.size ≤ maxLen) (hp : pf.size ≤ maxLen) (hk : lk.size ≤ maxLen) (hT : 0 ≤ T ∧ T ≤ 255) (h : ckH T nm pf lk md sz ≠ 0) :
    Calls Tryz.prog 25 #[.agg (hdV T nm pf lk md sz).toArray] w fun e w' => e = .returned (.tuple #[.slice none 0 0, .int .i64 (ckH T nm pf lk md sz)]) ∧ Below w.heap.size w w' := by
  have HK : Hid (∀ w, Calls Tryz.prog 43 #[.agg (hdV T nm pf lk md sz).toArray] w fun e w' => e = .returned (.int .i64 (ckH T nm pf lk md sz)) ∧ Below w.heap.size w w') := fun w => check_any T nm pf lk md sz w hn hp hk hT
  obtain ⟨E, hE⟩ := named (ckH T nm pf lk md sz)
  rw [← hE.out] at HK h ⊢
  have e1 : (E != 0) = true := by simpa using h
  clear h hE hn hp hk hT
  go_enter Tryz.func25, Tryz.ntmps25
  go_wp2_with (first | (refine wpList_box_obj rfl 63 _ rfl (hdV T nm pf lk md sz) rfl ?_; intro w1 g1 b1; have H1 := Lib.hid g1; have B1 := Lib.hid b1; have c0 := g1.get 0 rfl; have c1 := g1.get 1 rfl; have c2 := g1.get 2 rfl; have c3 := g1.get 3 rfl; have c4 := g1.get 4 rfl; have c5 := g1.get 5 rfl; clear g1 b1))
  refine (HK.out _).mono ?_; rintro e w2 ⟨rfl, b2⟩
  have B2 := Lib.hid (belT B1.out b2)
  clear b2 c0 c1 c2 c3 c4 c5 H1 B1
  go_wp2
  go_ret2
  exact ⟨rfl, B2.out⟩
end
end Go.Proofs.YtmbimnnacjbdfaaGreatDoor.Ust
/-
  Literals of four bytes; own rows beside a struct that is stored whole. Nothing of the program.
-/
namespace Go.Proofs.YtmbimnnacjbdfaaGreatDoor.Fit
open Go.RowKit Pxr Pnm

theorem own_turned2 {w w' : World} {base n size g : Nat} {e : TypeId} {v : Value} {xs : List Value} (h : w.ownsRow base e size v n xs) (t : Turned w w' g) (hb : g < base) : w'.ownsRow base e size v n xs := by
  obtain ⟨h1, h2⟩ := h
  refine ⟨h1, ?_⟩
  rcases h2 with h2 | ⟨g', cap', cur, hv, hb', hh, r⟩
  · exact Or.inl h2
  · exact Or.inr ⟨g', cap', cur, hv, hb', by rw [t.other (by omega)]; exact hh, r⟩
theorem u8J : (Tryz.prog.info? 5).map (fun i => (i.zero, i.size)) = some (some (.int .u8 0), 1) := by kernel_rfl
abbrev u4 (a b c d : Int) : List Value := [.int .u8 a, .int .u8 b, .int .u8 c, .int .u8 d]
theorem tys_at {k : Int} (k0 : 0 ≤ k) (k4 : k < 4) : (u4 53 48 50 49)[k.toNat]? = some (.int .u8 (tyZ k)) := by
  rcases (show k = 0 ∨ k = 1 ∨ k = 2 ∨ k = 3 by omega) with rfl | rfl | rfl | rfl <;> rfl
section
variable {P : Program} {w : World} {ops : Array Oper} {rest : List Oper} {o : Oper} {a : Act} {Q : Exit → Act → World → Prop}
theorem run_lit_u8_4 (t e : TypeId) (ht : P.underlying t = some (.slice e)) (hI : (P.info? e).map (fun i => (i.zero, i.size)) = some (some (.int .u8 0), 1)) (x y z u : Int) :
    (Instr.buildSlice t 4 #[(0, .int .u8 x), (1, .int .u8 y), (2, .int .u8 z), (3, .int .u8 u)]).run P w = .ok (.slice (some ⟨w.heap.size, 0, none⟩) 4 4) (w.alloc (.cells (u4 x y z u).toArray e)) := by
  cases hq : P.info? e with
  | none => simp [hq] at hI
  | some i =>
    simp [hq] at hI
    simp [Instr.buildSlice, run_underlying ht, sizeOf, typeInfo, zeroValue, hq, hI.1, hI.2, Instr.fill, newRow, Value.cells]
    rw [show Array.range 4 = #[0, 1, 2, 3] by decide]; simp
theorem step_lit_u8_4 {K : Act → World → Prop} {E : Prop} (hgd : o.guard = none) (t e : TypeId) (x0 x1 x2 x3 : Operand) (ho : o.op = .buildSlice t 4 #[(0, x0), (1, x1), (2, x2), (3, x3)]) (ht : P.underlying t = some (.slice e)) (hI : (P.info? e).map (fun i => (i.zero, i.size)) = some (some (.int .u8 0), 1))
    (x y z u : Int) (h0 : a.eval x0 = .int .u8 x) (h1 : a.eval x1 = .int .u8 y) (h2 : a.eval x2 = .int .u8 z) (h3 : a.eval x3 = .int .u8 u)
    (k : ∀ w', ObjAt w' w.heap.size e (u4 x y z u) → Below w.heap.size w w' → K (a.put o.dst (.slice (some ⟨w.heap.size, 0, none⟩) 4 4)) w') :
    if Region.wanted o (yielded ops a.tmps) = true then Oper.wp P o a w K Q else E := by
  have hw : Region.wanted o (yielded ops a.tmps) = true := by simp [Region.wanted, hgd]
  rw [if_pos hw]
  have hrun := run_lit_u8_4 (P := P) (w := w) t e ht hI x y z u
  unfold Oper.wp
  simp [execOp, ho, h0, h1, h2, h3, hrun, Result.andThen]
  exact k _ (heap_alloc_new w _) ((Below.refl _ _).alloc (Nat.le_refl _) _)
theorem wpList_lit_u8_4 (hgd : o.guard = none) (t e : TypeId) (x0 x1 x2 x3 : Operand) (ho : o.op = .buildSlice t 4 #[(0, x0), (1, x1), (2, x2), (3, x3)]) (ht : P.underlying t = some (.slice e)) (hI : (P.info? e).map (fun i => (i.zero, i.size)) = some (some (.int .u8 0), 1))
    (x y z u : Int) (h0 : a.eval x0 = .int .u8 x) (h1 : a.eval x1 = .int .u8 y) (h2 : a.eval x2 = .int .u8 z) (h3 : a.eval x3 = .int .u8 u)
    (K : ∀ w', ObjAt w' w.heap.size e (u4 x y z u) → Below w.heap.size w w' → wpList P ops Q rest (a.put o.dst (.slice (some ⟨w.heap.size, 0, none⟩) 4 4)) w') : wpList P ops Q (o :: rest) a w := by
  refine wpList_plain hgd fun K' hK => ?_
  have hrun := run_lit_u8_4 (P := P) (w := w) t e ht hI x y z u
  unfold Oper.wp
  simp [execOp, ho, h0, h1, h2, h3, hrun, Result.andThen]
  exact hK _ _ (K _ (heap_alloc_new w _) ((Below.refl _ _).alloc (Nat.le_refl _) _))
end
end Go.Proofs.YtmbimnnacjbdfaaGreatDoor.Fit
