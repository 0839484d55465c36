/-
  The statement RebuildMatchesReference: a walk. (gen_RebLaw1.py writes it.)
-/
import Derived.Test.YtinmkgpmoclcoaaDoorRebTwo
import Derived.Test.YtinmkgpmoclcoaaDoorRebLarge
import Derived.Test.YtinmkgpmoclcoaaDoorPz14
namespace Go.Proofs.YtinmkgpmoclcoaaDoor
open Go.RowKit Go.Proofs.YtinmkgpmoclcoaaDoor.Fit Pnm Tre Flt Reb

set_option maxRecDepth 100000 in
set_option maxHeartbeats 8000000 in
theorem walk_RebuildMatchesReference (a : Option Addr) (n cap : Nat) (ys : List MbS) (w : World) (V : Pxr.Vars w) (ha : ArgMbs w a n cap ys) :
    Calls Tryd.prog 3 #[.slice a n cap] w fun e w' => e = .returned (.bool true) ∧ Below w.heap.size w w' := by
  have HV := Lib.hid (FVars.mk V)
  have HA := Lib.hid ha
  have MZ := Lib.hid Flt.zMb
  have MT := Lib.hid Flt.mbT
  clear V ha
  go_enter Tryd.func3, Tryd.ntmps3
  go_wp2_with fail
  refine (pbadd_nil ⟨⟨⟨0, emp, 0, emp, 0⟩, []⟩, none, 0⟩ w).mono ?_; rintro e w1 ⟨rfl, b1⟩
  have B1 := Lib.hid b1
  clear b1
  go_wp2_with fail
  refine (pbchk_nil 0 emp 0 emp 0 w1).mono ?_; rintro e w2 ⟨rfl, b2⟩
  have B2 := Lib.hid (belT B1.out b2)
  clear b2
  go_wp2_with fail
  refine (pbnds_nil w2).mono ?_; rintro e w3 ⟨rfl, rfl⟩
  go_wp2_with fail
  refine (Reb.large_any a n cap ys w2 (HA.out.below B2.out)).mono ?_; rintro e w4 ⟨R, rfl, hR, b4⟩
  have B4 := Lib.hid (belT B2.out b4)
  clear b4
  rcases hR with rfl | ⟨rfl, h40, _⟩
  · go_wp2_with fail
    refine (Reb.alive_any w4 (HV.out.go B4.out)).mono ?_; rintro e w5 ⟨rfl, b5⟩
    have B5 := Lib.hid (belT B4.out b5)
    go_wp2
    go_ret
    exact ⟨rfl, B5.out⟩
  have H1 := Lib.hid h40
  have n40 : (n : Int) ≤ 40 := by omega
  clear h40
  go_wp2_with fail
  refine (new_any w4).mono ?_; rintro e w5 ⟨S, g, rfl, p5, s5, b5⟩
  have P5 := Lib.hid p5; have S5 : Hid (∀ k, S k → w.heap.size ≤ k) := fun k hk => Nat.le_trans B4.out.size (s5 k hk)
  have B5 := Lib.hid (belT B4.out b5)
  clear p5 s5 b5
  go_wp2_with (first | (refine wpList_box_obj rfl 39 _ rfl [.slice none 0 0] rfl ?_; intro w6 g6 b6; have G6 := Lib.hid g6; have P6 := Lib.hid (P5.out.below b6); have B6 := Lib.hid (belT B5.out b6); clear g6 b6))
  have R6 : Hid (RfB w6 S w5.heap.size []) := RfB.nil G6.out fun hs => absurd (P5.out.lt _ hs) (Nat.lt_irrefl _)
  obtain ⟨g', hg'⟩ := named w5.heap.size
  have GG : Hid (w.heap.size ≤ g') := by show _ ≤ _; rw [hg'.out]; exact B5.out.size
  have GL : Hid (g' < w6.heap.size) := by show _ < _; rw [hg'.out]; exact G6.out.lt
  rw [← hg'.out] at R6
  rw [← hg'.out]
  clear hg' G6
  go_loopw [35] (fun i wr => ∃ (j : Nat) (S' : Nat → Prop) (A : List Mb), i = .int .i64 j ∧ j ≤ n ∧ A.length ≤ j ∧ (∀ q, S' q → w.heap.size ≤ q) ∧ PBd wr S' g A ∧ RfB wr S' g' A ∧ g' < wr.heap.size ∧ Below w.heap.size w wr) (fun i _ => n - (intOf i).toNat)
  case atStart => exact ⟨0, S, [], rfl, Nat.zero_le _, Nat.zero_le _, S5.out, P6.out, R6.out, GL.out, B6.out⟩
  case round =>
    obtain ⟨j, S', A, rfl, hj, hLj, hS, hP, hR, hgl, hB⟩ := hrel
    have HS := Lib.hid hS; have HP := Lib.hid hP; have HB := Lib.hid hB; have HR := Lib.hid hR; have LJ := Lib.hid hLj; have GL' := Lib.hid hgl
    clear hS hP hB hR hLj hgl
    by_cases hjn : j < n
    · obtain ⟨bb, off, y, hbe, hbl, hy, hf, hat⟩ := HA.out.get j hjn
      subst hbe
      have HF := Lib.hid hf; have AT0 := at_row (hat.below HB.out hbl) hy
      have AL : Hid (A.length ≤ j) := LJ.out
      have JN := Lib.hid hjn
      have j1 : (j : Int) < n := by omega
      clear hbl hy hf hat
      obtain ⟨⟨⟨k, p, m, t, s⟩, d⟩, x, xc⟩ := y
      obtain ⟨Ly, hLy⟩ := named d.length
      have HLY : Hid (d.length = Ly) := hLy.out.symm
      have AT : Hid (∀ q u, (mbC k p m t s x Ly xc)[q]? = some u → wr.cell? ⟨bb, off + j * 6 + q, none⟩ = some u) := by show ∀ _ _, _; rw [← HLY.out]; exact AT0
      clear AT0 hLy hjn
      go_wp2_with (first | (refine wpList_load_part rfl 30 6 MT.out _ rfl bb (off + j * 6) rfl (mbC k p m t s x Ly xc) rfl AT.out ?_) | (refine wpList_alloc_obj rfl 30 rfl (mbC 0 emp 0 emp 0 none 0 0) MZ.out ?_; intro w7 g7 b7; have G7 := Lib.hid g7; have B7 := Lib.hid b7; clear g7 b7) | (refine wpList_store_obj rfl 30 _ _ rfl wr.heap.size rfl (mbC k p m t s x Ly xc) (mbC 0 emp 0 emp 0 none 0 0) rfl 30 G7.out MT.out.2 rfl (mb_one _ _ _ _ _ _ _ _) ?_; intro wz g8 t8; have G8 := Lib.hid g8; have B8 := Lib.hid (B7.out.trans (t8.below (Nat.le_refl _))); clear g8 t8))
      have BW := Lib.hid (HB.out.trans (B8.out.mono HB.out.size))
      have ZR : Hid (wr.heap.size ≤ wr.heap.size) := Nat.le_refl _
      have D0 : Hid (Below wz.heap.size wz wz.drew) := (Below.refl _ _).drew
      have HPd : Hid (PBd wz.drew S' g A) := (HP.out.below B8.out).below D0.out
      have HRd : Hid (RfB wz.drew S' g' A) := (HR.out.below B8.out).below D0.out
      have Gd0 : Hid (ObjAt wz.drew wr.heap.size 30 (mbC k p m t s x Ly xc)) := G8.out.below D0.out G8.out.lt
      have HPL : Hid (∀ k, S' k → k < wr.heap.size) := HP.out.lt
      have LR : Hid (g' < wr.heap.size ∧ w.heap.size ≤ g') := ⟨GL'.out, GG.out⟩
      obtain ⟨XC, hXC⟩ := named (chR A ⟨k, p, m, t, s⟩)
      obtain ⟨X, hX⟩ := named (adR A ⟨⟨k, p, m, t, s⟩, d⟩)
      have XA : Hid (X = adR A ⟨⟨k, p, m, t, s⟩, d⟩) := hX.out
      have A40 : Hid (A.length + 1 ≤ 40) := by show _ ≤ _; have := AL.out; have := JN.out; omega
      have PS : Hid (p.size ≤ maxLen) := Nat.le_trans HF.out.p (by unfold maxLen; omega)
      have TS : Hid (t.size ≤ maxLen) := Nat.le_trans HF.out.t (by unfold maxLen; omega)
      have KO : Hid (∀ w', ObjAt w' wr.heap.size 30 (mbC k p m t s x Ly xc) → (fun w' : World => w'.cell? ⟨wr.heap.size, 0, none⟩ = some (.int .i64 k) ∧ w'.cell? ⟨wr.heap.size, 1, none⟩ = some (.string p) ∧ w'.cell? ⟨wr.heap.size, 2, none⟩ = some (.int .i64 m) ∧ w'.cell? ⟨wr.heap.size, 3, none⟩ = some (.string t) ∧ w'.cell? ⟨wr.heap.size, 4, none⟩ = some (.int .i64 s) ∧ w'.cell? ⟨wr.heap.size, 5, none⟩ = some (.slice x Ly xc)) w') := fun w' h => ⟨h.get 0 rfl, h.get 1 rfl, h.get 2 rfl, h.get 3 rfl, h.get 4 rfl, h.get 5 rfl⟩
      have PCK : Hid (∀ w', PBd w' S' g A → Below w.heap.size w w' → Calls Tryd.prog 10 #[.pointer (some ⟨g, 0, none⟩), .agg (enV k p m t s).toArray] w' fun e w'' => e = .returned (.int .i64 XC) ∧ Below w'.heap.size w' w'') := fun w' h hb => by
        obtain ⟨_, _, _, _, _, _, _, _, _, h1, _⟩ := h
        rw [hXC.out]
        exact pbchk_any h1 (HV.out.go hb) k p m t s PS.out TS.out
      have RCK : Hid (∀ w', RfB w' S' g' A → Calls Tryd.prog 15 #[.pointer (some ⟨g', 0, none⟩), .agg (enV k p m t s).toArray] w' fun e w'' => e = .returned (.int .i64 XC) ∧ Below w'.heap.size w' w'') := fun w' h => by
        rw [hXC.out]
        exact rf_check h k p m t s PS.out TS.out
      have PAD : Hid (∀ w', PBd w' S' g A → Below w.heap.size w w' → Calls Tryd.prog 9 #[.pointer (some ⟨g, 0, none⟩), .agg (mbC k p m t s x Ly xc).toArray] w' (AddQ w' S' g A ⟨⟨k, p, m, t, s⟩, d⟩)) := fun w' h hb => by
        have := pbadd_any h (HV.out.go hb) ⟨⟨⟨k, p, m, t, s⟩, d⟩, x, xc⟩ (HF.out.below hb) (Reb.MbF.off HF.out HS.out) (by have := A40.out; omega)
        dsimp only [mbV] at this
        rw [HLY.out] at this
        exact this
      have RAD : Hid (∀ w' S3, RfB w' S3 g' A → (∀ k, S3 k → k < w'.heap.size) → Below w.heap.size w w' → Calls Tryd.prog 16 #[.pointer (some ⟨g', 0, none⟩), .agg (mbC k p m t s x Ly xc).toArray] w' fun e w'' => ∃ X, e = .returned (.int .i64 X) ∧ X = adR A ⟨⟨k, p, m, t, s⟩, d⟩ ∧ Only (fun k => k = g') w' w'' ∧ RfB w'' S3 g' (if X = 0 then A ++ [⟨⟨k, p, m, t, s⟩, d⟩] else A)) := fun w' S3 h hs hb => by
        have := rf_add h hs ⟨⟨⟨k, p, m, t, s⟩, d⟩, x, xc⟩ (HF.out.below hb) (by have := A40.out; omega)
        dsimp only [mbV] at this
        rw [HLY.out] at this
        exact this
      obtain ⟨AN, hAN⟩ := named (if X = 0 then A ++ [⟨⟨k, p, m, t, s⟩, d⟩] else A)
      obtain ⟨N, hN⟩ := named AN.length
      have ANL : Hid (AN.length ≤ A.length + 1) := by
        show _ ≤ _
        rw [hAN.out]
        by_cases x0 : X = 0
        · rw [if_pos x0, List.length_append]; exact Nat.le_refl _
        · rw [if_neg x0]; omega
      have HNN : Hid (AN.length = N) := hN.out.symm
      have NDS : Hid (∀ w' S3, PBd w' S3 g AN → Calls Tryd.prog 11 #[.pointer (some ⟨g, 0, none⟩)] w' (NdsP w' AN N)) := fun w' S3 h => by
        have := pbnds_any h (by have := ANL.out; have := A40.out; omega)
        rw [HNN.out] at this
        exact this
      have RND : Hid (∀ w' S3, RfB w' S3 g' AN → Gd AN → Calls Tryd.prog 18 #[.pointer (some ⟨g', 0, none⟩)] w' fun e w'' => ∃ a c zs, e = .returned (.slice a N c) ∧ ArgNds w'' a N c zs ∧ nds zs = canon (ndsOf AN) ∧ Below w'.heap.size w' w'') := fun w' S3 h hg => by
        have := rf_nodes h hg (by have := ANL.out; have := A40.out; omega)
        rw [HNN.out] at this
        exact this
      have nx : (X != X) = false := by simp
      have nxc : (XC != XC) = false := by simp
      clear hX hXC hN
      go_wp2_with fail
      refine wp_region_held_drew (S := (fun w' : World => w'.cell? ⟨wr.heap.size, 0, none⟩ = some (.int .i64 k) ∧ w'.cell? ⟨wr.heap.size, 1, none⟩ = some (.string p) ∧ w'.cell? ⟨wr.heap.size, 2, none⟩ = some (.int .i64 m) ∧ w'.cell? ⟨wr.heap.size, 3, none⟩ = some (.string t) ∧ w'.cell? ⟨wr.heap.size, 4, none⟩ = some (.int .i64 s) ∧ w'.cell? ⟨wr.heap.size, 5, none⟩ = some (.slice x Ly xc))) (by kernel_rfl) (KO.out _ Gd0.out) (fun hHeld => ?_)
      refine wpAnyH_take (i := 0) (oi := { dst := some 39, op := Go.Op.move (Go.Operand.tmp 4), type := 23, pos := "law.go:58", after := #[], guard := none }) (v := ?_) rfl (by kernel_rfl) (by kernel_rfl) (by kernel_rfl) (fun _ _ _ h => h) (Or.inl ⟨by rfl, ?_⟩) (by assumption) ?_
      rotate_left 1
      focus ((intro wS hSw; (try dsimp only at hSw); go_simp) <;> (try with_reducible rfl))
      simp only [Act.put, List.setIfInBounds_toArray, List.set_cons_zero, List.set_cons_succ]
      refine wpAnyH_take (i := 1) (oi := { dst := some 40, op := Go.Op.fieldAddr 30 (Go.Operand.tmp 7) 0, type := 0, pos := "law.go:58", after := #[], guard := none }) (v := ?_) rfl (by kernel_rfl) (by kernel_rfl) (by kernel_rfl) (fun _ _ _ h => h) (Or.inl ⟨by rfl, ?_⟩) (by assumption) ?_
      rotate_left 1
      focus ((intro wS hSw; (try dsimp only at hSw); go_simp) <;> (try with_reducible rfl))
      simp only [Act.put, List.setIfInBounds_toArray, List.set_cons_zero, List.set_cons_succ]
      refine wpAnyH_take (i := 2) (oi := { dst := some 41, op := Go.Op.load 27 (Go.Operand.tmp 40), type := 27, pos := "law.go:58", after := #[{ on := 1, ground := Go.Ground.data }], guard := none }) (v := ?_) rfl (by kernel_rfl) (by kernel_rfl) (by kernel_rfl) (fun _ _ _ h => h) (Or.inl ⟨by rfl, ?_⟩) (by assumption) ?_
      rotate_left 1
      focus ((intro wS hSw; (try dsimp only at hSw); go_simp) <;> (try with_reducible rfl))
      simp only [Act.put, List.setIfInBounds_toArray, List.set_cons_zero, List.set_cons_succ]
      refine wpAnyH_take (i := 4) (oi := { dst := some 43, op := Go.Op.move (Go.Operand.tmp 5), type := 37, pos := "law.go:58", after := #[], guard := none }) (v := ?_) rfl (by kernel_rfl) (by kernel_rfl) (by kernel_rfl) (fun _ _ _ h => h) (Or.inl ⟨by rfl, ?_⟩) (by assumption) ?_
      rotate_left 1
      focus ((intro wS hSw; (try dsimp only at hSw); go_simp) <;> (try with_reducible rfl))
      simp only [Act.put, List.setIfInBounds_toArray, List.set_cons_zero, List.set_cons_succ]
      refine wpAnyH_take (i := 5) (oi := { dst := some 44, op := Go.Op.fieldAddr 30 (Go.Operand.tmp 7) 0, type := 0, pos := "law.go:58", after := #[], guard := none }) (v := ?_) rfl (by kernel_rfl) (by kernel_rfl) (by kernel_rfl) (fun _ _ _ h => h) (Or.inl ⟨by rfl, ?_⟩) (by assumption) ?_
      rotate_left 1
      focus ((intro wS hSw; (try dsimp only at hSw); go_simp) <;> (try with_reducible rfl))
      simp only [Act.put, List.setIfInBounds_toArray, List.set_cons_zero, List.set_cons_succ]
      refine wpAnyH_take (i := 6) (oi := { dst := some 45, op := Go.Op.load 27 (Go.Operand.tmp 44), type := 27, pos := "law.go:58", after := #[{ on := 5, ground := Go.Ground.data }], guard := none }) (v := ?_) rfl (by kernel_rfl) (by kernel_rfl) (by kernel_rfl) (fun _ _ _ h => h) (Or.inl ⟨by rfl, ?_⟩) (by assumption) ?_
      rotate_left 1
      focus ((intro wS hSw; (try dsimp only at hSw); go_simp) <;> (try with_reducible rfl))
      simp only [Act.put, List.setIfInBounds_toArray, List.set_cons_zero, List.set_cons_succ]
      refine wpAnyH_ready (rs := [3]) (by kernel_rfl) (by simp) ?_
      refine AllReadyH.cons (o := { dst := some 42, op := Go.Op.call { callee := Go.Callee.value (Go.Operand.func 10), args := #[Go.Operand.tmp 39, Go.Operand.tmp 41], argTypes := #[23, 27] }, type := 24, pos := "law.go:58", after := #[{ on := 0, ground := Go.Ground.data }, { on := 2, ground := Go.Ground.data }], guard := none }) rfl (fun K hK => ?_) AllReadyH.nil
      go_simp
      refine (PCK.out _ HPd.out (BW.out.trans (D0.out.mono BW.out.size))).mono ?_; rintro e z1 ⟨rfl, b1⟩
      have E1 : Hid (Below wz.heap.size wz z1) := D0.out.trans (b1.mono (Nat.le_refl _))
      have HR1 := Lib.hid (HRd.out.below b1)
      have HP1 := Lib.hid (HPd.out.below b1)
      have G1 := Lib.hid (Gd0.out.below b1 Gd0.out.lt)
      clear b1
      go_wp2_with fail
      refine hK.out _ _ (KO.out _ (G1.out)) (fun hHeld => ?_)
      clear hK K
      (try simp only [Act.put, List.setIfInBounds_toArray, List.set_cons_zero, List.set_cons_succ])
      refine wpAnyH_ready (rs := [7]) (by kernel_rfl) (by simp) ?_
      refine AllReadyH.cons (o := { dst := some 46, op := Go.Op.call { callee := Go.Callee.value (Go.Operand.func 15), args := #[Go.Operand.tmp 43, Go.Operand.tmp 45], argTypes := #[37, 27] }, type := 3, pos := "law.go:58", after := #[{ on := 4, ground := Go.Ground.data }, { on := 6, ground := Go.Ground.data }, { on := 3, ground := Go.Ground.chain }], guard := none }) rfl (fun K hK => ?_) AllReadyH.nil
      go_simp
      refine (RCK.out _ (HR1.out)).mono ?_; rintro e z2 ⟨rfl, b2⟩
      have E2 : Hid (Below wz.heap.size wz z2) := E1.out.trans (b2.mono E1.out.size)
      have HR2 := Lib.hid (HR1.out.below b2)
      have HP2 := Lib.hid (HP1.out.below b2)
      have G2 := Lib.hid (G1.out.below b2 G1.out.lt)
      clear b2
      go_wp2_with fail
      refine hK.out _ _ (KO.out _ (G2.out)) (fun hHeld => ?_)
      clear hK K
      (try simp only [Act.put, List.setIfInBounds_toArray, List.set_cons_zero, List.set_cons_succ])
      refine wpAnyH_take (i := 8) (oi := { dst := some 47, op := Go.Op.binOp Go.BinOp.neq 3 (Go.Operand.tmp 42) (Go.Operand.tmp 46) 3, type := 4, pos := "law.go:58", after := #[{ on := 3, ground := Go.Ground.data }, { on := 7, ground := Go.Ground.data }], guard := none }) (v := ?_) rfl (by kernel_rfl) (by kernel_rfl) (by kernel_rfl) (fun _ _ _ h => h) (Or.inl ⟨by rfl, ?_⟩) (by assumption) ?_
      rotate_left 1
      focus ((intro wS hSw; (try dsimp only at hSw); go_simp) <;> (try with_reducible rfl))
      simp only [Act.put, List.setIfInBounds_toArray, List.set_cons_zero, List.set_cons_succ]
      refine wpAnyH_take (i := 9) (oi := { dst := some 48, op := Go.Op.move (Go.Operand.tmp 47), type := 4, pos := "law.go:58", after := #[{ on := 8, ground := Go.Ground.data }, { on := 7, ground := Go.Ground.chain }], guard := none }) (v := ?_) rfl (by kernel_rfl) (by kernel_rfl) (by kernel_rfl) (fun _ _ _ h => h) (Or.inl ⟨by rfl, ?_⟩) (by assumption) ?_
      rotate_left 1
      focus ((intro wS hSw; (try dsimp only at hSw); go_simp) <;> (try with_reducible rfl))
      simp only [Act.put, List.setIfInBounds_toArray, List.set_cons_zero, List.set_cons_succ]
      refine wpAnyH_take (i := 10) (oi := { dst := some 49, op := Go.Op.move (Go.Operand.tmp 4), type := 23, pos := "law.go:58", after := #[{ on := 9, ground := Go.Ground.guard }], guard := some (9, false) }) (v := ?_) rfl (by kernel_rfl) (by kernel_rfl) (by kernel_rfl) (fun _ _ _ h => h) (Or.inl ⟨by rfl, ?_⟩) (by assumption) ?_
      rotate_left 1
      focus ((intro wS hSw; (try dsimp only at hSw); go_simp) <;> (try with_reducible rfl))
      simp only [Act.put, List.setIfInBounds_toArray, List.set_cons_zero, List.set_cons_succ]
      refine wpAnyH_take (i := 11) (oi := { dst := some 50, op := Go.Op.load 30 (Go.Operand.tmp 7), type := 30, pos := "law.go:58", after := #[{ on := 9, ground := Go.Ground.guard }], guard := some (9, false) }) (v := ?_) rfl (by kernel_rfl) (by kernel_rfl) (by kernel_rfl) (fun _ _ _ h => h) (Or.inl ⟨by rfl, ?_⟩) (by assumption) ?_
      rotate_left 1
      focus ((intro wS hSw; (try dsimp only at hSw); go_simp) <;> (try with_reducible rfl))
      simp only [Act.put, List.setIfInBounds_toArray, List.set_cons_zero, List.set_cons_succ]
      refine wpAnyH_take (i := 13) (oi := { dst := some 52, op := Go.Op.move (Go.Operand.tmp 5), type := 37, pos := "law.go:58", after := #[{ on := 9, ground := Go.Ground.guard }], guard := some (9, false) }) (v := ?_) rfl (by kernel_rfl) (by kernel_rfl) (by kernel_rfl) (fun _ _ _ h => h) (Or.inl ⟨by rfl, ?_⟩) (by assumption) ?_
      rotate_left 1
      focus ((intro wS hSw; (try dsimp only at hSw); go_simp) <;> (try with_reducible rfl))
      simp only [Act.put, List.setIfInBounds_toArray, List.set_cons_zero, List.set_cons_succ]
      refine wpAnyH_take (i := 14) (oi := { dst := some 53, op := Go.Op.load 30 (Go.Operand.tmp 7), type := 30, pos := "law.go:58", after := #[{ on := 9, ground := Go.Ground.guard }], guard := some (9, false) }) (v := ?_) rfl (by kernel_rfl) (by kernel_rfl) (by kernel_rfl) (fun _ _ _ h => h) (Or.inl ⟨by rfl, ?_⟩) (by assumption) ?_
      rotate_left 1
      focus ((intro wS hSw; (try dsimp only at hSw); go_simp) <;> (try with_reducible rfl))
      simp only [Act.put, List.setIfInBounds_toArray, List.set_cons_zero, List.set_cons_succ]
      refine wpAnyH_ready (rs := [12]) (by kernel_rfl) (by simp) ?_
      refine AllReadyH.cons (o := { dst := some 51, op := Go.Op.call { callee := Go.Callee.value (Go.Operand.func 9), args := #[Go.Operand.tmp 49, Go.Operand.tmp 50], argTypes := #[23, 30] }, type := 24, pos := "law.go:58", after := #[{ on := 10, ground := Go.Ground.data }, { on := 11, ground := Go.Ground.data }, { on := 9, ground := Go.Ground.chain }, { on := 9, ground := Go.Ground.guard }], guard := some (9, false) }) rfl (fun K hK => ?_) AllReadyH.nil
      go_simp
      refine (PAD.out _ HP2.out (BW.out.trans (E2.out.mono BW.out.size))).mono ?_; intro e z3 hq
      obtain ⟨rfl, o3, b3, S3, s3, q3, p3⟩ := hq.go XA.out.symm HS.out (BW.out.trans (E2.out.mono BW.out.size))
      rw [← hAN.out] at p3
      have P3 := Lib.hid p3; have S3' := Lib.hid s3; have B3 := Lib.hid b3; have LT3 := Lib.hid p3.lt
      have HR3 := Lib.hid (HR2.out.only o3 q3)
      have G3 := Lib.hid (G2.out.only o3 fun hs => absurd (HPL.out _ hs) (Nat.lt_irrefl _))
      clear hq o3 s3 q3 p3 b3
      go_wp2_with fail
      refine hK.out _ _ (KO.out _ (G3.out)) (fun hHeld => ?_)
      clear hK K
      (try simp only [Act.put, List.setIfInBounds_toArray, List.set_cons_zero, List.set_cons_succ])
      refine wpAnyH_ready (rs := [15]) (by kernel_rfl) (by simp) ?_
      refine AllReadyH.cons (o := { dst := some 54, op := Go.Op.call { callee := Go.Callee.value (Go.Operand.func 16), args := #[Go.Operand.tmp 52, Go.Operand.tmp 53], argTypes := #[37, 30] }, type := 3, pos := "law.go:58", after := #[{ on := 13, ground := Go.Ground.data }, { on := 14, ground := Go.Ground.data }, { on := 12, ground := Go.Ground.chain }, { on := 9, ground := Go.Ground.guard }], guard := some (9, false) }) rfl (fun K hK => ?_) AllReadyH.nil
      go_simp
      refine (RAD.out _ _ HR3.out LT3.out B3.out).mono ?_; rintro e z4 ⟨X', rfl, hX', o4, hr4⟩
      obtain rfl : X = X' := XA.out.trans hX'.symm
      rw [← hAN.out] at hr4
      have HR4 := Lib.hid hr4
      have P4 := Lib.hid (P3.out.only o4 fun k hk e => HR3.out.off (e ▸ hk))
      have B4 : Hid (Below w.heap.size w z4) := B3.out.trans (o4.below (fun k hk => by rw [hk]; exact LR.out.2) B3.out.size)
      have G4 := Lib.hid (G3.out.only o4 fun e => absurd LR.out.1 (by rw [← e]; exact Nat.not_lt_of_le ZR.out))
      clear o4 hr4 hX'
      go_wp2_with fail
      refine hK.out _ _ (KO.out _ (G4.out)) (fun hHeld => ?_)
      clear hK K
      (try simp only [Act.put, List.setIfInBounds_toArray, List.set_cons_zero, List.set_cons_succ])
      refine wpAnyH_take (i := 16) (oi := { dst := some 55, op := Go.Op.binOp Go.BinOp.neq 3 (Go.Operand.tmp 51) (Go.Operand.tmp 54) 3, type := 4, pos := "law.go:58", after := #[{ on := 12, ground := Go.Ground.data }, { on := 15, ground := Go.Ground.data }, { on := 9, ground := Go.Ground.guard }], guard := some (9, false) }) (v := ?_) rfl (by kernel_rfl) (by kernel_rfl) (by kernel_rfl) (fun _ _ _ h => h) (Or.inl ⟨by rfl, ?_⟩) (by assumption) ?_
      rotate_left 1
      focus ((intro wS hSw; (try dsimp only at hSw); go_simp) <;> (try with_reducible rfl))
      simp only [Act.put, List.setIfInBounds_toArray, List.set_cons_zero, List.set_cons_succ]
      refine wpAnyH_take (i := 17) (oi := { dst := some 56, op := Go.Op.pick (Go.Operand.tmp 48) (Go.Operand.const (Go.Value.bool true)) (Go.Operand.tmp 55), type := 4, pos := "law.go:58", after := #[{ on := 9, ground := Go.Ground.data }, { on := 16, ground := Go.Ground.data }], guard := none }) (v := ?_) rfl (by kernel_rfl) (by kernel_rfl) (by kernel_rfl) (fun _ _ _ h => h) (Or.inl ⟨by rfl, ?_⟩) (by assumption) ?_
      rotate_left 1
      focus ((intro wS hSw; (try dsimp only at hSw); go_simp) <;> (try with_reducible rfl))
      simp only [Act.put, List.setIfInBounds_toArray, List.set_cons_zero, List.set_cons_succ]
      refine wpAnyH_take (i := 18) (oi := { dst := some 57, op := Go.Op.move (Go.Operand.tmp 56), type := 4, pos := "law.go:58", after := #[{ on := 17, ground := Go.Ground.data }, { on := 15, ground := Go.Ground.chain }], guard := none }) (v := ?_) rfl (by kernel_rfl) (by kernel_rfl) (by kernel_rfl) (fun _ _ _ h => h) (Or.inl ⟨by rfl, ?_⟩) (by assumption) ?_
      rotate_left 1
      focus ((intro wS hSw; (try dsimp only at hSw); go_simp) <;> (try with_reducible rfl))
      simp only [Act.put, List.setIfInBounds_toArray, List.set_cons_zero, List.set_cons_succ]
      refine wpAnyH_take (i := 19) (oi := { dst := some 58, op := Go.Op.move (Go.Operand.tmp 4), type := 23, pos := "law.go:58", after := #[{ on := 18, ground := Go.Ground.guard }], guard := some (18, false) }) (v := ?_) rfl (by kernel_rfl) (by kernel_rfl) (by kernel_rfl) (fun _ _ _ h => h) (Or.inl ⟨by rfl, ?_⟩) (by assumption) ?_
      rotate_left 1
      focus ((intro wS hSw; (try dsimp only at hSw); go_simp) <;> (try with_reducible rfl))
      simp only [Act.put, List.setIfInBounds_toArray, List.set_cons_zero, List.set_cons_succ]
      refine wpAnyH_take (i := 21) (oi := { dst := some 60, op := Go.Op.move (Go.Operand.tmp 5), type := 37, pos := "law.go:58", after := #[{ on := 18, ground := Go.Ground.guard }], guard := some (18, false) }) (v := ?_) rfl (by kernel_rfl) (by kernel_rfl) (by kernel_rfl) (fun _ _ _ h => h) (Or.inl ⟨by rfl, ?_⟩) (by assumption) ?_
      rotate_left 1
      focus ((intro wS hSw; (try dsimp only at hSw); go_simp) <;> (try with_reducible rfl))
      simp only [Act.put, List.setIfInBounds_toArray, List.set_cons_zero, List.set_cons_succ]
      refine wpAnyH_ready (rs := [20]) (by kernel_rfl) (by simp) ?_
      refine AllReadyH.cons (o := { dst := some 59, op := Go.Op.call { callee := Go.Callee.value (Go.Operand.func 11), args := #[Go.Operand.tmp 58], argTypes := #[23] }, type := 32, pos := "law.go:58", after := #[{ on := 19, ground := Go.Ground.data }, { on := 18, ground := Go.Ground.chain }, { on := 18, ground := Go.Ground.guard }], guard := some (18, false) }) rfl (fun K hK => ?_) AllReadyH.nil
      go_simp
      refine (NDS.out _ _ P4.out).mono ?_; rintro e z5 ⟨a5, c5, zs, rfl, hz, hzn, _, _, b5⟩
      have HZ := Lib.hid hz; have HZN := Lib.hid hzn
      have P5 := Lib.hid (P4.out.below b5); have HR5 := Lib.hid (HR4.out.below b5)
      have B5 := Lib.hid (belT B4.out b5); have G5 := Lib.hid (G4.out.below b5 G4.out.lt)
      clear hz hzn b5
      go_wp2_with fail
      refine hK.out _ _ (KO.out _ (G5.out)) (fun hHeld => ?_)
      clear hK K
      (try simp only [Act.put, List.setIfInBounds_toArray, List.set_cons_zero, List.set_cons_succ])
      refine wpAnyH_ready (rs := [22]) (by kernel_rfl) (by simp) ?_
      refine AllReadyH.cons (o := { dst := some 61, op := Go.Op.call { callee := Go.Callee.value (Go.Operand.func 18), args := #[Go.Operand.tmp 60], argTypes := #[37] }, type := 32, pos := "law.go:58", after := #[{ on := 21, ground := Go.Ground.data }, { on := 20, ground := Go.Ground.chain }, { on := 18, ground := Go.Ground.guard }], guard := some (18, false) }) rfl (fun K hK => ?_) AllReadyH.nil
      go_simp
      refine (RND.out _ _ HR5.out (P5.out.gd)).mono ?_; rintro e z6 ⟨a6, c6, vs, rfl, hv, hvn, b6⟩
      have HVS := Lib.hid hv; have HVN := Lib.hid hvn; have HZ6 := Lib.hid (HZ.out.below b6)
      have P6 := Lib.hid (P5.out.below b6); have HR6 := Lib.hid (HR5.out.below b6)
      have B6 := Lib.hid (belT B5.out b6); have G6 := Lib.hid (G5.out.below b6 G5.out.lt)
      clear hv hvn b6
      go_wp2_with fail
      refine hK.out _ _ (KO.out _ (G6.out)) (fun hHeld => ?_)
      clear hK K
      (try simp only [Act.put, List.setIfInBounds_toArray, List.set_cons_zero, List.set_cons_succ])
      refine wpAnyH_ready (rs := [23]) (by kernel_rfl) (by simp) ?_
      refine AllReadyH.cons (o := { dst := some 62, op := Go.Op.call { callee := Go.Callee.value (Go.Operand.func 17), args := #[Go.Operand.tmp 59, Go.Operand.tmp 61], argTypes := #[32, 32] }, type := 4, pos := "law.go:58", after := #[{ on := 20, ground := Go.Ground.data }, { on := 22, ground := Go.Ground.data }, { on := 22, ground := Go.Ground.chain }, { on := 18, ground := Go.Ground.guard }], guard := some (18, false) }) rfl (fun K hK => ?_) AllReadyH.nil
      go_simp
      refine (rsame_any a5 N c5 zs a6 N c6 vs z6 HZ6.out HVS.out).mono ?_; rintro e z7 ⟨Bs, rfl, hs, b7⟩
      obtain rfl : Bs = true := hs.mpr (by rw [HZN.out, HVN.out])
      have P7 := Lib.hid (P6.out.below b7); have HR7 := Lib.hid (HR6.out.below b7)
      have B7 := Lib.hid (belT B6.out b7); have G7 := Lib.hid (G6.out.below b7 G6.out.lt)
      clear hs b7
      go_wp2_with fail
      refine hK.out _ _ (KO.out _ (G7.out)) (fun hHeld => ?_)
      clear hK K
      (try simp only [Act.put, List.setIfInBounds_toArray, List.set_cons_zero, List.set_cons_succ])
      refine wpAnyH_take (i := 24) (oi := { dst := some 63, op := Go.Op.unOp Go.UnOp.not 4 (Go.Operand.tmp 62), type := 4, pos := "law.go:58", after := #[{ on := 23, ground := Go.Ground.data }, { on := 18, ground := Go.Ground.guard }], guard := some (18, false) }) (v := ?_) rfl (by kernel_rfl) (by kernel_rfl) (by kernel_rfl) (fun _ _ _ h => h) (Or.inl ⟨by rfl, ?_⟩) (by assumption) ?_
      rotate_left 1
      focus ((intro wS hSw; (try dsimp only at hSw); go_simp) <;> (try with_reducible rfl))
      simp only [Act.put, List.setIfInBounds_toArray, List.set_cons_zero, List.set_cons_succ]
      refine wpAnyH_take (i := 25) (oi := { dst := some 64, op := Go.Op.pick (Go.Operand.tmp 57) (Go.Operand.const (Go.Value.bool true)) (Go.Operand.tmp 63), type := 4, pos := "law.go:58", after := #[{ on := 18, ground := Go.Ground.data }, { on := 24, ground := Go.Ground.data }], guard := none }) (v := ?_) rfl (by kernel_rfl) (by kernel_rfl) (by kernel_rfl) (fun _ _ _ h => h) (Or.inl ⟨by rfl, ?_⟩) (by assumption) ?_
      rotate_left 1
      focus ((intro wS hSw; (try dsimp only at hSw); go_simp) <;> (try with_reducible rfl))
      simp only [Act.put, List.setIfInBounds_toArray, List.set_cons_zero, List.set_cons_succ]
      refine wpAnyH_done (by kernel_rfl) ?_ _
      have LJ' : Hid (AN.length ≤ j + 1) := by show _ ≤ _; have := ANL.out; have := AL.out; omega
      go_wp2_with fail
      go_round
      case rel => exact ⟨j + 1, S3, AN, by go_num, by have := JN.out; omega, LJ'.out, S3'.out, P7.out, HR7.out, HR7.out.lt, B7.out⟩
      case measure => simp [intOf]; have := JN.out; omega
    · obtain rfl : j = n := by omega
      go_wp2_with fail
      refine (Reb.alive_any wr (HV.out.go HB.out)).mono ?_; rintro e w7 ⟨rfl, b7⟩
      have B7 := Lib.hid (belT HB.out b7)
      go_wp2
      go_ret
      exact ⟨rfl, B7.out⟩
end Go.Proofs.YtinmkgpmoclcoaaDoor
