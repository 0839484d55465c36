/-
  The statement EntryRoundTrip: a walk.
-/
import Derived.Test.YtbbaleambgaanaaGreatDoorPk20
import Derived.Test.YtbbaleambgaanaaGreatDoorEtrPDec
import Derived.Test.YtbbaleambgaanaaGreatDoorEtrEnd
import Derived.Test.YtbbaleambgaanaaGreatDoorPk37
import Derived.Test.YtbbaleambgaanaaGreatDoorStructArg
import Derived.Test.YtbbaleambgaanaaGreatDoorPk09
namespace Go.Proofs.YtbbaleambgaanaaGreatDoor
open Go.RowKit Go.Proofs.YtbbaleambgaanaaGreatDoor.Fit Pxr Pnm Etr

set_option maxRecDepth 100000 in
set_option maxHeartbeats 16000000 in
theorem walk_EntryRoundTrip (k : Int) (p : ByteArray) (m : Int) (t : ByteArray) (s : Int) (ca : Option Addr) (cl cc : Nat) (cs : List Int) (F : Int) (cut_ : Int) (w : World) (V : MVars w) (_ : (Lit.int .i64 k).wf = true) (hp : p.size ≤ maxLen) (_ : (Lit.int .i64 m).wf = true) (ht : t.size ≤ maxLen) (_ : (Lit.int .i64 s).wf = true) (hcs : ArgInts .i64 w ca cl cc cs) (_ : (Lit.int .i64 F).wf = true) (hat : (Lit.int .u16 cut_).wf = true) :
    Calls Tryz.prog 5 #[.agg (enV k p m t s).toArray, .agg #[.slice ca cl cc, .int .i64 F], .int .u16 cut_] w fun e w' => e = .returned (.bool true) ∧ Below w.heap.size w w' := by
  have V0 := Lib.hid (MV.of V)
  have EN := Lib.hid fun w' (hb : Below w.heap.size w w') => penc_any ⟨k, p, m, t, s⟩ w' (V0.out.below hb).v.f hp ht
  have LG := Lib.hid fun w' => large_any k p m t s w' hp ht
  have AL := Lib.hid fun w' (hb : Below w.heap.size w w') => Etr.alive_any w' (V0.out.below hb).v.f
  have EO := Lib.hid enT; have EZ := Lib.hid zEn
  have hzs : (Tryz.prog.info? 36).map (·.zero) = some (some (.agg [Value.slice none 0 0, .int .i64 0].toArray)) := by kernel_rfl
  have hss : (Tryz.prog.info? 36).map (·.size) = some 2 := by kernel_rfl
  have HZS := Lib.hid hzs; have HSS := Lib.hid hss
  have gE : Tryz.prog.eqGuardType Tryz.prog.depth 23 = false := by kernel_rfl
  have q1 : ∀ w : World, (Op.equalIn 10000 23 (.agg (enV k p m t s).toArray) (.agg (enV k p m t s).toArray)).run Tryz.prog w = .ok true w := fun w => by rw [run_eqE]; simp
  have q2 : ∀ w : World, (Op.equalIn 10000 23 (.agg (enV 0 emp 0 emp 0).toArray) (.agg (enV 0 emp 0 emp 0).toArray)).run Tryz.prog w = .ok true w := fun w => by rw [run_eqE]; simp
  have HI := Lib.hid hcs.inK; have HCL := Lib.hid hcs.1
  obtain ⟨u0, u1⟩ := bounds_u16 hat
  obtain ⟨tc, rfl⟩ : ∃ tc : Nat, cut_ = tc := ⟨cut_.toNat, by omega⟩
  clear V hp ht hzs hss hcs hat u0
  by_cases hE : ckE ⟨k, p, m, t, s⟩ = 0
  · rw [hE] at EN
    obtain ⟨l1, l2⟩ := en_len hE
    have hl5 : 512 ≤ (enZ ⟨k, p, m, t, s⟩).length ∧ (enZ ⟨k, p, m, t, s⟩).length ≤ 300000 := by
      have := fm_len hE
      rw [l1, l2]
      split
      · omega
      · unfold blkN; omega
    have DE := Lib.hid (dcd_en hE (Z := enZ ⟨k, p, m, t, s⟩) (R := []) (E := 4) (o := 0) (by simp) (Nat.zero_le _))
    have DP := Lib.hid fun (kk : Nat) (hk : kk < (enZ ⟨k, p, m, t, s⟩).length) => dcd_pre hE hk rfl
    obtain ⟨R, hR⟩ := named (enZ ⟨k, p, m, t, s⟩)
    rw [← hR.out] at EN DE DP hl5
    have HL5 := Lib.hid hl5
    clear hE l1 l2 hl5
    go_enter Tryz.func5, Tryz.ntmps5
    go_wp2_with (first | (refine wpList_box_obj rfl 23 _ rfl (enV k p m t s) rfl ?_; intro w1 g1 b1; have E1 := Lib.hid g1; have B1 := Lib.hid b1; clear g1 b1) | (refine wpList_box_obj rfl 36 _ rfl [.slice ca cl cc, .int .i64 F] rfl ?_; intro w2 g2 b2; have H2 := Lib.hid g2; have B2 := Lib.hid (belT B1.out b2); have E2 := Lib.hid (E1.out.below b2 E1.out.lt); have c0 := E2.out.get 0 rfl; have c1 := E2.out.get 1 rfl; have c2 := E2.out.get 2 rfl; have c3 := E2.out.get 3 rfl; have c4 := E2.out.get 4 rfl; clear g2 b2))
    refine (EN.out w2 B2.out).mono ?_; rintro e w3 ⟨b, n, c, rfl, hn, hc, hm, hI, _, b3⟩
    have E3 := Lib.hid (E2.out.below b3 E2.out.lt); have H3 := Lib.hid (H2.out.below b3 H2.out.lt); have B3 := Lib.hid (belT B2.out b3)
    have I3 := Lib.hid hI; have HN := Lib.hid hn; have HC := Lib.hid hc; have HM := Lib.hid hm
    clear b3 hn hc hm hI c0 c1 c2 c3 c4
    have c0 := E3.out.get 0 rfl; have c1 := E3.out.get 1 rfl; have c2 := E3.out.get 2 rfl; have c3 := E3.out.get 3 rfl; have c4 := E3.out.get 4 rfl
    go_wp2_with fail
    refine (LG.out w3).mono ?_; rintro e w4 ⟨BB, rfl, hBB, b4⟩
    have E4 := Lib.hid (E3.out.below b4 E3.out.lt); have H4 := Lib.hid (H3.out.below b4 H3.out.lt); have B4 := Lib.hid (belT B3.out b4); have I4 := Lib.hid (I3.out.below b4)
    clear b4 c0 c1 c2 c3 c4
    rcases hBB with rfl | rfl
    · by_cases h300 : (300 : Int) < cl
      · have d0 := H4.out.get 0 rfl; have d1 := H4.out.get 1 rfl
        go_wp2_with fail
        refine (AL.out w4 B4.out).mono ?_; rintro e w5 ⟨rfl, b5⟩
        have B5 := Lib.hid (belT B4.out b5)
        clear b5
        go_wp2
        go_ret
        exact ⟨rfl, B5.out⟩
      · have n5 : 512 ≤ n ∧ n ≤ 300000 := by have := HL5.out; rw [HN.out] at this; exact this
        have N8 := Lib.hid n5
        have n0 : ((n : Int) == 0) = false := by simp; omega
        have n9 : (n : Int) ≤ 300000 := by omega
        obtain ⟨bb, boff, rfl, hbb⟩ : ∃ bb boff, b = some ⟨bb, boff, none⟩ ∧ bb < w4.heap.size := by
          rcases I4.out with h | ⟨bb, boff, h1, h2, _⟩
          · have := HN.out; rw [h] at this; simp at this; omega
          · exact ⟨bb, boff, h1, h2⟩
        obtain ⟨cut, hcut⟩ : ∃ cut : Nat, (tc : Int) % (n : Int) = cut := ⟨tc % n, by omega⟩
        have hcn : cut < n := by have : (tc : Int) % (n : Int) < n := Int.emod_lt_of_pos _ (by omega); omega
        have CUT : Hid (cut < n ∧ (R.take cut).length = cut ∧ n ≤ c) := ⟨hcn, by rw [List.length_take, HN.out]; omega, HC.out⟩
        have hcb : (cut : Int) ≤ c := by have := CUT.out; omega
        have hcb' : cut ≤ c := by have := CUT.out; omega
        have nz : ¬ (n : Int) = 0 := by omega
        have cut9 : (cut : Int) ≤ 300000 := by omega
        have d0 := H4.out.get 0 rfl; have d1 := H4.out.get 1 rfl
        clear hcn hbb
        go_wp2_with (first | (refine wpList_alloc_obj rfl 36 rfl [.slice none 0 0, .int .i64 0] HZS.out ?_; intro w5 g5 b5; have G5 := Lib.hid g5; have B5 := Lib.hid b5; clear g5 b5) | (refine wpList_store_obj rfl 36 _ _ rfl w4.heap.size rfl [.slice ca cl cc, .int .i64 (-1)] [.slice none 0 0, .int .i64 0] rfl 36 G5.out HSS.out rfl (by intro v hv; simp at hv; rcases hv with rfl | rfl <;> rfl) ?_; intro w6 g6 t6; have G6 := Lib.hid g6; have A6 := Lib.hid (B5.out.trans (t6.below (Nat.le_refl _))); have B6 := Lib.hid (belT B4.out A6.out); have e0 := g6.get 0 rfl; have e1 := g6.get 1 rfl; clear g6 t6))
        have E6 := Lib.hid (E4.out.below A6.out E4.out.lt); have I6 := Lib.hid (I4.out.below A6.out); have HI6 := Lib.hid (HI.out.below B6.out)
        obtain ⟨gs, hgs⟩ := named w4.heap.size
        rw [← hgs.out] at G6
        refine (new_any (some ⟨bb, boff, none⟩) n c R ca cl cc cs (-1) w6 I6.out HN.out HC.out (by omega) HI6.out HCL.out (by omega)).mono ?_; rintro e w7 ⟨s7, rfl, x7, b7⟩
        rw [endN_neg2, endE_neg2, List.take_of_length_le (by rw [HN.out]; exact Nat.le_refl _)] at x7
        have S7 := Lib.hid x7; have B7 := Lib.hid b7
        clear x7 b7 e0 e1 d0 d1
        go_wp2_with fail
        refine (rdr_new w7 S7.out).mono ?_; rintro e w8 ⟨q, rfl, r8, b8⟩
        have R8 := Lib.hid r8; have B8 := Lib.hid (B7.out.trans (b8.mono B7.out.size))
        clear r8 b8 S7
        go_wp2_with fail
        have PD := pdecd_any w8 R8.out (.inr rfl) (V0.out.below (belT B6.out B8.out)) B6.out.size
        rw [DE.out, HN.out] at PD
        have PD' : Hid (Calls Tryz.prog 18 #[.pointer (some ⟨q, 0, none⟩)] w8 fun e w' => e = .returned (.tuple #[.agg (enV k p m t s).toArray, .int .i64 0, .int .i64 0]) ∧ Rdr w' w6.heap.size w8.heap.size q R 4 (0 + n) 0 ∧ Out w6.heap.size w8.heap.size w8 w') := PD
        clear PD
        refine PD'.out.mono ?_; rintro e w9 ⟨rfl, r9, u9⟩
        rw [Nat.zero_add] at r9
        have R9 := Lib.hid r9
        have B9 := Lib.hid (B8.out.trans (u9.below (B := w6.heap.size) (Nat.le_refl _) B8.out.size))
        have E9 := Lib.hid (E6.out.below B9.out E6.out.lt); have G9 := Lib.hid (G6.out.below B9.out G6.out.lt); have I9 := Lib.hid (I6.out.below B9.out)
        clear r9 u9
        go_wp2_with (first | (refine wpList_alloc_obj rfl 23 rfl (enV 0 emp 0 emp 0) EZ.out ?_; intro w10 ga ba; have X10 := Lib.hid ga; have B10 := Lib.hid ba; clear ga ba) | (refine wpList_store_obj rfl 23 _ _ rfl w9.heap.size rfl (enV k p m t s) (enV 0 emp 0 emp 0) rfl 23 X10.out EO.out.2 rfl (en_one _ _ _ _ _) ?_; intro w11 gb tb; have F11' := Lib.hid gb; have A11 := Lib.hid (B10.out.trans (tb.below (Nat.le_refl _))); have E11 := Lib.hid (E9.out.below A11.out E9.out.lt); have f0 := gb.get 0 rfl; have f1 := gb.get 1 rfl; have f2 := gb.get 2 rfl; have f3 := gb.get 3 rfl; have f4 := gb.get 4 rfl; have c0 := E11.out.get 0 rfl; have c1 := E11.out.get 1 rfl; have c2 := E11.out.get 2 rfl; have c3 := E11.out.get 3 rfl; have c4 := E11.out.get 4 rfl; clear gb tb))
        have R11 := Lib.hid (R9.out.below A11.out); have G11 := Lib.hid (G9.out.below A11.out G9.out.lt); have I11 := Lib.hid (I9.out.below A11.out)
        have BN := Lib.hid (belT (belT B6.out B9.out) A11.out)
        have HI11 := Lib.hid (HI.out.below BN.out)
        have NGF : Hid (gs ≠ w9.heap.size) := by have := G9.out.lt; show _ ≠ _; omega
        refine (rdr_off w11 R11.out).mono ?_; rintro e wz ⟨rfl, rfl⟩
        obtain ⟨gf, hgf⟩ := named w9.heap.size
        have F11 : Hid (ObjAt w11 gf 23 (enV k p m t s)) := by show ObjAt _ _ _ _; rw [hgf.out]; exact F11'.out
        rw [← hgf.out] at NGF
        obtain ⟨dx, dp, de⟩ := DP.out cut (by rw [HN.out]; exact CUT.out.1)
        obtain ⟨d, hd⟩ := named (dcd (R.take cut) 4 0 0)
        obtain ⟨EE, hEE⟩ := named (if cut = 0 then (4 : Int) else 5)
        rw [← hd.out] at dx dp de
        rw [← hEE.out] at de
        have PD2 : Hid (∀ w' lo hi q, Rdr w' lo hi q (R.take cut) 4 0 0 → MV w.heap.size w' → w.heap.size ≤ lo → Calls Tryz.prog 18 #[.pointer (some ⟨q, 0, none⟩)] w' fun e w'' => e = .returned (.tuple #[.agg (enV 0 emp 0 emp 0).toArray, .int .i64 cut, .int .i64 EE]) ∧ Rdr w'' lo hi q (R.take cut) 4 d.o d.s ∧ Out lo hi w' w'') := fun w' lo hi q h V hB => by
          have h := pdecd_any w' h (.inr rfl) V hB
          rw [← hd.out] at h
          obtain ⟨x, p', e', o', s'⟩ := d
          dsimp only at dx dp de
          subst dx; subst dp; subst de
          exact h
        have KS : Hid (∀ w', Below w11.heap.size w11 w' → (fun w' => w'.cell? ⟨gs, 0, none⟩ = some (.slice ca cl cc) ∧ w'.cell? ⟨gs, 1, none⟩ = some (.int .i64 (-1))) w') := fun w' hb => ⟨(G11.out.below hb G11.out.lt).get 0 rfl, (G11.out.below hb G11.out.lt).get 1 rfl⟩
        clear dx dp de
        go_wp2_with fail
        rw [← hgf.out, ← hgs.out]
        refine wp_region_held_drew (S := (fun w' => w'.cell? ⟨gs, 0, none⟩ = some (.slice ca cl cc) ∧ w'.cell? ⟨gs, 1, none⟩ = some (.int .i64 (-1)))) (by kernel_rfl) (KS.out _ (Below.refl _ _).drew) (fun hHeld => ?_)
        refine wpAnyH_take (i := 0) (oi := { dst := some 77, op := Go.Op.move (Go.Operand.tmp 7), type := 24, pos := "law.go:65", after := #[], guard := none }) (v := ?_) rfl (by kernel_rfl) (by kernel_rfl) (by kernel_rfl) (fun _ _ _ h => h) (Or.inl ⟨by rfl, ?_⟩) (by assumption) ?_
        rotate_left 1
        focus ((intro wS hSw; (try dsimp only at hSw); go_simp) <;> (try with_reducible rfl))
        simp only [Act.put, List.setIfInBounds_toArray, List.set_cons_zero, List.set_cons_succ]
        refine wpAnyH_take (i := 1) (oi := { dst := some 78, op := Go.Op.move (Go.Operand.tmp 14), type := 3, pos := "law.go:65", after := #[], guard := none }) (v := ?_) rfl (by kernel_rfl) (by kernel_rfl) (by kernel_rfl) (fun _ _ _ h => h) (Or.inl ⟨by rfl, ?_⟩) (by assumption) ?_
        rotate_left 1
        focus ((intro wS hSw; (try dsimp only at hSw); go_simp) <;> (try with_reducible rfl))
        simp only [Act.put, List.setIfInBounds_toArray, List.set_cons_zero, List.set_cons_succ]
        refine wpAnyH_take (i := 2) (oi := { dst := some 79, op := Go.Op.slice 24 (Go.Operand.tmp 77) none (some (Go.Operand.tmp 78)) none, type := 24, pos := "law.go:65", after := #[{ on := 0, ground := Go.Ground.data }, { on := 1, ground := Go.Ground.data }], guard := none }) (v := ?_) rfl (by kernel_rfl) (by kernel_rfl) (by kernel_rfl) (fun _ _ _ h => h) (Or.inl ⟨by rfl, ?_⟩) (by assumption) ?_
        rotate_left 1
        focus ((intro wS hSw; (try dsimp only at hSw); go_simp) <;> (try with_reducible rfl))
        simp only [Act.put, List.setIfInBounds_toArray, List.set_cons_zero, List.set_cons_succ]
        refine wpAnyH_take (i := 3) (oi := { dst := some 80, op := Go.Op.load 36 (Go.Operand.tmp 9), type := 36, pos := "law.go:65", after := #[], guard := none }) (v := ?_) rfl (by kernel_rfl) (by kernel_rfl) (by kernel_rfl) (fun _ _ _ h => h) (Or.inl ⟨by rfl, ?_⟩) (by assumption) ?_
        rotate_left 1
        focus ((intro wS hSw; (try dsimp only at hSw); go_simp) <;> (try with_reducible rfl))
        simp only [Act.put, List.setIfInBounds_toArray, List.set_cons_zero, List.set_cons_succ]
        refine wpAnyH_ready (rs := [4]) (by kernel_rfl) (by simp) ?_
        refine AllReadyH.cons (o := { dst := some 81, op := Go.Op.call { callee := Go.Callee.value (Go.Operand.func 16), args := #[Go.Operand.tmp 79, Go.Operand.tmp 80], argTypes := #[24, 36] }, type := 39, pos := "law.go:65", after := #[{ on := 2, ground := Go.Ground.data }, { on := 3, ground := Go.Ground.data }], guard := none }) rfl (fun K hK => ?_) AllReadyH.nil
        go_simp
        refine (new_any (some ⟨bb, boff, none⟩) cut c (R.take cut) ca cl cc cs (-1) w11.drew ((I11.out.take cut).below (Below.refl _ _).drew) CUT.out.2.1 (by have := CUT.out; omega) (by have := CUT.out; have := N8.out; omega) (HI11.out.below (Below.refl _ _).drew) HCL.out (by omega)).mono ?_; rintro e w12 ⟨s2, rfl, x12, b12⟩
        rw [endN_neg2, endE_neg2, List.take_take, Nat.min_self] at x12
        have S12 := Lib.hid x12
        have B12 := Lib.hid ((Below.refl w11.heap.size w11).drew.trans b12)
        clear x12 b12
        go_wp2_with fail
        refine hK.out _ _ (KS.out _ B12.out) (fun hHeld => ?_)
        clear hK K
        (try simp only [Act.put, List.setIfInBounds_toArray, List.set_cons_zero, List.set_cons_succ])
        refine wpAnyH_ready (rs := [5]) (by kernel_rfl) (by simp) ?_
        refine AllReadyH.cons (o := { dst := some 82, op := Go.Op.call { callee := Go.Callee.value (Go.Operand.func 15), args := #[Go.Operand.tmp 81], argTypes := #[39] }, type := 37, pos := "law.go:65", after := #[{ on := 4, ground := Go.Ground.data }, { on := 4, ground := Go.Ground.chain }], guard := none }) rfl (fun K hK => ?_) AllReadyH.nil
        go_simp
        refine (rdr_new w12 S12.out).mono ?_; rintro e w13 ⟨q2, rfl, r13, b13⟩
        have R13 := Lib.hid r13; have B13 := Lib.hid (B12.out.trans (b13.mono B12.out.size))
        clear r13 b13
        go_wp2_with fail
        refine hK.out _ _ (KS.out _ B13.out) (fun hHeld => ?_)
        clear hK K
        (try simp only [Act.put, List.setIfInBounds_toArray, List.set_cons_zero, List.set_cons_succ])
        refine wpAnyH_ready (rs := [6]) (by kernel_rfl) (by simp) ?_
        refine AllReadyH.cons (o := { dst := some 83, op := Go.Op.call { callee := Go.Callee.value (Go.Operand.func 18), args := #[Go.Operand.tmp 82], argTypes := #[37] }, type := 46, pos := "law.go:65", after := #[{ on := 5, ground := Go.Ground.data }, { on := 5, ground := Go.Ground.chain }], guard := none }) rfl (fun K hK => ?_) AllReadyH.nil
        go_simp
        refine (PD2.out w13 _ _ q2 R13.out (V0.out.below (BN.out.trans (B13.out.mono BN.out.size))) BN.out.size).mono ?_; rintro e w14 ⟨rfl, _, u14⟩
        have B14 := Lib.hid (B13.out.trans (u14.below (B := w11.heap.size) (Nat.le_refl _) B13.out.size))
        clear u14
        go_wp2_with fail
        refine hK.out _ _ (KS.out _ B14.out) (fun hHeld => ?_)
        clear hK K
        (try simp only [Act.put, List.setIfInBounds_toArray, List.set_cons_zero, List.set_cons_succ])
        refine wpAnyH_take (i := 7) (oi := { dst := some 76, op := Go.Op.move (Go.Operand.tmp 83), type := 46, pos := "law.go:65", after := #[{ on := 6, ground := Go.Ground.data }], guard := none }) (v := ?_) rfl (by kernel_rfl) (by kernel_rfl) (by kernel_rfl) (fun _ _ _ h => h) (Or.inl ⟨by rfl, ?_⟩) (by assumption) ?_
        rotate_left 1
        focus ((intro wS hSw; (try dsimp only at hSw); go_simp) <;> (try with_reducible rfl))
        simp only [Act.put, List.setIfInBounds_toArray, List.set_cons_zero, List.set_cons_succ]
        refine wpAnyH_take (i := 8) (oi := { dst := some 84, op := Go.Op.extract (Go.Operand.tmp 76) 0, type := 23, pos := "law.go:65", after := #[{ on := 7, ground := Go.Ground.data }], guard := none }) (v := ?_) rfl (by kernel_rfl) (by kernel_rfl) (by kernel_rfl) (fun _ _ _ h => h) (Or.inl ⟨by rfl, ?_⟩) (by assumption) ?_
        rotate_left 1
        focus ((intro wS hSw; (try dsimp only at hSw); go_simp) <;> (try with_reducible rfl))
        simp only [Act.put, List.setIfInBounds_toArray, List.set_cons_zero, List.set_cons_succ]
        refine wpAnyH_take (i := 9) (oi := { dst := some 85, op := Go.Op.extract (Go.Operand.tmp 76) 1, type := 2, pos := "law.go:65", after := #[{ on := 7, ground := Go.Ground.data }, { on := 11, ground := Go.Ground.gcOnly Go.Departure.lateStores }], guard := none }) (v := ?_) rfl (by kernel_rfl) (by kernel_rfl) (by kernel_rfl) (fun _ _ _ h => h) (Or.inl ⟨by rfl, ?_⟩) (by assumption) ?_
        rotate_left 1
        focus ((intro wS hSw; (try dsimp only at hSw); go_simp) <;> (try with_reducible rfl))
        simp only [Act.put, List.setIfInBounds_toArray, List.set_cons_zero, List.set_cons_succ]
        refine wpAnyH_take (i := 10) (oi := { dst := some 86, op := Go.Op.extract (Go.Operand.tmp 76) 2, type := 27, pos := "law.go:65", after := #[{ on := 7, ground := Go.Ground.data }, { on := 12, ground := Go.Ground.gcOnly Go.Departure.lateStores }], guard := none }) (v := ?_) rfl (by kernel_rfl) (by kernel_rfl) (by kernel_rfl) (fun _ _ _ h => h) (Or.inl ⟨by rfl, ?_⟩) (by assumption) ?_
        rotate_left 1
        focus ((intro wS hSw; (try dsimp only at hSw); go_simp) <;> (try with_reducible rfl))
        simp only [Act.put, List.setIfInBounds_toArray, List.set_cons_zero, List.set_cons_succ]
        refine wpAnyH_ready (rs := [11]) (by kernel_rfl) (by simp) ?_
        refine AllReadyH.cons (o := { dst := none, op := Go.Op.store 23 (Go.Operand.tmp 11) (Go.Operand.tmp 84), type := 0, pos := "law.go:65", after := #[{ on := 8, ground := Go.Ground.data }, { on := 6, ground := Go.Ground.chain }, { on := 0, ground := Go.Ground.phase }, { on := 1, ground := Go.Ground.phase }, { on := 2, ground := Go.Ground.phase }, { on := 3, ground := Go.Ground.phase }, { on := 4, ground := Go.Ground.phase }, { on := 5, ground := Go.Ground.phase }, { on := 6, ground := Go.Ground.phase }, { on := 7, ground := Go.Ground.phase }, { on := 8, ground := Go.Ground.phase }, { on := 9, ground := Go.Ground.textOnly Go.Departure.lateStores }, { on := 10, ground := Go.Ground.textOnly Go.Departure.lateStores }], guard := none }) rfl (fun K hK => ?_) AllReadyH.nil
        refine step_store_obj rfl 23 _ _ rfl gf rfl (enV 0 emp 0 emp 0) (enV k p m t s) rfl 23 (F11.out.below B14.out F11.out.lt) EO.out.2 rfl (en_one _ _ _ _ _) ?_; intro w15 gy ty; have F15 := Lib.hid gy; have T15 : Hid (Turned w14 w15 gf) := ty; clear gy ty
        refine hK.out _ _ (⟨((G11.out.below B14.out G11.out.lt).turned T15.out NGF.out).get 0 rfl, ((G11.out.below B14.out G11.out.lt).turned T15.out NGF.out).get 1 rfl⟩) (fun hHeld => ?_)
        clear hK K
        (try simp only [Act.put])
        refine wpAnyH_take (i := 12) (oi := { dst := some 12, op := Go.Op.assign (Go.Operand.tmp 85), type := 2, pos := "law.go:65", after := #[{ on := 9, ground := Go.Ground.data }, { on := 11, ground := Go.Ground.chain }, { on := 0, ground := Go.Ground.phase }, { on := 1, ground := Go.Ground.phase }, { on := 2, ground := Go.Ground.phase }, { on := 3, ground := Go.Ground.phase }, { on := 4, ground := Go.Ground.phase }, { on := 5, ground := Go.Ground.phase }, { on := 6, ground := Go.Ground.phase }, { on := 7, ground := Go.Ground.phase }, { on := 8, ground := Go.Ground.phase }, { on := 9, ground := Go.Ground.phase }, { on := 10, ground := Go.Ground.textOnly Go.Departure.lateStores }, { on := 11, ground := Go.Ground.phase }], guard := none }) (v := ?_) rfl (by kernel_rfl) (by kernel_rfl) (by kernel_rfl) (fun _ _ _ h => h) (Or.inl ⟨by rfl, ?_⟩) (by assumption) ?_
        rotate_left 1
        focus ((intro wS hSw; (try dsimp only at hSw); go_simp) <;> (try with_reducible rfl))
        simp only [Act.put, List.setIfInBounds_toArray, List.set_cons_zero, List.set_cons_succ]
        refine wpAnyH_take (i := 13) (oi := { dst := some 13, op := Go.Op.assign (Go.Operand.tmp 86), type := 27, pos := "law.go:65", after := #[{ on := 10, ground := Go.Ground.data }, { on := 12, ground := Go.Ground.chain }, { on := 0, ground := Go.Ground.phase }, { on := 1, ground := Go.Ground.phase }, { on := 2, ground := Go.Ground.phase }, { on := 3, ground := Go.Ground.phase }, { on := 4, ground := Go.Ground.phase }, { on := 5, ground := Go.Ground.phase }, { on := 6, ground := Go.Ground.phase }, { on := 7, ground := Go.Ground.phase }, { on := 8, ground := Go.Ground.phase }, { on := 9, ground := Go.Ground.phase }, { on := 10, ground := Go.Ground.phase }, { on := 11, ground := Go.Ground.phase }, { on := 12, ground := Go.Ground.phase }], guard := none }) (v := ?_) rfl (by kernel_rfl) (by kernel_rfl) (by kernel_rfl) (fun _ _ _ h => h) (Or.inl ⟨by rfl, ?_⟩) (by assumption) ?_
        rotate_left 1
        focus ((intro wS hSw; (try dsimp only at hSw); go_simp) <;> (try with_reducible rfl))
        simp only [Act.put, List.setIfInBounds_toArray, List.set_cons_zero, List.set_cons_succ]
        refine wpAnyH_done (by kernel_rfl) ?_ _
        have BF : Hid (Below w.heap.size w w15) := (belT BN.out B14.out).trans (T15.out.below (by have := B9.out.size; have := B6.out.size; have := hgf.out; omega))
        by_cases hc0 : cut = 0
        · subst hc0
          have hee : EE = 4 := hEE.out
          subst hee
          go_wp2_with fail
          refine (AL.out w15 BF.out).mono ?_; rintro e w16 ⟨rfl, b16⟩
          have F16 := Lib.hid (F15.out.below b16 F15.out.lt); have B16 := Lib.hid (belT BF.out b16)
          have f0 := F16.out.get 0 rfl; have f1 := F16.out.get 1 rfl; have f2 := F16.out.get 2 rfl; have f3 := F16.out.get 3 rfl; have f4 := F16.out.get 4 rfl
          clear b16
          go_wp2
          go_ret
          exact ⟨rfl, B16.out⟩
        · have hee : EE = 5 := by rw [hEE.out, if_neg hc0]
          have hc1 : ((cut : Int) == 0) = false := by simp [hc0]
          subst hee
          clear hc0
          go_wp2_with fail
          refine (AL.out w15 BF.out).mono ?_; rintro e w16 ⟨rfl, b16⟩
          have F16 := Lib.hid (F15.out.below b16 F15.out.lt); have B16 := Lib.hid (belT BF.out b16)
          have f0 := F16.out.get 0 rfl; have f1 := F16.out.get 1 rfl; have f2 := F16.out.get 2 rfl; have f3 := F16.out.get 3 rfl; have f4 := F16.out.get 4 rfl
          clear b16
          go_wp2
          go_ret
          exact ⟨rfl, B16.out⟩
    · go_wp2_with fail
      refine (AL.out w4 B4.out).mono ?_; rintro e w5 ⟨rfl, b5⟩
      have B5 := Lib.hid (belT B4.out b5)
      clear b5
      go_wp2
      go_ret
      exact ⟨rfl, B5.out⟩
  · obtain ⟨E, hEn⟩ := named (ckE ⟨k, p, m, t, s⟩)
    rw [← hEn.out] at EN hE
    have n0 : (E != 0) = true := by simp [hE]
    clear hEn hE
    go_enter Tryz.func5, Tryz.ntmps5
    go_wp2_with (first | (refine wpList_box_obj rfl 23 _ rfl (enV k p m t s) rfl ?_; intro w1 g1 b1; have E1 := Lib.hid g1; have B1 := Lib.hid b1; clear g1 b1) | (refine wpList_box_obj rfl 36 _ rfl [.slice ca cl cc, .int .i64 F] rfl ?_; intro w2 g2 b2; have H2 := Lib.hid g2; have B2 := Lib.hid (belT B1.out b2); have E2 := Lib.hid (E1.out.below b2 E1.out.lt); have c0 := E2.out.get 0 rfl; have c1 := E2.out.get 1 rfl; have c2 := E2.out.get 2 rfl; have c3 := E2.out.get 3 rfl; have c4 := E2.out.get 4 rfl; clear g2 b2))
    refine (EN.out w2 B2.out).mono ?_; rintro e w3 ⟨b, n, c, rfl, hn, hc, hm, hI, _, b3⟩
    have E3 := Lib.hid (E2.out.below b3 E2.out.lt); have H3 := Lib.hid (H2.out.below b3 H2.out.lt); have B3 := Lib.hid (belT B2.out b3)
    have I3 := Lib.hid hI; have HN := Lib.hid hn; have HC := Lib.hid hc; have HM := Lib.hid hm
    clear b3 hn hc hm hI c0 c1 c2 c3 c4
    have c0 := E3.out.get 0 rfl; have c1 := E3.out.get 1 rfl; have c2 := E3.out.get 2 rfl; have c3 := E3.out.get 3 rfl; have c4 := E3.out.get 4 rfl
    go_wp2_with fail
    refine (LG.out w3).mono ?_; rintro e w4 ⟨BB, rfl, hBB, b4⟩
    have E4 := Lib.hid (E3.out.below b4 E3.out.lt); have H4 := Lib.hid (H3.out.below b4 H3.out.lt); have B4 := Lib.hid (belT B3.out b4); have I4 := Lib.hid (I3.out.below b4)
    clear b4 c0 c1 c2 c3 c4
    rcases hBB with rfl | rfl
    · go_wp2_with fail
      refine (AL.out w4 B4.out).mono ?_; rintro e w5 ⟨rfl, b5⟩
      have B5 := Lib.hid (belT B4.out b5)
      clear b5
      go_wp2
      go_ret
      exact ⟨rfl, B5.out⟩
    · go_wp2_with fail
      refine (AL.out w4 B4.out).mono ?_; rintro e w5 ⟨rfl, b5⟩
      have B5 := Lib.hid (belT B4.out b5)
      clear b5
      go_wp2
      go_ret
      exact ⟨rfl, B5.out⟩
end Go.Proofs.YtbbaleambgaanaaGreatDoor
