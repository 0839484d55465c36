/-
  Layer 10: the program's Plan of a good entry.
-/
import Derived.Test.YtmbimnnacjbdfaaGreatDoorPz09
import Derived.Test.YtmbimnnacjbdfaaGreatDoorPz13
namespace Go.Proofs.YtmbimnnacjbdfaaGreatDoor.Fit
open Go.RowKit Pxr Pnm

set_option maxHeartbeats 16000000 in
set_option maxRecDepth 100000 in
theorem ppl_all (k : Int) (p : ByteArray) (m : Int) (t : ByteArray) (s : Int) (w : World) (T : Int) (PF NM SZ LK : ByteArray) (pb : Bool) (S' : Int) (L : List Rec) (k0 : 0 ≤ k) (k4 : k < 4)
    (KG : Hid (∀ w', Below w.heap.size w w' → w'.cell? ⟨0, k.toNat, none⟩ = some (.int .u8 T)))
    (C1 : Hid (∀ w', Below w.heap.size w w' → Calls Tryz.prog 40 #[.agg (enV k p m t s).toArray] w' fun e w'' => e = .returned (.int .i64 0) ∧ Below w'.heap.size w' w''))
    (C2 : Hid (∀ w', Calls Tryz.prog 41 #[.string p] w' fun e w'' => e = .returned (.tuple #[.string PF, .string NM, .bool pb]) ∧ Below w'.heap.size w' w''))
    (C3 : Hid (∀ w', Below w.heap.size w w' → Calls Tryz.prog 42 #[.int .i64 s, .int .i64 10] w' fun e w'' => e = .returned (.string SZ) ∧ Below w'.heap.size w' w''))
    (hN : Hid (pb = false → NM = emp ∧ PF = emp)) (hLK : Hid (LK = if t.size ≤ 100 then t else emp)) (hS' : Hid (S' = if s ≤ 8589934591 then s else 0))
    (hL : Hid (L = (if t.size ≤ 100 then [] else [(kLink, t)]) ++ ((if pb = true then [] else [(kPath, p)]) ++ (if s ≤ 8589934591 then [] else [(kSize, SZ)])))) :
    Calls Tryz.prog 24 #[.agg (enV k p m t s).toArray] w (RetPl T NM PF LK m S' L 0 w) := by
  have HO := Lib.hid hdTp; have EO := Lib.hid enT
  have HZ := Lib.hid zHp
  have S1 := Lib.hid sStr; have S6 := Lib.hid sI64
  obtain ⟨i0, hI⟩ := recI
  have hJ := Lib.hid recJ
  have HU := Lib.hid Tryz.underlying64
  go_enter Tryz.func24, Tryz.ntmps24
  go_wp2_with (first | (refine wpList_box_obj rfl 24 _ rfl (enV k p m t s) rfl ?_; intro w1 g1 b1; have H1 := Lib.hid g1; have B1 := Lib.hid b1; clear g1 b1) | (refine wpList_alloc_obj rfl 63 rfl Ust.hd0 HZ.out ?_; intro w2 g2 b2; have R2 := Lib.hid g2; have E2 := Lib.hid (H1.out.below b2 H1.out.lt); have B2 := Lib.hid (belT B1.out b2); have c0 := E2.out.get 0 rfl; have c1 := E2.out.get 1 rfl; have c2 := E2.out.get 2 rfl; have c3 := E2.out.get 3 rfl; have c4 := E2.out.get 4 rfl; clear g2 b2))
  refine (C1.out w2 B2.out).mono ?_; rintro e w3 ⟨rfl, b3⟩
  have E3 := Lib.hid (E2.out.below b3 E2.out.lt)
  have R3 := Lib.hid (R2.out.below b3 R2.out.lt)
  have B3 := Lib.hid (belT B2.out b3)
  have N1 : Hid (w.heap.size < w1.heap.size) := H1.out.lt
  have N2 : Hid (w1.heap.size < w3.heap.size) := R3.out.lt
  clear b3 c0 c1 c2 c3 c4
  have KS : Hid (∀ w', Below w3.heap.size w3 w' → (fun w' : World => w'.cell? ⟨w.heap.size, 0, none⟩ = some (.int .i64 k) ∧ w'.cell? ⟨w.heap.size, 2, none⟩ = some (.int .i64 m) ∧ w'.cell? ⟨0, k.toNat, none⟩ = some (.int .u8 T)) w') := fun w' hb => ⟨(E3.out.below hb E3.out.lt).get 0 rfl, (E3.out.below hb E3.out.lt).get 2 rfl, KG.out w' (belT B3.out hb)⟩
  go_wp2_with fail
  refine wp_region_held_drew (S := (fun w' : World => w'.cell? ⟨w.heap.size, 0, none⟩ = some (.int .i64 k) ∧ w'.cell? ⟨w.heap.size, 2, none⟩ = some (.int .i64 m) ∧ w'.cell? ⟨0, k.toNat, none⟩ = some (.int .u8 T))) (by kernel_rfl) (KS.out _ (Below.refl _ _).drew) (fun hHeld => ?_)
  refine wpAnyH_take (i := 0) (oi := { dst := some 17, op := Go.Op.fieldAddr 24 (Go.Operand.tmp 1) 0, type := 0, pos := "fit.go:45", after := #[], guard := none }) (v := ?_) rfl (by kernel_rfl) (by kernel_rfl) (by kernel_rfl) (fun _ _ _ h => h) (Or.inl ⟨by rfl, ?_⟩) (by assumption) ?_
  rotate_left 1
  focus ((intro wS hSw; (try dsimp only at hSw); go_simp) <;> (try with_reducible rfl))
  simp only [Act.put, List.setIfInBounds_toArray, List.set_cons_zero, List.set_cons_succ]
  refine wpAnyH_take (i := 1) (oi := { dst := some 18, op := Go.Op.load 3 (Go.Operand.tmp 17), type := 3, pos := "fit.go:45", after := #[{ on := 0, ground := Go.Ground.data }], guard := none }) (v := ?_) rfl (by kernel_rfl) (by kernel_rfl) (by kernel_rfl) (fun _ _ _ h => h) (Or.inl ⟨by rfl, ?_⟩) (by assumption) ?_
  rotate_left 1
  focus ((intro wS hSw; (try dsimp only at hSw); go_simp) <;> (try with_reducible rfl))
  simp only [Act.put, List.setIfInBounds_toArray, List.set_cons_zero, List.set_cons_succ]
  refine wpAnyH_take (i := 2) (oi := { dst := some 19, op := Go.Op.indexAddr 82 (Go.Operand.global 0) (Go.Operand.tmp 18), type := 0, pos := "fit.go:45", after := #[{ on := 1, ground := Go.Ground.data }], guard := none }) (v := ?_) rfl (by kernel_rfl) (by kernel_rfl) (by kernel_rfl) (fun _ _ _ h => h) (Or.inl ⟨by rfl, ?_⟩) (by assumption) ?_
  rotate_left 1
  focus ((intro wS hSw; (try dsimp only at hSw); go_simp) <;> (try with_reducible rfl))
  simp only [Act.put, List.setIfInBounds_toArray, List.set_cons_zero, List.set_cons_succ]
  refine wpAnyH_take (i := 3) (oi := { dst := some 20, op := Go.Op.load 5 (Go.Operand.tmp 19), type := 5, pos := "fit.go:45", after := #[{ on := 2, ground := Go.Ground.data }], guard := none }) (v := ?_) rfl (by kernel_rfl) (by kernel_rfl) (by kernel_rfl) (fun _ _ _ h => h) (Or.inl ⟨by rfl, ?_⟩) (by assumption) ?_
  rotate_left 1
  focus ((intro wS hSw; (try dsimp only at hSw); go_simp) <;> (try with_reducible rfl))
  simp only [Act.put, List.setIfInBounds_toArray, List.set_cons_zero, List.set_cons_succ]
  refine wpAnyH_take (i := 4) (oi := { dst := some 21, op := Go.Op.fieldAddr 24 (Go.Operand.tmp 1) 2, type := 0, pos := "fit.go:45", after := #[], guard := none }) (v := ?_) rfl (by kernel_rfl) (by kernel_rfl) (by kernel_rfl) (fun _ _ _ h => h) (Or.inl ⟨by rfl, ?_⟩) (by assumption) ?_
  rotate_left 1
  focus ((intro wS hSw; (try dsimp only at hSw); go_simp) <;> (try with_reducible rfl))
  simp only [Act.put, List.setIfInBounds_toArray, List.set_cons_zero, List.set_cons_succ]
  refine wpAnyH_take (i := 5) (oi := { dst := some 22, op := Go.Op.load 3 (Go.Operand.tmp 21), type := 3, pos := "fit.go:45", after := #[{ on := 4, ground := Go.Ground.data }], guard := none }) (v := ?_) rfl (by kernel_rfl) (by kernel_rfl) (by kernel_rfl) (fun _ _ _ h => h) (Or.inl ⟨by rfl, ?_⟩) (by assumption) ?_
  rotate_left 1
  focus ((intro wS hSw; (try dsimp only at hSw); go_simp) <;> (try with_reducible rfl))
  simp only [Act.put, List.setIfInBounds_toArray, List.set_cons_zero, List.set_cons_succ]
  refine wpAnyH_take (i := 6) (oi := { dst := some 23, op := Go.Op.build 63 #[(0, Go.Operand.tmp 20), (4, Go.Operand.tmp 22)], type := 63, pos := "fit.go:45", after := #[{ on := 3, ground := Go.Ground.data }, { on := 5, ground := Go.Ground.data }], guard := none }) (v := ?_) rfl (by kernel_rfl) (by kernel_rfl) (by kernel_rfl) (fun _ _ _ h => h) (Or.inl ⟨by rfl, ?_⟩) (by assumption) ?_
  rotate_left 1
  focus ((intro wS hSw; (try dsimp only at hSw); go_simp) <;> (try with_reducible rfl))
  simp only [Act.put, List.setIfInBounds_toArray, List.set_cons_zero, List.set_cons_succ]
  refine wpAnyH_ready (rs := [7]) (by kernel_rfl) (by simp) ?_
  refine AllReadyH.cons (o := { dst := some 6, op := Go.Op.alloc 63, type := 0, pos := "fit.go:45", after := #[], guard := none }) rfl (fun K hK => ?_) AllReadyH.nil
  refine step_alloc_obj rfl 63 rfl Ust.hd0 HZ.out ?_
  intro w4 g4 b4
  have R4 := Lib.hid g4; have A4 := Lib.hid b4; clear g4 b4
  have D4 : Hid (Below w3.heap.size w3 w4) := (Below.refl _ _).drew.trans A4.out
  refine hK.out _ _ (KS.out _ D4.out) (fun hHeld => ?_)
  clear hK K
  (try simp only [Act.put, List.setIfInBounds_toArray, List.set_cons_zero, List.set_cons_succ])
  refine wpAnyH_ready (rs := [8]) (by kernel_rfl) (by simp) ?_
  refine AllReadyH.cons (o := { dst := none, op := Go.Op.store 63 (Go.Operand.tmp 6) (Go.Operand.tmp 23), type := 0, pos := "fit.go:45", after := #[{ on := 7, ground := Go.Ground.data }, { on := 6, ground := Go.Ground.data }, { on := 0, ground := Go.Ground.phase }, { on := 1, ground := Go.Ground.phase }, { on := 2, ground := Go.Ground.phase }, { on := 3, ground := Go.Ground.phase }, { on := 4, ground := Go.Ground.phase }, { on := 5, ground := Go.Ground.phase }, { on := 6, ground := Go.Ground.phase }, { on := 7, ground := Go.Ground.phase }], guard := none }) rfl (fun K hK => ?_) AllReadyH.nil
  refine step_store_obj rfl 63 (.tmp 6) (.tmp 23) rfl w3.drew.heap.size rfl (Ust.hdV T emp emp emp m 0) Ust.hd0 rfl 63 R4.out HO.out.2 rfl (hd_one _ _ _ _ _ _) ?_
  intro w5 g5 t5
  have R5 := Lib.hid g5; have T5 := Lib.hid t5; clear g5 t5
  refine hK.out _ _ (KS.out _ (D4.out.trans (T5.out.below (Nat.le_refl _)))) (fun hHeld => ?_)
  clear hK K
  (try simp only [Act.put])
  refine wpAnyH_done (by kernel_rfl) ?_ _
  have D5 : Hid (Below w3.heap.size w3 w5) := D4.out.trans (T5.out.below (Nat.le_refl _))
  have N3 : Hid (w3.heap.size ≤ w3.heap.size) := Nat.le_refl _
  have X5 : Hid (ObjAt w5 w3.heap.size 63 (Ust.hdV T emp emp emp m 0)) := R5.out
  have E5 := Lib.hid (E3.out.below D5.out E3.out.lt)
  have Q5 := Lib.hid (R3.out.below D5.out R3.out.lt)
  have B5 := Lib.hid (belT B3.out D5.out)
  have LB : Hid (w.heap.size < w3.heap.size ∧ w1.heap.size < w3.heap.size) := ⟨by have := N1.out; have := N2.out; have := N3.out; omega, by have := N2.out; have := N3.out; omega⟩
  have c1 := E5.out.get 1 rfl; have c3 := E5.out.get 3 rfl; have c4 := E5.out.get 4 rfl
  by_cases ht : (t.size : Int) ≤ 100
  · have htn : t.size ≤ 100 := by omega
    have eLK : Hid (LK = t) := by show _ = _; rw [hLK.out, if_pos htn]
    go_wp2_with (first | (refine wpList_store_cell rfl 9 _ _ rfl w3.heap.size 3 rfl (.string t) rfl rfl S1.out 63 _ X5.out (by show 3 < 6; decide) ?_; intro w6 g6 t6; have X6 : Hid (ObjAt w6 w3.heap.size 63 (Ust.hdV T emp emp t m 0)) := g6; have E6 := Lib.hid (E5.out.turnB t6 (Nat.ne_of_lt LB.out.1)); have Q6 := Lib.hid (Q5.out.turnB t6 (Nat.ne_of_lt LB.out.2)); have B6 := Lib.hid (B5.out.trans (t6.below (Nat.le_of_lt LB.out.1))); clear g6 t6 c1 c3 c4; have c1 := E6.out.get 1 rfl; have c3 := E6.out.get 3 rfl; have c4 := E6.out.get 4 rfl))
    refine (C2.out w6).mono ?_; rintro e w7 ⟨rfl, b7⟩
    have E7 := Lib.hid (E6.out.below b7 E6.out.lt)
    have Q7 := Lib.hid (Q6.out.below b7 Q6.out.lt)
    have X7 := Lib.hid (X6.out.below b7 X6.out.lt)
    have B7 := Lib.hid (belT B6.out b7)
    clear b7 c1 c3 c4
    have c1 := E7.out.get 1 rfl; have c3 := E7.out.get 3 rfl; have c4 := E7.out.get 4 rfl
    cases pb with
    | true =>
      by_cases hs : s ≤ 8589934591
      · have eS : Hid (S' = s) := by show _ = _; rw [hS'.out, if_pos hs]
        have eL : Hid (L = []) := by show _ = _; rw [hL.out]; simp [htn, hs]
        go_wp2_with (first | (refine wpList_store_cell rfl 9 _ _ rfl w3.heap.size 2 rfl (.string PF) rfl rfl S1.out 63 _ X7.out (by show 2 < 6; decide) ?_; intro w8 g8 t8; have X8 : Hid (ObjAt w8 w3.heap.size 63 (Ust.hdV T emp PF t m 0)) := g8; have E8 := Lib.hid (E7.out.turnB t8 (Nat.ne_of_lt LB.out.1)); have Q8 := Lib.hid (Q7.out.turnB t8 (Nat.ne_of_lt LB.out.2)); have B8 := Lib.hid (B7.out.trans (t8.below (Nat.le_of_lt LB.out.1))); clear g8 t8 c1 c3 c4; have c1 := E8.out.get 1 rfl; have c3 := E8.out.get 3 rfl; have c4 := E8.out.get 4 rfl) | (refine wpList_store_cell rfl 9 _ _ rfl w3.heap.size 1 rfl (.string NM) rfl rfl S1.out 63 _ X8.out (by show 1 < 6; decide) ?_; intro w9 g9 t9; have X9 : Hid (ObjAt w9 w3.heap.size 63 (Ust.hdV T NM PF t m 0)) := g9; have E9 := Lib.hid (E8.out.turnB t9 (Nat.ne_of_lt LB.out.1)); have Q9 := Lib.hid (Q8.out.turnB t9 (Nat.ne_of_lt LB.out.2)); have B9 := Lib.hid (B8.out.trans (t9.below (Nat.le_of_lt LB.out.1))); clear g9 t9 c1 c3 c4; have c1 := E9.out.get 1 rfl; have c3 := E9.out.get 3 rfl; have c4 := E9.out.get 4 rfl) | (refine wpList_store_cell rfl 2 _ _ rfl w3.heap.size 5 rfl (.int .i64 s) rfl rfl S6.out 63 _ X9.out (by show 5 < 6; decide) ?_; intro w10 g10 t10; have X10 : Hid (ObjAt w10 w3.heap.size 63 (Ust.hdV T NM PF t m s)) := g10; have E10 := Lib.hid (E9.out.turnB t10 (Nat.ne_of_lt LB.out.1)); have Q10 := Lib.hid (Q9.out.turnB t10 (Nat.ne_of_lt LB.out.2)); have B10 := Lib.hid (B9.out.trans (t10.below (Nat.le_of_lt LB.out.1))); clear g10 t10 c1 c3 c4; have c1 := E10.out.get 1 rfl; have c3 := E10.out.get 3 rfl; have c4 := E10.out.get 4 rfl) | (refine wpList_load_obj rfl 63 6 HO.out _ rfl w3.heap.size rfl 63 (Ust.hdV T NM PF t m s) X10.out rfl ?_) | (refine wpList_store_obj rfl 63 _ _ rfl w1.heap.size rfl (Ust.hdV T NM PF t m s) Ust.hd0 rfl 63 Q10.out HO.out.2 rfl (hd_one _ _ _ _ _ _) ?_; intro w11 g11 t11; have Q11 := Lib.hid g11; have T11 := Lib.hid t11; clear g11 t11))
        exact bodyPost_ret (results_obj_two Tryz.results24 HO.out _ w1.heap.size rfl _ (Ust.hdV T NM PF t m s) Q11.out rfl) rfl (by rw [eLK.out, eS.out, eL.out]; exact .nil (B10.out.trans (T11.out.below (Nat.le_of_lt N1.out))))
      · have eS : Hid (S' = 0) := by show _ = _; rw [hS'.out, if_neg hs]
        have eL : Hid (L = [(kSize, SZ)]) := by show _ = _; rw [hL.out]; simp [htn, hs]
        go_wp2_with (first | (refine wpList_store_cell rfl 9 _ _ rfl w3.heap.size 2 rfl (.string PF) rfl rfl S1.out 63 _ X7.out (by show 2 < 6; decide) ?_; intro w8 g8 t8; have X8 : Hid (ObjAt w8 w3.heap.size 63 (Ust.hdV T emp PF t m 0)) := g8; have E8 := Lib.hid (E7.out.turnB t8 (Nat.ne_of_lt LB.out.1)); have Q8 := Lib.hid (Q7.out.turnB t8 (Nat.ne_of_lt LB.out.2)); have B8 := Lib.hid (B7.out.trans (t8.below (Nat.le_of_lt LB.out.1))); clear g8 t8 c1 c3 c4; have c1 := E8.out.get 1 rfl; have c3 := E8.out.get 3 rfl; have c4 := E8.out.get 4 rfl) | (refine wpList_store_cell rfl 9 _ _ rfl w3.heap.size 1 rfl (.string NM) rfl rfl S1.out 63 _ X8.out (by show 1 < 6; decide) ?_; intro w9 g9 t9; have X9 : Hid (ObjAt w9 w3.heap.size 63 (Ust.hdV T NM PF t m 0)) := g9; have E9 := Lib.hid (E8.out.turnB t9 (Nat.ne_of_lt LB.out.1)); have Q9 := Lib.hid (Q8.out.turnB t9 (Nat.ne_of_lt LB.out.2)); have B9 := Lib.hid (B8.out.trans (t9.below (Nat.le_of_lt LB.out.1))); clear g9 t9 c1 c3 c4; have c1 := E9.out.get 1 rfl; have c3 := E9.out.get 3 rfl; have c4 := E9.out.get 4 rfl))
        refine (C3.out w9 B9.out).mono ?_; rintro e w10 ⟨rfl, b10⟩
        have E10 := Lib.hid (E9.out.below b10 E9.out.lt)
        have Q10 := Lib.hid (Q9.out.below b10 Q9.out.lt)
        have X10 := Lib.hid (X9.out.below b10 X9.out.lt)
        have B10 := Lib.hid (belT B9.out b10)
        clear b10 c1 c3 c4
        have c1 := E10.out.get 1 rfl; have c3 := E10.out.get 3 rfl; have c4 := E10.out.get 4 rfl
        go_wp2_with (first | (refine wpList_lit_rec rfl _ 84 _ rfl HU.out _ hJ.out kSize SZ rfl ?_; intro w11 g11 b11; have G11 := Lib.hid g11; have E11 := Lib.hid (E10.out.below b11 E10.out.lt); have Q11 := Lib.hid (Q10.out.below b11 Q10.out.lt); have X11 := Lib.hid (X10.out.below b11 X10.out.lt); have B11 := Lib.hid (belT B10.out b11); have W11 : Hid (w11.ownsRow (w3.heap.size + 1) 84 2 (.slice none 0 0) 0 (recCells [])) := ⟨rfl, .inl ⟨rfl, rfl⟩⟩; clear g11 b11) | (at_builtin; refine wpList_append_rec rfl _ _ _ rfl (w3.heap.size + 1) _ i0 _ HU.out hI _ 0 [] rfl W11.out w10.heap.size (kSize, SZ) rfl G11.out (by decide) (X11.out.lt) ?_; intro v12 w12 o12 b12 _; have W12 : Hid (w12.ownsRow (w3.heap.size + 1) 84 2 v12 1 (recCells [(kSize, SZ)])) := o12; have E12 := Lib.hid (E11.out.below b12 (Nat.lt_succ_of_lt LB.out.1)); have Q12 := Lib.hid (Q11.out.below b12 (Nat.lt_succ_of_lt LB.out.2)); have X12 := Lib.hid (X11.out.below b12 (Nat.lt_succ_self _)); have B12 := Lib.hid (B11.out.trans (b12.mono (Nat.le_of_lt (Nat.lt_succ_of_lt LB.out.1)))); clear o12 b12 c1 c3 c4; have c1 := E12.out.get 1 rfl; have c3 := E12.out.get 3 rfl; have c4 := E12.out.get 4 rfl) | (refine wpList_load_obj rfl 63 6 HO.out _ rfl w3.heap.size rfl 63 (Ust.hdV T NM PF t m 0) X12.out rfl ?_) | (refine wpList_store_obj rfl 63 _ _ rfl w1.heap.size rfl (Ust.hdV T NM PF t m 0) Ust.hd0 rfl 63 Q12.out HO.out.2 rfl (hd_one _ _ _ _ _ _) ?_; intro w13 g13 t13; have Q13 := Lib.hid g13; have T13 := Lib.hid t13; clear g13 t13))
        have W13 := Lib.hid (own_turned2 W12.out T13.out (Nat.lt_succ_of_lt LB.out.2))
        exact bodyPost_ret (results_obj_two Tryz.results24 HO.out _ w1.heap.size rfl _ (Ust.hdV T NM PF t m 0) Q13.out rfl) rfl (by rw [eLK.out, eS.out, eL.out]; exact .own W13.out (B12.out.trans (T13.out.below (Nat.le_of_lt N1.out))))
    | false =>
      obtain ⟨hn1, hn2⟩ := hN.out rfl
      subst hn1; subst hn2
      by_cases hs : s ≤ 8589934591
      · have eS : Hid (S' = s) := by show _ = _; rw [hS'.out, if_pos hs]
        have eL : Hid (L = [(kPath, p)]) := by show _ = _; rw [hL.out]; simp [htn, hs]
        go_wp2_with (first | (refine wpList_lit_rec rfl _ 84 _ rfl HU.out _ hJ.out kPath p rfl ?_; intro w8 g8 b8; have G8 := Lib.hid g8; have E8 := Lib.hid (E7.out.below b8 E7.out.lt); have Q8 := Lib.hid (Q7.out.below b8 Q7.out.lt); have X8 := Lib.hid (X7.out.below b8 X7.out.lt); have B8 := Lib.hid (belT B7.out b8); have W8 : Hid (w8.ownsRow (w3.heap.size + 1) 84 2 (.slice none 0 0) 0 (recCells [])) := ⟨rfl, .inl ⟨rfl, rfl⟩⟩; clear g8 b8) | (at_builtin; refine wpList_append_rec rfl _ _ _ rfl (w3.heap.size + 1) _ i0 _ HU.out hI _ 0 [] rfl W8.out w7.heap.size (kPath, p) rfl G8.out (by decide) (X8.out.lt) ?_; intro v9 w9 o9 b9 _; have W9 : Hid (w9.ownsRow (w3.heap.size + 1) 84 2 v9 1 (recCells [(kPath, p)])) := o9; have E9 := Lib.hid (E8.out.below b9 (Nat.lt_succ_of_lt LB.out.1)); have Q9 := Lib.hid (Q8.out.below b9 (Nat.lt_succ_of_lt LB.out.2)); have X9 := Lib.hid (X8.out.below b9 (Nat.lt_succ_self _)); have B9 := Lib.hid (B8.out.trans (b9.mono (Nat.le_of_lt (Nat.lt_succ_of_lt LB.out.1)))); clear o9 b9 c1 c3 c4; have c1 := E9.out.get 1 rfl; have c3 := E9.out.get 3 rfl; have c4 := E9.out.get 4 rfl) | (refine wpList_store_cell rfl 2 _ _ rfl w3.heap.size 5 rfl (.int .i64 s) rfl rfl S6.out 63 _ X9.out (by show 5 < 6; decide) ?_; intro w10 g10 t10; have X10 : Hid (ObjAt w10 w3.heap.size 63 (Ust.hdV T emp emp t m s)) := g10; have E10 := Lib.hid (E9.out.turnB t10 (Nat.ne_of_lt LB.out.1)); have Q10 := Lib.hid (Q9.out.turnB t10 (Nat.ne_of_lt LB.out.2)); have B10 := Lib.hid (B9.out.trans (t10.below (Nat.le_of_lt LB.out.1))); have W10 := Lib.hid (own_turnB W9.out t10 (Nat.lt_succ_self _)); clear g10 t10 c1 c3 c4; have c1 := E10.out.get 1 rfl; have c3 := E10.out.get 3 rfl; have c4 := E10.out.get 4 rfl) | (refine wpList_load_obj rfl 63 6 HO.out _ rfl w3.heap.size rfl 63 (Ust.hdV T emp emp t m s) X10.out rfl ?_) | (refine wpList_store_obj rfl 63 _ _ rfl w1.heap.size rfl (Ust.hdV T emp emp t m s) Ust.hd0 rfl 63 Q10.out HO.out.2 rfl (hd_one _ _ _ _ _ _) ?_; intro w11 g11 t11; have Q11 := Lib.hid g11; have T11 := Lib.hid t11; clear g11 t11))
        have W11 := Lib.hid (own_turned2 W10.out T11.out (Nat.lt_succ_of_lt LB.out.2))
        exact bodyPost_ret (results_obj_two Tryz.results24 HO.out _ w1.heap.size rfl _ (Ust.hdV T emp emp t m s) Q11.out rfl) rfl (by rw [eLK.out, eS.out, eL.out]; exact .own W11.out (B10.out.trans (T11.out.below (Nat.le_of_lt N1.out))))
      · have eS : Hid (S' = 0) := by show _ = _; rw [hS'.out, if_neg hs]
        have eL : Hid (L = [(kPath, p), (kSize, SZ)]) := by show _ = _; rw [hL.out]; simp [htn, hs]
        go_wp2_with (first | (refine wpList_lit_rec rfl _ 84 _ rfl HU.out _ hJ.out kPath p rfl ?_; intro w8 g8 b8; have G8 := Lib.hid g8; have E8 := Lib.hid (E7.out.below b8 E7.out.lt); have Q8 := Lib.hid (Q7.out.below b8 Q7.out.lt); have X8 := Lib.hid (X7.out.below b8 X7.out.lt); have B8 := Lib.hid (belT B7.out b8); have W8 : Hid (w8.ownsRow (w3.heap.size + 1) 84 2 (.slice none 0 0) 0 (recCells [])) := ⟨rfl, .inl ⟨rfl, rfl⟩⟩; clear g8 b8) | (at_builtin; refine wpList_append_rec rfl _ _ _ rfl (w3.heap.size + 1) _ i0 _ HU.out hI _ 0 [] rfl W8.out w7.heap.size (kPath, p) rfl G8.out (by decide) (X8.out.lt) ?_; intro v9 w9 o9 b9 _; have W9 : Hid (w9.ownsRow (w3.heap.size + 1) 84 2 v9 1 (recCells [(kPath, p)])) := o9; have E9 := Lib.hid (E8.out.below b9 (Nat.lt_succ_of_lt LB.out.1)); have Q9 := Lib.hid (Q8.out.below b9 (Nat.lt_succ_of_lt LB.out.2)); have X9 := Lib.hid (X8.out.below b9 (Nat.lt_succ_self _)); have B9 := Lib.hid (B8.out.trans (b9.mono (Nat.le_of_lt (Nat.lt_succ_of_lt LB.out.1)))); clear o9 b9 c1 c3 c4; have c1 := E9.out.get 1 rfl; have c3 := E9.out.get 3 rfl; have c4 := E9.out.get 4 rfl))
        refine (C3.out w9 B9.out).mono ?_; rintro e w10 ⟨rfl, b10⟩
        have E10 := Lib.hid (E9.out.below b10 E9.out.lt)
        have Q10 := Lib.hid (Q9.out.below b10 Q9.out.lt)
        have X10 := Lib.hid (X9.out.below b10 X9.out.lt)
        have B10 := Lib.hid (belT B9.out b10)
        have W10 := Lib.hid (own_stay W9.out b10 (Nat.le_refl _))
        clear b10 c1 c3 c4
        have c1 := E10.out.get 1 rfl; have c3 := E10.out.get 3 rfl; have c4 := E10.out.get 4 rfl
        go_wp2_with (first | (refine wpList_lit_rec rfl _ 84 _ rfl HU.out _ hJ.out kSize SZ rfl ?_; intro w11 g11 b11; have G11 := Lib.hid g11; have E11 := Lib.hid (E10.out.below b11 E10.out.lt); have Q11 := Lib.hid (Q10.out.below b11 Q10.out.lt); have X11 := Lib.hid (X10.out.below b11 X10.out.lt); have B11 := Lib.hid (belT B10.out b11); have W11 := Lib.hid (own_stay W10.out b11 (Nat.le_refl _)); clear g11 b11) | (at_builtin; refine wpList_append_rec rfl _ _ _ rfl (w3.heap.size + 1) _ i0 _ HU.out hI _ 1 [(kPath, p)] rfl W11.out w10.heap.size (kSize, SZ) rfl G11.out (by decide) (X11.out.lt) ?_; intro v12 w12 o12 b12 _; have W12 : Hid (w12.ownsRow (w3.heap.size + 1) 84 2 v12 2 (recCells [(kPath, p), (kSize, SZ)])) := o12; have E12 := Lib.hid (E11.out.below b12 (Nat.lt_succ_of_lt LB.out.1)); have Q12 := Lib.hid (Q11.out.below b12 (Nat.lt_succ_of_lt LB.out.2)); have X12 := Lib.hid (X11.out.below b12 (Nat.lt_succ_self _)); have B12 := Lib.hid (B11.out.trans (b12.mono (Nat.le_of_lt (Nat.lt_succ_of_lt LB.out.1)))); clear o12 b12 c1 c3 c4; have c1 := E12.out.get 1 rfl; have c3 := E12.out.get 3 rfl; have c4 := E12.out.get 4 rfl) | (refine wpList_load_obj rfl 63 6 HO.out _ rfl w3.heap.size rfl 63 (Ust.hdV T emp emp t m 0) X12.out rfl ?_) | (refine wpList_store_obj rfl 63 _ _ rfl w1.heap.size rfl (Ust.hdV T emp emp t m 0) Ust.hd0 rfl 63 Q12.out HO.out.2 rfl (hd_one _ _ _ _ _ _) ?_; intro w13 g13 t13; have Q13 := Lib.hid g13; have T13 := Lib.hid t13; clear g13 t13))
        have W13 := Lib.hid (own_turned2 W12.out T13.out (Nat.lt_succ_of_lt LB.out.2))
        exact bodyPost_ret (results_obj_two Tryz.results24 HO.out _ w1.heap.size rfl _ (Ust.hdV T emp emp t m 0) Q13.out rfl) rfl (by rw [eLK.out, eS.out, eL.out]; exact .own W13.out (B12.out.trans (T13.out.below (Nat.le_of_lt N1.out))))
  · have htn : ¬ t.size ≤ 100 := by omega
    have eLK : Hid (LK = emp) := by show _ = _; rw [hLK.out, if_neg htn]
    go_wp2_with (first | (refine wpList_lit_rec rfl _ 84 _ rfl HU.out _ hJ.out kLink t rfl ?_; intro w6 g6 b6; have G6 := Lib.hid g6; have E6 := Lib.hid (E5.out.below b6 E5.out.lt); have Q6 := Lib.hid (Q5.out.below b6 Q5.out.lt); have X6 := Lib.hid (X5.out.below b6 X5.out.lt); have B6 := Lib.hid (belT B5.out b6); have W6 : Hid (w6.ownsRow (w3.heap.size + 1) 84 2 (.slice none 0 0) 0 (recCells [])) := ⟨rfl, .inl ⟨rfl, rfl⟩⟩; clear g6 b6) | (at_builtin; refine wpList_append_rec rfl _ _ _ rfl (w3.heap.size + 1) _ i0 _ HU.out hI _ 0 [] rfl W6.out w5.heap.size (kLink, t) rfl G6.out (by decide) (X6.out.lt) ?_; intro v7 w7 o7 b7 _; have W7 : Hid (w7.ownsRow (w3.heap.size + 1) 84 2 v7 1 (recCells [(kLink, t)])) := o7; have E7 := Lib.hid (E6.out.below b7 (Nat.lt_succ_of_lt LB.out.1)); have Q7 := Lib.hid (Q6.out.below b7 (Nat.lt_succ_of_lt LB.out.2)); have X7 := Lib.hid (X6.out.below b7 (Nat.lt_succ_self _)); have B7 := Lib.hid (B6.out.trans (b7.mono (Nat.le_of_lt (Nat.lt_succ_of_lt LB.out.1)))); clear o7 b7 c1 c3 c4; have c1 := E7.out.get 1 rfl; have c3 := E7.out.get 3 rfl; have c4 := E7.out.get 4 rfl))
    refine (C2.out w7).mono ?_; rintro e w8 ⟨rfl, b8⟩
    have E8 := Lib.hid (E7.out.below b8 E7.out.lt)
    have Q8 := Lib.hid (Q7.out.below b8 Q7.out.lt)
    have X8 := Lib.hid (X7.out.below b8 X7.out.lt)
    have B8 := Lib.hid (belT B7.out b8)
    have W8 := Lib.hid (own_stay W7.out b8 (Nat.le_refl _))
    clear b8 c1 c3 c4
    have c1 := E8.out.get 1 rfl; have c3 := E8.out.get 3 rfl; have c4 := E8.out.get 4 rfl
    cases pb with
    | true =>
      by_cases hs : s ≤ 8589934591
      · have eS : Hid (S' = s) := by show _ = _; rw [hS'.out, if_pos hs]
        have eL : Hid (L = [(kLink, t)]) := by show _ = _; rw [hL.out]; simp [htn, hs]
        go_wp2_with (first | (refine wpList_store_cell rfl 9 _ _ rfl w3.heap.size 2 rfl (.string PF) rfl rfl S1.out 63 _ X8.out (by show 2 < 6; decide) ?_; intro w9 g9 t9; have X9 : Hid (ObjAt w9 w3.heap.size 63 (Ust.hdV T emp PF emp m 0)) := g9; have E9 := Lib.hid (E8.out.turnB t9 (Nat.ne_of_lt LB.out.1)); have Q9 := Lib.hid (Q8.out.turnB t9 (Nat.ne_of_lt LB.out.2)); have B9 := Lib.hid (B8.out.trans (t9.below (Nat.le_of_lt LB.out.1))); have W9 := Lib.hid (own_turnB W8.out t9 (Nat.lt_succ_self _)); clear g9 t9 c1 c3 c4; have c1 := E9.out.get 1 rfl; have c3 := E9.out.get 3 rfl; have c4 := E9.out.get 4 rfl) | (refine wpList_store_cell rfl 9 _ _ rfl w3.heap.size 1 rfl (.string NM) rfl rfl S1.out 63 _ X9.out (by show 1 < 6; decide) ?_; intro w10 g10 t10; have X10 : Hid (ObjAt w10 w3.heap.size 63 (Ust.hdV T NM PF emp m 0)) := g10; have E10 := Lib.hid (E9.out.turnB t10 (Nat.ne_of_lt LB.out.1)); have Q10 := Lib.hid (Q9.out.turnB t10 (Nat.ne_of_lt LB.out.2)); have B10 := Lib.hid (B9.out.trans (t10.below (Nat.le_of_lt LB.out.1))); have W10 := Lib.hid (own_turnB W9.out t10 (Nat.lt_succ_self _)); clear g10 t10 c1 c3 c4; have c1 := E10.out.get 1 rfl; have c3 := E10.out.get 3 rfl; have c4 := E10.out.get 4 rfl) | (refine wpList_store_cell rfl 2 _ _ rfl w3.heap.size 5 rfl (.int .i64 s) rfl rfl S6.out 63 _ X10.out (by show 5 < 6; decide) ?_; intro w11 g11 t11; have X11 : Hid (ObjAt w11 w3.heap.size 63 (Ust.hdV T NM PF emp m s)) := g11; have E11 := Lib.hid (E10.out.turnB t11 (Nat.ne_of_lt LB.out.1)); have Q11 := Lib.hid (Q10.out.turnB t11 (Nat.ne_of_lt LB.out.2)); have B11 := Lib.hid (B10.out.trans (t11.below (Nat.le_of_lt LB.out.1))); have W11 := Lib.hid (own_turnB W10.out t11 (Nat.lt_succ_self _)); clear g11 t11 c1 c3 c4; have c1 := E11.out.get 1 rfl; have c3 := E11.out.get 3 rfl; have c4 := E11.out.get 4 rfl) | (refine wpList_load_obj rfl 63 6 HO.out _ rfl w3.heap.size rfl 63 (Ust.hdV T NM PF emp m s) X11.out rfl ?_) | (refine wpList_store_obj rfl 63 _ _ rfl w1.heap.size rfl (Ust.hdV T NM PF emp m s) Ust.hd0 rfl 63 Q11.out HO.out.2 rfl (hd_one _ _ _ _ _ _) ?_; intro w12 g12 t12; have Q12 := Lib.hid g12; have T12 := Lib.hid t12; clear g12 t12))
        have W12 := Lib.hid (own_turned2 W11.out T12.out (Nat.lt_succ_of_lt LB.out.2))
        exact bodyPost_ret (results_obj_two Tryz.results24 HO.out _ w1.heap.size rfl _ (Ust.hdV T NM PF emp m s) Q12.out rfl) rfl (by rw [eLK.out, eS.out, eL.out]; exact .own W12.out (B11.out.trans (T12.out.below (Nat.le_of_lt N1.out))))
      · have eS : Hid (S' = 0) := by show _ = _; rw [hS'.out, if_neg hs]
        have eL : Hid (L = [(kLink, t), (kSize, SZ)]) := by show _ = _; rw [hL.out]; simp [htn, hs]
        go_wp2_with (first | (refine wpList_store_cell rfl 9 _ _ rfl w3.heap.size 2 rfl (.string PF) rfl rfl S1.out 63 _ X8.out (by show 2 < 6; decide) ?_; intro w9 g9 t9; have X9 : Hid (ObjAt w9 w3.heap.size 63 (Ust.hdV T emp PF emp m 0)) := g9; have E9 := Lib.hid (E8.out.turnB t9 (Nat.ne_of_lt LB.out.1)); have Q9 := Lib.hid (Q8.out.turnB t9 (Nat.ne_of_lt LB.out.2)); have B9 := Lib.hid (B8.out.trans (t9.below (Nat.le_of_lt LB.out.1))); have W9 := Lib.hid (own_turnB W8.out t9 (Nat.lt_succ_self _)); clear g9 t9 c1 c3 c4; have c1 := E9.out.get 1 rfl; have c3 := E9.out.get 3 rfl; have c4 := E9.out.get 4 rfl) | (refine wpList_store_cell rfl 9 _ _ rfl w3.heap.size 1 rfl (.string NM) rfl rfl S1.out 63 _ X9.out (by show 1 < 6; decide) ?_; intro w10 g10 t10; have X10 : Hid (ObjAt w10 w3.heap.size 63 (Ust.hdV T NM PF emp m 0)) := g10; have E10 := Lib.hid (E9.out.turnB t10 (Nat.ne_of_lt LB.out.1)); have Q10 := Lib.hid (Q9.out.turnB t10 (Nat.ne_of_lt LB.out.2)); have B10 := Lib.hid (B9.out.trans (t10.below (Nat.le_of_lt LB.out.1))); have W10 := Lib.hid (own_turnB W9.out t10 (Nat.lt_succ_self _)); clear g10 t10 c1 c3 c4; have c1 := E10.out.get 1 rfl; have c3 := E10.out.get 3 rfl; have c4 := E10.out.get 4 rfl))
        refine (C3.out w10 B10.out).mono ?_; rintro e w11 ⟨rfl, b11⟩
        have E11 := Lib.hid (E10.out.below b11 E10.out.lt)
        have Q11 := Lib.hid (Q10.out.below b11 Q10.out.lt)
        have X11 := Lib.hid (X10.out.below b11 X10.out.lt)
        have B11 := Lib.hid (belT B10.out b11)
        have W11 := Lib.hid (own_stay W10.out b11 (Nat.le_refl _))
        clear b11 c1 c3 c4
        have c1 := E11.out.get 1 rfl; have c3 := E11.out.get 3 rfl; have c4 := E11.out.get 4 rfl
        go_wp2_with (first | (refine wpList_lit_rec rfl _ 84 _ rfl HU.out _ hJ.out kSize SZ rfl ?_; intro w12 g12 b12; have G12 := Lib.hid g12; have E12 := Lib.hid (E11.out.below b12 E11.out.lt); have Q12 := Lib.hid (Q11.out.below b12 Q11.out.lt); have X12 := Lib.hid (X11.out.below b12 X11.out.lt); have B12 := Lib.hid (belT B11.out b12); have W12 := Lib.hid (own_stay W11.out b12 (Nat.le_refl _)); clear g12 b12) | (at_builtin; refine wpList_append_rec rfl _ _ _ rfl (w3.heap.size + 1) _ i0 _ HU.out hI _ 1 [(kLink, t)] rfl W12.out w11.heap.size (kSize, SZ) rfl G12.out (by decide) (X12.out.lt) ?_; intro v13 w13 o13 b13 _; have W13 : Hid (w13.ownsRow (w3.heap.size + 1) 84 2 v13 2 (recCells [(kLink, t), (kSize, SZ)])) := o13; have E13 := Lib.hid (E12.out.below b13 (Nat.lt_succ_of_lt LB.out.1)); have Q13 := Lib.hid (Q12.out.below b13 (Nat.lt_succ_of_lt LB.out.2)); have X13 := Lib.hid (X12.out.below b13 (Nat.lt_succ_self _)); have B13 := Lib.hid (B12.out.trans (b13.mono (Nat.le_of_lt (Nat.lt_succ_of_lt LB.out.1)))); clear o13 b13 c1 c3 c4; have c1 := E13.out.get 1 rfl; have c3 := E13.out.get 3 rfl; have c4 := E13.out.get 4 rfl) | (refine wpList_load_obj rfl 63 6 HO.out _ rfl w3.heap.size rfl 63 (Ust.hdV T NM PF emp m 0) X13.out rfl ?_) | (refine wpList_store_obj rfl 63 _ _ rfl w1.heap.size rfl (Ust.hdV T NM PF emp m 0) Ust.hd0 rfl 63 Q13.out HO.out.2 rfl (hd_one _ _ _ _ _ _) ?_; intro w14 g14 t14; have Q14 := Lib.hid g14; have T14 := Lib.hid t14; clear g14 t14))
        have W14 := Lib.hid (own_turned2 W13.out T14.out (Nat.lt_succ_of_lt LB.out.2))
        exact bodyPost_ret (results_obj_two Tryz.results24 HO.out _ w1.heap.size rfl _ (Ust.hdV T NM PF emp m 0) Q14.out rfl) rfl (by rw [eLK.out, eS.out, eL.out]; exact .own W14.out (B13.out.trans (T14.out.below (Nat.le_of_lt N1.out))))
    | false =>
      obtain ⟨hn1, hn2⟩ := hN.out rfl
      subst hn1; subst hn2
      by_cases hs : s ≤ 8589934591
      · have eS : Hid (S' = s) := by show _ = _; rw [hS'.out, if_pos hs]
        have eL : Hid (L = [(kLink, t), (kPath, p)]) := by show _ = _; rw [hL.out]; simp [htn, hs]
        go_wp2_with (first | (refine wpList_lit_rec rfl _ 84 _ rfl HU.out _ hJ.out kPath p rfl ?_; intro w9 g9 b9; have G9 := Lib.hid g9; have E9 := Lib.hid (E8.out.below b9 E8.out.lt); have Q9 := Lib.hid (Q8.out.below b9 Q8.out.lt); have X9 := Lib.hid (X8.out.below b9 X8.out.lt); have B9 := Lib.hid (belT B8.out b9); have W9 := Lib.hid (own_stay W8.out b9 (Nat.le_refl _)); clear g9 b9) | (at_builtin; refine wpList_append_rec rfl _ _ _ rfl (w3.heap.size + 1) _ i0 _ HU.out hI _ 1 [(kLink, t)] rfl W9.out w8.heap.size (kPath, p) rfl G9.out (by decide) (X9.out.lt) ?_; intro v10 w10 o10 b10 _; have W10 : Hid (w10.ownsRow (w3.heap.size + 1) 84 2 v10 2 (recCells [(kLink, t), (kPath, p)])) := o10; have E10 := Lib.hid (E9.out.below b10 (Nat.lt_succ_of_lt LB.out.1)); have Q10 := Lib.hid (Q9.out.below b10 (Nat.lt_succ_of_lt LB.out.2)); have X10 := Lib.hid (X9.out.below b10 (Nat.lt_succ_self _)); have B10 := Lib.hid (B9.out.trans (b10.mono (Nat.le_of_lt (Nat.lt_succ_of_lt LB.out.1)))); clear o10 b10 c1 c3 c4; have c1 := E10.out.get 1 rfl; have c3 := E10.out.get 3 rfl; have c4 := E10.out.get 4 rfl) | (refine wpList_store_cell rfl 2 _ _ rfl w3.heap.size 5 rfl (.int .i64 s) rfl rfl S6.out 63 _ X10.out (by show 5 < 6; decide) ?_; intro w11 g11 t11; have X11 : Hid (ObjAt w11 w3.heap.size 63 (Ust.hdV T emp emp emp m s)) := g11; have E11 := Lib.hid (E10.out.turnB t11 (Nat.ne_of_lt LB.out.1)); have Q11 := Lib.hid (Q10.out.turnB t11 (Nat.ne_of_lt LB.out.2)); have B11 := Lib.hid (B10.out.trans (t11.below (Nat.le_of_lt LB.out.1))); have W11 := Lib.hid (own_turnB W10.out t11 (Nat.lt_succ_self _)); clear g11 t11 c1 c3 c4; have c1 := E11.out.get 1 rfl; have c3 := E11.out.get 3 rfl; have c4 := E11.out.get 4 rfl) | (refine wpList_load_obj rfl 63 6 HO.out _ rfl w3.heap.size rfl 63 (Ust.hdV T emp emp emp m s) X11.out rfl ?_) | (refine wpList_store_obj rfl 63 _ _ rfl w1.heap.size rfl (Ust.hdV T emp emp emp m s) Ust.hd0 rfl 63 Q11.out HO.out.2 rfl (hd_one _ _ _ _ _ _) ?_; intro w12 g12 t12; have Q12 := Lib.hid g12; have T12 := Lib.hid t12; clear g12 t12))
        have W12 := Lib.hid (own_turned2 W11.out T12.out (Nat.lt_succ_of_lt LB.out.2))
        exact bodyPost_ret (results_obj_two Tryz.results24 HO.out _ w1.heap.size rfl _ (Ust.hdV T emp emp emp m s) Q12.out rfl) rfl (by rw [eLK.out, eS.out, eL.out]; exact .own W12.out (B11.out.trans (T12.out.below (Nat.le_of_lt N1.out))))
      · have eS : Hid (S' = 0) := by show _ = _; rw [hS'.out, if_neg hs]
        have eL : Hid (L = [(kLink, t), (kPath, p), (kSize, SZ)]) := by show _ = _; rw [hL.out]; simp [htn, hs]
        go_wp2_with (first | (refine wpList_lit_rec rfl _ 84 _ rfl HU.out _ hJ.out kPath p rfl ?_; intro w9 g9 b9; have G9 := Lib.hid g9; have E9 := Lib.hid (E8.out.below b9 E8.out.lt); have Q9 := Lib.hid (Q8.out.below b9 Q8.out.lt); have X9 := Lib.hid (X8.out.below b9 X8.out.lt); have B9 := Lib.hid (belT B8.out b9); have W9 := Lib.hid (own_stay W8.out b9 (Nat.le_refl _)); clear g9 b9) | (at_builtin; refine wpList_append_rec rfl _ _ _ rfl (w3.heap.size + 1) _ i0 _ HU.out hI _ 1 [(kLink, t)] rfl W9.out w8.heap.size (kPath, p) rfl G9.out (by decide) (X9.out.lt) ?_; intro v10 w10 o10 b10 _; have W10 : Hid (w10.ownsRow (w3.heap.size + 1) 84 2 v10 2 (recCells [(kLink, t), (kPath, p)])) := o10; have E10 := Lib.hid (E9.out.below b10 (Nat.lt_succ_of_lt LB.out.1)); have Q10 := Lib.hid (Q9.out.below b10 (Nat.lt_succ_of_lt LB.out.2)); have X10 := Lib.hid (X9.out.below b10 (Nat.lt_succ_self _)); have B10 := Lib.hid (B9.out.trans (b10.mono (Nat.le_of_lt (Nat.lt_succ_of_lt LB.out.1)))); clear o10 b10 c1 c3 c4; have c1 := E10.out.get 1 rfl; have c3 := E10.out.get 3 rfl; have c4 := E10.out.get 4 rfl))
        refine (C3.out w10 B10.out).mono ?_; rintro e w11 ⟨rfl, b11⟩
        have E11 := Lib.hid (E10.out.below b11 E10.out.lt)
        have Q11 := Lib.hid (Q10.out.below b11 Q10.out.lt)
        have X11 := Lib.hid (X10.out.below b11 X10.out.lt)
        have B11 := Lib.hid (belT B10.out b11)
        have W11 := Lib.hid (own_stay W10.out b11 (Nat.le_refl _))
        clear b11 c1 c3 c4
        have c1 := E11.out.get 1 rfl; have c3 := E11.out.get 3 rfl; have c4 := E11.out.get 4 rfl
        go_wp2_with (first | (refine wpList_lit_rec rfl _ 84 _ rfl HU.out _ hJ.out kSize SZ rfl ?_; intro w12 g12 b12; have G12 := Lib.hid g12; have E12 := Lib.hid (E11.out.below b12 E11.out.lt); have Q12 := Lib.hid (Q11.out.below b12 Q11.out.lt); have X12 := Lib.hid (X11.out.below b12 X11.out.lt); have B12 := Lib.hid (belT B11.out b12); have W12 := Lib.hid (own_stay W11.out b12 (Nat.le_refl _)); clear g12 b12) | (at_builtin; refine wpList_append_rec rfl _ _ _ rfl (w3.heap.size + 1) _ i0 _ HU.out hI _ 2 [(kLink, t), (kPath, p)] rfl W12.out w11.heap.size (kSize, SZ) rfl G12.out (by decide) (X12.out.lt) ?_; intro v13 w13 o13 b13 _; have W13 : Hid (w13.ownsRow (w3.heap.size + 1) 84 2 v13 3 (recCells [(kLink, t), (kPath, p), (kSize, SZ)])) := o13; have E13 := Lib.hid (E12.out.below b13 (Nat.lt_succ_of_lt LB.out.1)); have Q13 := Lib.hid (Q12.out.below b13 (Nat.lt_succ_of_lt LB.out.2)); have X13 := Lib.hid (X12.out.below b13 (Nat.lt_succ_self _)); have B13 := Lib.hid (B12.out.trans (b13.mono (Nat.le_of_lt (Nat.lt_succ_of_lt LB.out.1)))); clear o13 b13 c1 c3 c4; have c1 := E13.out.get 1 rfl; have c3 := E13.out.get 3 rfl; have c4 := E13.out.get 4 rfl) | (refine wpList_load_obj rfl 63 6 HO.out _ rfl w3.heap.size rfl 63 (Ust.hdV T emp emp emp m 0) X13.out rfl ?_) | (refine wpList_store_obj rfl 63 _ _ rfl w1.heap.size rfl (Ust.hdV T emp emp emp m 0) Ust.hd0 rfl 63 Q13.out HO.out.2 rfl (hd_one _ _ _ _ _ _) ?_; intro w14 g14 t14; have Q14 := Lib.hid g14; have T14 := Lib.hid t14; clear g14 t14))
        have W14 := Lib.hid (own_turned2 W13.out T14.out (Nat.lt_succ_of_lt LB.out.2))
        exact bodyPost_ret (results_obj_two Tryz.results24 HO.out _ w1.heap.size rfl _ (Ust.hdV T emp emp emp m 0) Q14.out rfl) rfl (by rw [eLK.out, eS.out, eL.out]; exact .own W14.out (B13.out.trans (T14.out.below (Nat.le_of_lt N1.out))))
end Go.Proofs.YtmbimnnacjbdfaaGreatDoor.Fit
