/-
  Layer 10: the program's Plan: the target in a record, the path in a record, the size in a record.
-/
import Derived.Test.YtbbaleambgaanaaGreatDoorPk09
import Derived.Test.YtbbaleambgaanaaGreatDoorPk13
import Derived.Test.YtbbaleambgaanaaGreatDoorPk07
import Derived.Test.YtbbaleambgaanaaGreatDoorPk02
import Derived.Test.YtbbaleambgaanaaGreatDoorRows
import Derived.Test.YtbbaleambgaanaaGreatDoorPk01
import Derived.Deep.DeepMust
namespace Go.Proofs.YtbbaleambgaanaaGreatDoor.Fit
open Go.RowKit Pxr Pnm

set_option maxHeartbeats 8000000 in
set_option maxRecDepth 100000 in
theorem ppl_rrr (k : Int) (p : ByteArray) (m : Int) (t : ByteArray) (s : Int) (w : World) (T : Int) (PF NM : ByteArray) (SZ : ByteArray) (k0 : 0 ≤ k) (k4 : k < 4)
    (KG : Hid (∀ w', Below w.heap.size w w' → w'.cell? ⟨0, k.toNat, none⟩ = some (.int .u8 T)))
    (C1 : Hid (∀ w', Below w.heap.size w w' → Calls Tryz.prog 21 #[.agg (enV k p m t s).toArray] w' fun e w'' => e = .returned (.int .i64 0) ∧ Below w'.heap.size w' w''))
    (C2 : Hid (∀ w', Calls Tryz.prog 46 #[.string p] w' fun e w'' => e = .returned (.tuple #[.string PF, .string NM, .bool false]) ∧ Below w'.heap.size w' w''))
    (C3 : Hid (∀ w', Below w.heap.size w w' → Calls Tryz.prog 47 #[.int .i64 s, .int .i64 10] w' fun e w'' => e = .returned (.string SZ) ∧ Below w'.heap.size w' w''))
    (ht : ¬ (t.size : Int) ≤ 100) (hs : ¬ s ≤ 8589934591) :
    Calls Tryz.prog 22 #[.agg (enV k p m t s).toArray] w (RetPl T emp emp emp m 0 [(kLink, t), (kPath, p), (kSize, SZ)] 0 w) := by
  have HO := Lib.hid hdTp; have EO := Lib.hid enT
  have HZ := Lib.hid zHp
  have S1 := Lib.hid sStr; have S6 := Lib.hid sI64
  obtain ⟨i0, hI⟩ := recI
  have hJ := Lib.hid recJ
  have HU := Lib.hid Tryz.underlying57
  go_enter Tryz.func22, Tryz.ntmps22
  go_wp2_with (first | (refine wpList_box_obj rfl 23 _ rfl (enV k p m t s) rfl ?_; intro w1 g1 b1; have H1 := Lib.hid g1; have B1 := Lib.hid b1; clear g1 b1) | (refine wpList_alloc_obj rfl 56 rfl Ust.hd0 HZ.out ?_; intro w2 g2 b2; have R2 := Lib.hid g2; have E2 := Lib.hid (H1.out.below b2 H1.out.lt); have B2 := Lib.hid (belT B1.out b2); have c0 := E2.out.get 0 rfl; have c1 := E2.out.get 1 rfl; have c2 := E2.out.get 2 rfl; have c3 := E2.out.get 3 rfl; have c4 := E2.out.get 4 rfl; clear g2 b2))
  refine (C1.out w2 B2.out).mono ?_; rintro e w3 ⟨rfl, b3⟩
  have E3 := Lib.hid (E2.out.below b3 E2.out.lt)
  have R3 := Lib.hid (R2.out.below b3 R2.out.lt)
  have B3 := Lib.hid (belT B2.out b3)
  have N1 : Hid (w.heap.size < w1.heap.size) := H1.out.lt
  have N2 : Hid (w1.heap.size < w3.heap.size) := R3.out.lt
  clear b3 c0 c1 c2 c3 c4
  have KS : Hid (∀ w', Below w3.heap.size w3 w' → (fun w' : World => w'.cell? ⟨w.heap.size, 0, none⟩ = some (.int .i64 k) ∧ w'.cell? ⟨w.heap.size, 2, none⟩ = some (.int .i64 m) ∧ w'.cell? ⟨0, k.toNat, none⟩ = some (.int .u8 T)) w') := fun w' hb => ⟨(E3.out.below hb E3.out.lt).get 0 rfl, (E3.out.below hb E3.out.lt).get 2 rfl, KG.out w' (belT B3.out hb)⟩
  go_wp2_with fail
  refine wp_region_held_drew (S := (fun w' : World => w'.cell? ⟨w.heap.size, 0, none⟩ = some (.int .i64 k) ∧ w'.cell? ⟨w.heap.size, 2, none⟩ = some (.int .i64 m) ∧ w'.cell? ⟨0, k.toNat, none⟩ = some (.int .u8 T))) (by kernel_rfl) (KS.out _ (Below.refl _ _).drew) (fun hHeld => ?_)
  refine wpAnyH_take (i := 0) (oi := { dst := some 17, op := Go.Op.fieldAddr 23 (Go.Operand.tmp 1) 0, type := 0, pos := "fit.go:45", after := #[], guard := none }) (v := ?_) rfl (by kernel_rfl) (by kernel_rfl) (by kernel_rfl) (fun _ _ _ h => h) (Or.inl ⟨by rfl, ?_⟩) (by assumption) ?_
  rotate_left 1
  focus ((intro wS hSw; (try dsimp only at hSw); go_simp) <;> (try with_reducible rfl))
  simp only [Act.put, List.setIfInBounds_toArray, List.set_cons_zero, List.set_cons_succ]
  refine wpAnyH_take (i := 1) (oi := { dst := some 18, op := Go.Op.load 3 (Go.Operand.tmp 17), type := 3, pos := "fit.go:45", after := #[{ on := 0, ground := Go.Ground.data }], guard := none }) (v := ?_) rfl (by kernel_rfl) (by kernel_rfl) (by kernel_rfl) (fun _ _ _ h => h) (Or.inl ⟨by rfl, ?_⟩) (by assumption) ?_
  rotate_left 1
  focus ((intro wS hSw; (try dsimp only at hSw); go_simp) <;> (try with_reducible rfl))
  simp only [Act.put, List.setIfInBounds_toArray, List.set_cons_zero, List.set_cons_succ]
  refine wpAnyH_take (i := 2) (oi := { dst := some 19, op := Go.Op.indexAddr 105 (Go.Operand.global 0) (Go.Operand.tmp 18), type := 0, pos := "fit.go:45", after := #[{ on := 1, ground := Go.Ground.data }], guard := none }) (v := ?_) rfl (by kernel_rfl) (by kernel_rfl) (by kernel_rfl) (fun _ _ _ h => h) (Or.inl ⟨by rfl, ?_⟩) (by assumption) ?_
  rotate_left 1
  focus ((intro wS hSw; (try dsimp only at hSw); go_simp) <;> (try with_reducible rfl))
  simp only [Act.put, List.setIfInBounds_toArray, List.set_cons_zero, List.set_cons_succ]
  refine wpAnyH_take (i := 3) (oi := { dst := some 20, op := Go.Op.load 5 (Go.Operand.tmp 19), type := 5, pos := "fit.go:45", after := #[{ on := 2, ground := Go.Ground.data }], guard := none }) (v := ?_) rfl (by kernel_rfl) (by kernel_rfl) (by kernel_rfl) (fun _ _ _ h => h) (Or.inl ⟨by rfl, ?_⟩) (by assumption) ?_
  rotate_left 1
  focus ((intro wS hSw; (try dsimp only at hSw); go_simp) <;> (try with_reducible rfl))
  simp only [Act.put, List.setIfInBounds_toArray, List.set_cons_zero, List.set_cons_succ]
  refine wpAnyH_take (i := 4) (oi := { dst := some 21, op := Go.Op.fieldAddr 23 (Go.Operand.tmp 1) 2, type := 0, pos := "fit.go:45", after := #[], guard := none }) (v := ?_) rfl (by kernel_rfl) (by kernel_rfl) (by kernel_rfl) (fun _ _ _ h => h) (Or.inl ⟨by rfl, ?_⟩) (by assumption) ?_
  rotate_left 1
  focus ((intro wS hSw; (try dsimp only at hSw); go_simp) <;> (try with_reducible rfl))
  simp only [Act.put, List.setIfInBounds_toArray, List.set_cons_zero, List.set_cons_succ]
  refine wpAnyH_take (i := 5) (oi := { dst := some 22, op := Go.Op.load 3 (Go.Operand.tmp 21), type := 3, pos := "fit.go:45", after := #[{ on := 4, ground := Go.Ground.data }], guard := none }) (v := ?_) rfl (by kernel_rfl) (by kernel_rfl) (by kernel_rfl) (fun _ _ _ h => h) (Or.inl ⟨by rfl, ?_⟩) (by assumption) ?_
  rotate_left 1
  focus ((intro wS hSw; (try dsimp only at hSw); go_simp) <;> (try with_reducible rfl))
  simp only [Act.put, List.setIfInBounds_toArray, List.set_cons_zero, List.set_cons_succ]
  refine wpAnyH_take (i := 6) (oi := { dst := some 23, op := Go.Op.build 56 #[(0, Go.Operand.tmp 20), (4, Go.Operand.tmp 22)], type := 56, pos := "fit.go:45", after := #[{ on := 3, ground := Go.Ground.data }, { on := 5, ground := Go.Ground.data }], guard := none }) (v := ?_) rfl (by kernel_rfl) (by kernel_rfl) (by kernel_rfl) (fun _ _ _ h => h) (Or.inl ⟨by rfl, ?_⟩) (by assumption) ?_
  rotate_left 1
  focus ((intro wS hSw; (try dsimp only at hSw); go_simp) <;> (try with_reducible rfl))
  simp only [Act.put, List.setIfInBounds_toArray, List.set_cons_zero, List.set_cons_succ]
  refine wpAnyH_ready (rs := [7]) (by kernel_rfl) (by simp) ?_
  refine AllReadyH.cons (o := { dst := some 6, op := Go.Op.alloc 56, type := 0, pos := "fit.go:45", after := #[], guard := none }) rfl (fun K hK => ?_) AllReadyH.nil
  refine step_alloc_obj rfl 56 rfl Ust.hd0 HZ.out ?_
  intro w4 g4 b4
  have R4 := Lib.hid g4; have A4 := Lib.hid b4; clear g4 b4
  have D4 : Hid (Below w3.heap.size w3 w4) := (Below.refl _ _).drew.trans A4.out
  refine hK.out _ _ (KS.out _ D4.out) (fun hHeld => ?_)
  clear hK K
  (try simp only [Act.put, List.setIfInBounds_toArray, List.set_cons_zero, List.set_cons_succ])
  refine wpAnyH_ready (rs := [8]) (by kernel_rfl) (by simp) ?_
  refine AllReadyH.cons (o := { dst := none, op := Go.Op.store 56 (Go.Operand.tmp 6) (Go.Operand.tmp 23), type := 0, pos := "fit.go:45", after := #[{ on := 7, ground := Go.Ground.data }, { on := 6, ground := Go.Ground.data }, { on := 0, ground := Go.Ground.phase }, { on := 1, ground := Go.Ground.phase }, { on := 2, ground := Go.Ground.phase }, { on := 3, ground := Go.Ground.phase }, { on := 4, ground := Go.Ground.phase }, { on := 5, ground := Go.Ground.phase }, { on := 6, ground := Go.Ground.phase }, { on := 7, ground := Go.Ground.phase }], guard := none }) rfl (fun K hK => ?_) AllReadyH.nil
  refine step_store_obj rfl 56 (.tmp 6) (.tmp 23) rfl w3.drew.heap.size rfl (Ust.hdV T emp emp emp m 0) Ust.hd0 rfl 56 R4.out HO.out.2 rfl (hd_one _ _ _ _ _ _) ?_
  intro w5 g5 t5
  have R5 := Lib.hid g5; have T5 := Lib.hid t5; clear g5 t5
  refine hK.out _ _ (KS.out _ (D4.out.trans (T5.out.below (Nat.le_refl _)))) (fun hHeld => ?_)
  clear hK K
  (try simp only [Act.put])
  refine wpAnyH_done (by kernel_rfl) ?_ _
  have D5 : Hid (Below w3.heap.size w3 w5) := D4.out.trans (T5.out.below (Nat.le_refl _))
  have N3 : Hid (w3.heap.size ≤ w3.heap.size) := Nat.le_refl _
  have X5 : Hid (ObjAt w5 w3.heap.size 56 (Ust.hdV T emp emp emp m 0)) := R5.out
  have E5 := Lib.hid (E3.out.below D5.out E3.out.lt)
  have Q5 := Lib.hid (R3.out.below D5.out R3.out.lt)
  have B5 := Lib.hid (belT B3.out D5.out)
  have LB : Hid (w.heap.size < w3.heap.size ∧ w1.heap.size < w3.heap.size) := ⟨by have := N1.out; have := N2.out; have := N3.out; omega, by have := N2.out; have := N3.out; omega⟩
  have c1 := E5.out.get 1 rfl; have c3 := E5.out.get 3 rfl; have c4 := E5.out.get 4 rfl
  go_wp2_with (first | (refine wpList_lit_rec rfl _ 107 _ rfl HU.out _ hJ.out kLink t rfl ?_; intro w6 g6 b6; have G6 := Lib.hid g6; have E6 := Lib.hid (E5.out.below b6 E5.out.lt); have Q6 := Lib.hid (Q5.out.below b6 Q5.out.lt); have X6 := Lib.hid (X5.out.below b6 X5.out.lt); have B6 := Lib.hid (belT B5.out b6); have W6 : Hid (w6.ownsRow (w3.heap.size + 1) 107 2 (.slice none 0 0) 0 (recCells [])) := ⟨rfl, .inl ⟨rfl, rfl⟩⟩; clear g6 b6) | (at_builtin; refine wpList_append_rec rfl _ _ _ rfl (w3.heap.size + 1) _ i0 _ HU.out hI _ 0 [] rfl W6.out w5.heap.size (kLink, t) rfl G6.out (by decide) (X6.out.lt) ?_; intro v7 w7 o7 b7 _; have W7 : Hid (w7.ownsRow (w3.heap.size + 1) 107 2 v7 1 (recCells [(kLink, t)])) := o7; have E7 := Lib.hid (E6.out.below b7 (Nat.lt_succ_of_lt LB.out.1)); have Q7 := Lib.hid (Q6.out.below b7 (Nat.lt_succ_of_lt LB.out.2)); have X7 := Lib.hid (X6.out.below b7 (Nat.lt_succ_self _)); have B7 := Lib.hid (B6.out.trans (b7.mono (Nat.le_of_lt (Nat.lt_succ_of_lt LB.out.1)))); clear o7 b7 c1 c3 c4; have c1 := E7.out.get 1 rfl; have c3 := E7.out.get 3 rfl; have c4 := E7.out.get 4 rfl))
  refine (C2.out w7).mono ?_; rintro e w8 ⟨rfl, b8⟩
  have E8 := Lib.hid (E7.out.below b8 E7.out.lt)
  have Q8 := Lib.hid (Q7.out.below b8 Q7.out.lt)
  have X8 := Lib.hid (X7.out.below b8 X7.out.lt)
  have B8 := Lib.hid (belT B7.out b8)
  have W8 := Lib.hid (own_stay W7.out b8 (Nat.le_refl _))
  clear b8 c1 c3 c4
  have c1 := E8.out.get 1 rfl; have c3 := E8.out.get 3 rfl; have c4 := E8.out.get 4 rfl
  go_wp2_with (first | (refine wpList_lit_rec rfl _ 107 _ rfl HU.out _ hJ.out kPath p rfl ?_; intro w9 g9 b9; have G9 := Lib.hid g9; have E9 := Lib.hid (E8.out.below b9 E8.out.lt); have Q9 := Lib.hid (Q8.out.below b9 Q8.out.lt); have X9 := Lib.hid (X8.out.below b9 X8.out.lt); have B9 := Lib.hid (belT B8.out b9); have W9 := Lib.hid (own_stay W8.out b9 (Nat.le_refl _)); clear g9 b9) | (at_builtin; refine wpList_append_rec rfl _ _ _ rfl (w3.heap.size + 1) _ i0 _ HU.out hI _ 1 [(kLink, t)] rfl W9.out w8.heap.size (kPath, p) rfl G9.out (by decide) (X9.out.lt) ?_; intro v10 w10 o10 b10 _; have W10 : Hid (w10.ownsRow (w3.heap.size + 1) 107 2 v10 2 (recCells [(kLink, t), (kPath, p)])) := o10; have E10 := Lib.hid (E9.out.below b10 (Nat.lt_succ_of_lt LB.out.1)); have Q10 := Lib.hid (Q9.out.below b10 (Nat.lt_succ_of_lt LB.out.2)); have X10 := Lib.hid (X9.out.below b10 (Nat.lt_succ_self _)); have B10 := Lib.hid (B9.out.trans (b10.mono (Nat.le_of_lt (Nat.lt_succ_of_lt LB.out.1)))); clear o10 b10 c1 c3 c4; have c1 := E10.out.get 1 rfl; have c3 := E10.out.get 3 rfl; have c4 := E10.out.get 4 rfl))
  refine (C3.out w10 B10.out).mono ?_; rintro e w11 ⟨rfl, b11⟩
  have E11 := Lib.hid (E10.out.below b11 E10.out.lt)
  have Q11 := Lib.hid (Q10.out.below b11 Q10.out.lt)
  have X11 := Lib.hid (X10.out.below b11 X10.out.lt)
  have B11 := Lib.hid (belT B10.out b11)
  have W11 := Lib.hid (own_stay W10.out b11 (Nat.le_refl _))
  clear b11 c1 c3 c4
  have c1 := E11.out.get 1 rfl; have c3 := E11.out.get 3 rfl; have c4 := E11.out.get 4 rfl
  go_wp2_with (first | (refine wpList_lit_rec rfl _ 107 _ rfl HU.out _ hJ.out kSize SZ rfl ?_; intro w12 g12 b12; have G12 := Lib.hid g12; have E12 := Lib.hid (E11.out.below b12 E11.out.lt); have Q12 := Lib.hid (Q11.out.below b12 Q11.out.lt); have X12 := Lib.hid (X11.out.below b12 X11.out.lt); have B12 := Lib.hid (belT B11.out b12); have W12 := Lib.hid (own_stay W11.out b12 (Nat.le_refl _)); clear g12 b12) | (at_builtin; refine wpList_append_rec rfl _ _ _ rfl (w3.heap.size + 1) _ i0 _ HU.out hI _ 2 [(kLink, t), (kPath, p)] rfl W12.out w11.heap.size (kSize, SZ) rfl G12.out (by decide) (X12.out.lt) ?_; intro v13 w13 o13 b13 _; have W13 : Hid (w13.ownsRow (w3.heap.size + 1) 107 2 v13 3 (recCells [(kLink, t), (kPath, p), (kSize, SZ)])) := o13; have E13 := Lib.hid (E12.out.below b13 (Nat.lt_succ_of_lt LB.out.1)); have Q13 := Lib.hid (Q12.out.below b13 (Nat.lt_succ_of_lt LB.out.2)); have X13 := Lib.hid (X12.out.below b13 (Nat.lt_succ_self _)); have B13 := Lib.hid (B12.out.trans (b13.mono (Nat.le_of_lt (Nat.lt_succ_of_lt LB.out.1)))); clear o13 b13 c1 c3 c4; have c1 := E13.out.get 1 rfl; have c3 := E13.out.get 3 rfl; have c4 := E13.out.get 4 rfl) | (refine wpList_load_obj rfl 56 6 HO.out _ rfl w3.heap.size rfl 56 (Ust.hdV T emp emp emp m 0) X13.out rfl ?_) | (refine wpList_store_obj rfl 56 _ _ rfl w1.heap.size rfl (Ust.hdV T emp emp emp m 0) Ust.hd0 rfl 56 Q13.out HO.out.2 rfl (hd_one _ _ _ _ _ _) ?_; intro w14 g14 t14; have Q14 := Lib.hid g14; have T14 := Lib.hid t14; clear g14 t14))
  have W14 := Lib.hid (own_turned2 W13.out T14.out (Nat.lt_succ_of_lt LB.out.2))
  exact bodyPost_ret (results_obj_two Tryz.results22 HO.out _ w1.heap.size rfl _ (Ust.hdV T emp emp emp m 0) Q14.out rfl) rfl (.own W14.out (B13.out.trans (T14.out.below (Nat.le_of_lt N1.out))))
end Go.Proofs.YtbbaleambgaanaaGreatDoor.Fit
/-
  Layer 10: the package-level variables that the calls read: besides those of layer 9 the header types, and the two errors of strconv.
-/
namespace Go.Proofs.YtbbaleambgaanaaGreatDoor.Fit
open Go.RowKit Pxr

/-- what Check and Plan read -/
structure FVars (w : World) : Prop where
  v : Vars w
  tys : Lib.TabIs Tryz.prog w "paxtar/fit.types" .u8 [53, 48, 50, 49]
/-- what Merge reads -/
structure MVars (w : World) : Prop where
  f : FVars w
  syn : ∃ tp p, w.var? Tryz.prog "strconv.ErrSyntax" = some #[.iface tp p]
  rng : ∃ tp p, w.var? Tryz.prog "strconv.ErrRange" = some #[.iface tp p]

theorem var_below {w w' : World} {B g : Nat} {n : String} {cs : Array Value} (hg : Tryz.prog.globalNamed n = some g) (h : w.var? Tryz.prog n = some cs) (hb : Below B w w') (hB : w.heap.size ≤ B) : w'.var? Tryz.prog n = some cs := by
  unfold World.var? at h ⊢
  rw [hg] at h ⊢
  have hl : g < w.heap.size := by
    rcases Nat.lt_or_ge g w.heap.size with h' | h'
    · exact h'
    · simp [Array.getElem?_eq_none h'] at h
  rw [← h]
  simp only [Option.bind_some]
  rw [hb.block g (by omega)]
theorem gTys : Tryz.prog.globalNamed "paxtar/fit.types" = some 0 := by kernel_rfl
theorem gSyn : Tryz.prog.globalNamed "strconv.ErrSyntax" = some 6 := by kernel_rfl
theorem gRng : Tryz.prog.globalNamed "strconv.ErrRange" = some 7 := by kernel_rfl
theorem FVars.below {w w' : World} {B : Nat} (h : FVars w) (hb : Below B w w') (hB : w.heap.size ≤ B) : FVars w' :=
  ⟨h.v.below hb hB, var_below gTys h.tys hb hB⟩
theorem FVars.go {w w' : World} (h : FVars w) (hb : Below w.heap.size w w') : FVars w' := h.below hb (Nat.le_refl _)
theorem MVars.below {w w' : World} {B : Nat} (h : MVars w) (hb : Below B w w') (hB : w.heap.size ≤ B) : MVars w' := by
  obtain ⟨f, ⟨a, b, c⟩, ⟨d, e, g⟩⟩ := h
  exact ⟨f.below hb hB, ⟨a, b, var_below gSyn c hb hB⟩, ⟨d, e, var_below gRng g hb hB⟩⟩
theorem MVars.go {w w' : World} (h : MVars w) (hb : Below w.heap.size w w') : MVars w' := h.below hb (Nat.le_refl _)
theorem FVars.ty {w : World} (h : FVars w) {k : Int} (h0 : 0 ≤ k) (h4 : k < 4) : w.cell? ⟨0, k.toNat, none⟩ = some (.int .u8 (tyZ k)) := by
  have hc := h.tys.cell gTys
  rcases (show k = 0 ∨ k = 1 ∨ k = 2 ∨ k = 3 by omega) with rfl | rfl | rfl | rfl
  · exact hc 0 (by decide)
  · exact hc 1 (by decide)
  · exact hc 2 (by decide)
  · exact hc 3 (by decide)

/-! from what a row lists -/
theorem keys_of_head {W : World} {rest : List (String × DataW Unit)} (h2 : laidMet Tryz.prog (("paxtar/paxrec.keys", Rows.laid_paxtar_paxrec_keys) :: rest) W) :
    W.cell? ⟨1, 0, none⟩ = some (.string kLink) ∧ W.cell? ⟨1, 1, none⟩ = some (.string kPath) ∧ W.cell? ⟨1, 2, none⟩ = some (.string kSize) := by
  obtain ⟨ps, ⟨g', t', cs, fuel, p, q, hg', ht', hvar, hd, _, _⟩, _⟩ := h2
  obtain rfl := Option.some.inj ((by kernel_rfl : Tryz.prog.globalNamed "paxtar/paxrec.keys" = some 1).symm.trans hg')
  obtain rfl := Option.some.inj ((by kernel_rfl : (Tryz.prog.globals[1]?).map (·.type) = some 231).symm.trans ht')
  have hcs := cells_of_strs (zs := [[108, 105, 110, 107, 112, 97, 116, 104], [112, 97, 116, 104], [115, 105, 122, 101]]) Tryz.underlying231 Tryz.underlying9 (by kernel_rfl) (by kernel_rfl) hd
  have hcells := fun i => World.var?_cell (by kernel_rfl : Tryz.prog.globalNamed "paxtar/paxrec.keys" = some 1) hvar i
  have hc : ∀ i, cs[i]? = cs.toList[i]? := fun i => Array.getElem?_toList.symm
  refine ⟨?_, ?_, ?_⟩
  · rw [hcells, hc, hcs]; rfl
  · rw [hcells, hc, hcs]; rfl
  · rw [hcells, hc, hcs]; rfl
theorem tab_of_head {W : World} {rest : List (String × DataW Unit)} (h : laidMet Tryz.prog (("internal/strconv.uint64pow10", Rows.laid_internal_strconv_uint64pow10) :: rest) W) : Lib.TabIs Tryz.prog W "internal/strconv.uint64pow10" .u64 Lib.pow10Tab := by
  have e : (Rows.laid_internal_strconv_uint64pow10 : DataW Unit) = Lib.tabData .u64 Lib.pow10Tab := by kernel_rfl
  rw [e] at h
  exact Lib.tabIs_of_head (P := Tryz.prog) (by kernel_rfl : Tryz.prog.globalNamed "internal/strconv.uint64pow10" = some 2) (by kernel_rfl : (Tryz.prog.globals[2]?).map (·.type) = some 236) Tryz.underlying236 Tryz.underlying174 (by kernel_rfl) (by kernel_rfl) h
theorem tys_of_head {W : World} {rest : List (String × DataW Unit)} (h : laidMet Tryz.prog (("paxtar/fit.types", Rows.laid_paxtar_fit_types) :: rest) W) : Lib.TabIs Tryz.prog W "paxtar/fit.types" .u8 [53, 48, 50, 49] := by
  have e : (Rows.laid_paxtar_fit_types : DataW Unit) = Lib.tabData .u8 [53, 48, 50, 49] := by kernel_rfl
  rw [e] at h
  exact Lib.tabIs_of_head (P := Tryz.prog) gTys (by kernel_rfl : (Tryz.prog.globals[0]?).map (·.type) = some 105) Tryz.underlying105 Tryz.underlying5 (by kernel_rfl) (by kernel_rfl) h
/-- the shorter list -/
theorem fvars_of {W : World} {a b : String × DataW Unit} (h : laidMetH Tryz.prog [a, b, ("internal/strconv.uint64pow10", Rows.laid_internal_strconv_uint64pow10), ("paxtar/paxrec.keys", Rows.laid_paxtar_paxrec_keys), ("paxtar/fit.types", Rows.laid_paxtar_fit_types)] W)
    (hp : ([a, b, ("internal/strconv.uint64pow10", Rows.laid_internal_strconv_uint64pow10), ("paxtar/paxrec.keys", Rows.laid_paxtar_paxrec_keys), ("paxtar/fit.types", Rows.laid_paxtar_fit_types)].all fun x => x.2.handleName?.isNone) = true) : FVars W := by
  rw [MakeChecks.laidMetH_plain _ _ _ hp] at h
  have h1 := h.tail.tail
  obtain ⟨k0, k1, k2⟩ := keys_of_head h1.tail
  exact ⟨⟨tab_of_head h1, k0, k1, k2⟩, tys_of_head h1.tail.tail⟩
theorem star : "*" ++ "errors.errorString" = "*errors.errorString" := by decide
theorem rowE (u : TypeId) (h : Tryz.prog.typeName? 3 u = some "*errors.errorString") : u = 271 :=
  typeName_ptr_named (nm := "errors.errorString") (by rw [star]; kernel_rfl) (by kernel_rfl) (by decide) u (by rw [star]; exact h)
/-- the longer list -/
theorem mvars_of {W : World} {a b : String × DataW Unit} (h : laidMetH Tryz.prog [a, b, ("internal/strconv.uint64pow10", Rows.laid_internal_strconv_uint64pow10), ("strconv.ErrRange", Rows.laid_strconv_ErrRange), ("strconv.ErrSyntax", Rows.laid_strconv_ErrSyntax), ("paxtar/paxrec.keys", Rows.laid_paxtar_paxrec_keys), ("paxtar/fit.types", Rows.laid_paxtar_fit_types)] W)
    (hp : ([a, b, ("internal/strconv.uint64pow10", Rows.laid_internal_strconv_uint64pow10), ("strconv.ErrRange", Rows.laid_strconv_ErrRange), ("strconv.ErrSyntax", Rows.laid_strconv_ErrSyntax), ("paxtar/paxrec.keys", Rows.laid_paxtar_paxrec_keys), ("paxtar/fit.types", Rows.laid_paxtar_fit_types)].all fun x => x.2.handleName?.isNone) = true) : MVars W := by
  rw [MakeChecks.laidMetH_plain _ _ _ hp] at h
  have h1 := h.tail.tail
  have h2 := h1.tail
  have h3 := h2.tail
  have h4 := h3.tail
  obtain ⟨k0, k1, k2⟩ := keys_of_head h4
  obtain ⟨a0, s0, hr, -, -, -⟩ := laid_sentinel h2 gRng (by kernel_rfl : (Tryz.prog.globals[7]?).map (·.type) = some 120) Tryz.underlying120 rowE Tryz.underlying271 Tryz.underlying273 rfl rfl Tryz.underlying9 (by kernel_rfl) (by kernel_rfl)
  obtain ⟨a1, s1, hs, -, -, -⟩ := laid_sentinel h3 gSyn (by kernel_rfl : (Tryz.prog.globals[6]?).map (·.type) = some 120) Tryz.underlying120 rowE Tryz.underlying271 Tryz.underlying273 rfl rfl Tryz.underlying9 (by kernel_rfl) (by kernel_rfl)
  exact ⟨⟨⟨tab_of_head h1, k0, k1, k2⟩, tys_of_head h4.tail⟩, ⟨_, _, hs⟩, ⟨_, _, hr⟩⟩
end Go.Proofs.YtbbaleambgaanaaGreatDoor.Fit
/-
  Layer 8: the reference's Join; strings as numbers.
-/
namespace Go.Proofs.YtbbaleambgaanaaGreatDoor.Pnm
open Go.RowKit

theorem wrapP {z : Int} (h1 : 0 ≤ z) (h2 : z ≤ 9223372036854775807) : IntKind.i64.wrap z = z := by
  have hb : IntKind.i64.bits = 64 := rfl
  have hs : IntKind.i64.signed = true := rfl
  unfold IntKind.wrap
  simp only [hb, hs, Bool.true_and]
  have e : (2 : Int) ^ 64 = 18446744073709551616 := by decide
  have e' : (2 : Int) ^ (64 - 1) = 9223372036854775808 := by decide
  rw [e, e', Int.emod_eq_of_lt h1 (by omega), if_neg (by simp; omega)]
theorem bytes_neq {s t : ByteArray} (h : ¬ s = t) : (s.toList == t.toList) = false := by
  rw [beq_eq_false_iff_ne]
  exact fun e => h (by
    apply ByteArray.ext
    apply Array.ext'
    rw [ByteArray.toList_eq, ByteArray.toList_eq] at e
    exact e)
theorem empty_no {s : ByteArray} (h : ¬ s = { data := #[] }) : s.toList.isEmpty = false := by
  have h1 := bytes_neq h
  have e : ({ data := #[] } : ByteArray).toList = [] := by rw [ByteArray.toList_eq]
  rw [e] at h1
  cases hl : s.toList with
  | nil => rw [hl] at h1; simp at h1
  | cons x xs => rfl
theorem nums_cat (s t : ByteArray) : numsOf (s ++ t) = numsOf s ++ numsOf t := by
  unfold numsOf
  rw [ByteArray.data_append, Array.toList_append, List.map_append]
theorem num_at (s : ByteArray) (j : Nat) (h : j < s.size) : (numsOf s).getD j 0 = (s[j].toNat : Int) := by
  have h1 : (numsOf s)[j]? = some (s[j].toNat : Int) := by
    unfold numsOf
    rw [List.getElem?_map, Array.getElem?_toList, Array.getElem?_eq_getElem (by exact h)]
    rfl
  rw [List.getD_eq_getElem?_getD, h1]; rfl

theorem nums_ext (s : ByteArray) (a b : Nat) : numsOf (s.extract a b) = ((numsOf s).drop a).take (b - a) := by
  unfold numsOf
  rw [ByteArray.data_extract, Array.toList_extract, List.extract_eq_take_drop, List.map_take, List.map_drop]
theorem ext_str (s : ByteArray) (a b : Nat) : s.extract a b = strOfNums (((numsOf s).drop a).take (b - a)) := by
  rw [← nums_ext, strOfNums_numsOf]

theorem rjoin_any (s t : ByteArray) (w : World) (hs : s.size ≤ 1000000) (ht : t.size ≤ 1000000) : Calls Tryz.prog 86 #[.string s, .string t] w fun e w' => e = .returned (.string (strOfNums (joinZ (numsOf s) (numsOf t)))) ∧ w = w' := by
  have h1 : (s.size : Int) ≤ 1000000 := by omega
  have h2 : (t.size : Int) ≤ 1000000 := by omega
  by_cases he : s = { data := #[] }
  · subst he
    have e : joinZ (numsOf { data := #[] }) (numsOf t) = numsOf t := rfl
    rw [e, strOfNums_numsOf]
    go_enter Tryz.func86, Tryz.ntmps86
    go_wp2
    go_ret
    exact ⟨rfl, rfl⟩
  · have hn : numsOf s ≠ [] := fun h => he (by have := congrArg strOfNums h; rw [strOfNums_numsOf] at this; rw [this]; rfl)
    have e : joinZ (numsOf s) (numsOf t) = numsOf (s ++ { data := #[47] } ++ t) := by
      unfold joinZ; rw [if_neg hn, nums_cat, nums_cat, List.append_assoc]; rfl
    rw [e, strOfNums_numsOf]
    have hne : s.toList.isEmpty = false := empty_no he
    clear hn e he hs ht
    go_enter Tryz.func86, Tryz.ntmps86
    go_wp2
    go_ret
    exact ⟨rfl, rfl⟩
end Go.Proofs.YtbbaleambgaanaaGreatDoor.Pnm
/-
  Layer 8: the reference's part, Check.
-/
namespace Go.Proofs.YtbbaleambgaanaaGreatDoor.Pnm
open Go.RowKit

theorem nums_inj {s t : ByteArray} (h : numsOf s = numsOf t) : s = t := by rw [← strOfNums_numsOf s, ← strOfNums_numsOf t, h]

set_option maxHeartbeats 1000000 in
theorem rpart_any (s : ByteArray) (w : World) (hs : s.size ≤ maxLen) : Calls Tryz.prog 156 #[.string s] w fun e w' => e = .returned (.bool (decide (partOk (numsOf s)))) ∧ w = w' := by
  unfold maxLen at hs
  by_cases h1 : s = { data := #[] }
  · subst h1
    rw [decide_eq_false (fun h => h.1 rfl)]
    go_enter Tryz.func156, Tryz.ntmps156
    go_wp2
    go_ret
    exact ⟨rfl, rfl⟩
  · by_cases h2 : s = { data := #[46] }
    · subst h2
      rw [decide_eq_false (fun h => h.2.1 rfl)]
      go_enter Tryz.func156, Tryz.ntmps156
      go_wp2
      go_ret
      exact ⟨rfl, rfl⟩
    · by_cases h3 : s = { data := #[46, 46] }
      · subst h3
        rw [decide_eq_false (fun h => h.2.2.1 rfl)]
        go_enter Tryz.func156, Tryz.ntmps156
        go_wp2
        go_ret
        exact ⟨rfl, rfl⟩
      · have n1 : s.toList.isEmpty = false := empty_no h1
        have n2 := bytes_neq h2
        have n3 := bytes_neq h3
        have e2 : ({ data := #[46] } : ByteArray).toList = [46] := by rw [ByteArray.toList_eq]
        have e3 : ({ data := #[46, 46] } : ByteArray).toList = [46, 46] := by rw [ByteArray.toList_eq]
        have n2' : (s.toList == [46]) = false := by rw [← e2]; exact n2
        have n3' : (s.toList == [46, 46]) = false := by rw [← e3]; exact n3
        have g1 : numsOf s ≠ [] := fun h => h1 (nums_inj h)
        have g2 : numsOf s ≠ [46] := fun h => h2 (nums_inj h)
        have g3 : numsOf s ≠ [46, 46] := fun h => h3 (nums_inj h)
        obtain ⟨R, hR⟩ := named (decide (partOk (numsOf s)))
        have HR : Hid (R = !decide ((0 : Int) ∈ numsOf s)) := by
          show _ = _; rw [hR.out]
          by_cases hz : (0 : Int) ∈ numsOf s
          · rw [decide_eq_false (fun h => h.2.2.2 hz), decide_eq_true hz]; rfl
          · rw [decide_eq_true (show partOk (numsOf s) from ⟨g1, g2, g3, hz⟩), decide_eq_false hz]; rfl
        have HA : Hid (∀ j (h : j < s.size), (numsOf s).getD j 0 = (s[j].toNat : Int)) := num_at s
        have NL := Lib.hid (numsOf_length s)
        rw [← hR.out]
        clear hR g1 g2 g3 h1 h2 h3 e2 e3 n2 n3
        go_enter Tryz.func156, Tryz.ntmps156
        go_wp2
        go_loop [3] (fun i => ∃ j : Nat, j ≤ s.size ∧ i = .int .i64 j ∧ ∀ k, k < j → (numsOf s).getD k 0 ≠ 0) (fun i => s.size + 1 - (intOf i).toNat)
        case atStart => exact ⟨0, Nat.zero_le _, rfl, fun k hk => by omega⟩
        case round =>
          obtain ⟨j, hj, rfl, hz⟩ := hrel
          have HZ := Lib.hid hz
          clear hz
          by_cases hlt : j < s.size
          · have m1 : (j : Int) < s.size := by omega
            have hx := HA.out j hlt
            obtain ⟨x, hxe⟩ : ∃ x : Int, ((s[j].toNat : Nat) : Int) = x := ⟨_, rfl⟩
            rw [hxe] at hx
            by_cases h0 : x = 0
            · have m2 : (x == 0) = true := by rw [h0]; rfl
              have e : Hid (R = false) := by
                show _ = _
                rw [HR.out, decide_eq_true]; rfl
                have hl : j < (numsOf s).length := by rw [NL.out]; exact hlt
                rw [h0, List.getD_eq_getElem?_getD, List.getElem?_eq_getElem hl] at hx
                have hx' : (numsOf s)[j] = 0 := hx
                rw [← hx']; exact List.getElem_mem hl
              clear hx h0
              go_wp2
              go_ret
              rw [e.out]
              exact ⟨rfl, rfl⟩
            · have m2 : (x == 0) = false := by simpa using h0
              have HX : Hid ((numsOf s).getD j 0 ≠ 0) := by show _ ≠ _; rw [hx]; exact h0
              clear hx h0
              go_wp2
              go_round
              case rel => exact ⟨j + 1, by omega, by go_num, fun k hk => by
                by_cases e : k = j
                · rw [e]; exact HX.out
                · exact HZ.out k (by omega)⟩
              case measure => simp [intOf]; omega
          · obtain rfl : j = s.size := by omega
            have e : Hid (R = true) := by
              show _ = _
              rw [HR.out, decide_eq_false]; rfl
              intro hm
              obtain ⟨k, hk, he⟩ := List.getElem_of_mem hm
              refine HZ.out k (by rw [NL.out] at hk; exact hk) ?_
              rw [List.getD_eq_getElem?_getD, List.getElem?_eq_getElem hk]; exact he
            go_wp2
            go_ret
            rw [e.out]
            exact ⟨rfl, rfl⟩

theorem ext_size (s : ByteArray) (a b : Nat) : (s.extract a b).size ≤ s.size := by
  rw [← numsOf_length, nums_ext, List.length_take, List.length_drop, numsOf_length]; omega
theorem mem_getD {l : List Int} {x : Int} (h : x ∈ l) : ∃ i, i < l.length ∧ l.getD i 0 = x := by
  obtain ⟨i, hi, e⟩ := List.getElem_of_mem h
  exact ⟨i, hi, by rw [List.getD_eq_getElem?_getD, List.getElem?_eq_getElem hi]; exact e⟩
/-- the bytes from a up to j hold no slash -/
theorem no_slash {zs : List Int} {a j : Nat} (h : ∀ k, a ≤ k → k < j → zs.getD k 0 ≠ 47) : (47 : Int) ∉ (zs.drop a).take (j - a) := by
  intro hm
  obtain ⟨i, hi, he⟩ := mem_getD hm
  rw [List.length_take, List.length_drop] at hi
  rw [List.getD_eq_getElem?_getD, List.getElem?_take, if_pos (by omega), List.getElem?_drop, ← List.getD_eq_getElem?_getD] at he
  exact h (a + i) (by omega) (by omega) he
theorem cut_at {zs : List Int} {a j : Nat} (ha : a ≤ j) (hj : j < zs.length) (h : zs.getD j 0 = 47) : zs.drop a = (zs.drop a).take (j - a) ++ 47 :: zs.drop (j + 1) := by
  have hg : zs[j] = 47 := by rw [List.getD_eq_getElem?_getD, List.getElem?_eq_getElem hj] at h; exact h
  have e : zs.drop j = 47 :: zs.drop (j + 1) := by rw [List.drop_eq_getElem_cons hj, hg]
  rw [← e]
  conv => lhs; rw [← List.take_append_drop (j - a) (zs.drop a)]
  rw [List.drop_drop, show a + (j - a) = j by omega]

set_option maxRecDepth 100000 in
set_option maxHeartbeats 4000000 in
theorem rcheck_any (s : ByteArray) (w : World) (hs : s.size ≤ maxLen) : Calls Tryz.prog 121 #[.string s] w fun e w' => e = .returned (.int .i64 (chE (numsOf s))) ∧ w = w' := by
  have hs0 := hs
  unfold maxLen at hs
  have NL := Lib.hid (numsOf_length s)
  by_cases h1 : 65536 < s.size
  · have h1' : (65536 : Int) < s.size := by omega
    have e : chE (numsOf s) = 7 := by unfold chE; rw [if_pos (by rw [NL.out]; exact h1)]
    rw [e]
    go_enter Tryz.func121, Tryz.ntmps121
    go_wp2
    go_ret
    exact ⟨rfl, rfl⟩
  · have h1' : ¬ (65536 : Int) < s.size := by omega
    have h1'' : (s.size : Int) ≤ 65536 := by omega
    obtain ⟨R, hR⟩ := named (chE (numsOf s))
    have RG : Hid (pathOk (numsOf s) → R = 0) := fun h => by rw [hR.out]; unfold chE; rw [if_neg (by rw [NL.out]; exact h1), if_pos h]
    have RB : Hid (¬ pathOk (numsOf s) → R = 6) := fun h => by rw [hR.out]; unfold chE; rw [if_neg (by rw [NL.out]; exact h1), if_neg h]
    have HA : Hid (∀ j (h : j < s.size), (numsOf s).getD j 0 = (s[j].toNat : Int)) := num_at s
    have HSM := Lib.hid hs0
    rw [← hR.out]
    clear hR hs0
    go_enter Tryz.func121, Tryz.ntmps121
    go_wp2
    go_loop [3, 4] (fun f i => ∃ a j : Nat, f = .int .i64 a ∧ i = .int .i64 j ∧ ((j ≤ s.size ∧ a ≤ j ∧ (∀ k, a ≤ k → k < j → (numsOf s).getD k 0 ≠ 47) ∧ (pathOk (numsOf s) ↔ pathOk ((numsOf s).drop a))) ∨ (j = s.size + 1 ∧ pathOk (numsOf s)))) (fun _ i => s.size + 2 - (intOf i).toNat)
    case atStart => exact ⟨0, 0, rfl, rfl, .inl ⟨Nat.zero_le _, Nat.le_refl _, fun k _ h => by omega, Iff.rfl⟩⟩
    case round =>
      obtain ⟨a, j, rfl, rfl, hc⟩ := hrel
      rcases hc with ⟨hj, ha, hn, hi⟩ | ⟨hj, hok⟩
      · have HN := Lib.hid hn; have HI := Lib.hid hi
        clear hn hi
        have m0 : (j : Int) ≤ s.size := by omega
        have m1 : (a : Int) ≤ j := by omega
        by_cases hlt : j < s.size
        · have m2 : ((j : Int) == s.size) = false := by simp; omega
          have m3 : (j : Int) < s.size := by omega
          have hx := HA.out j hlt
          obtain ⟨x, hxe⟩ : ∃ x : Int, ((s[j].toNat : Nat) : Int) = x := ⟨_, rfl⟩
          rw [hxe] at hx
          by_cases h47 : x = 47
          · have m4 : (x == 47) = true := by rw [h47]; rfl
            have cut := cut_at (zs := numsOf s) ha (by rw [NL.out]; exact hlt) (by rw [hx]; exact h47)
            have nsl := no_slash (zs := numsOf s) HN.out
            have STEP : Hid (pathOk (numsOf s) ↔ partOk (numsOf (s.extract a j)) ∧ pathOk ((numsOf s).drop (j + 1))) := by
              show _ ↔ _
              rw [HI.out, cut, pathOk_app, nums_ext, pathOk_one nsl]
            clear hx h47 cut nsl
            go_wp2_with fail
            refine (rpart_any (s.extract a j) w (Nat.le_trans (ext_size s a j) HSM.out)).mono ?_; rintro e w1 ⟨rfl, rfl⟩
            by_cases hp : partOk (numsOf (s.extract a j))
            · have HP := Lib.hid hp
              rw [decide_eq_true hp]
              clear hp
              go_wp2
              go_round
              case rel => exact ⟨j + 1, j + 1, by go_num, by go_num, .inl ⟨by omega, Nat.le_refl _, fun k h1 h2 => by omega, ⟨fun h => (STEP.out.1 h).2, fun h => STEP.out.2 ⟨HP.out, h⟩⟩⟩⟩
              case measure => simp [intOf]; omega
            · have e := Lib.hid (RB.out fun h => hp (STEP.out.1 h).1)
              rw [decide_eq_false hp]
              clear hp
              go_wp2
              go_ret
              rw [e.out]
              exact ⟨rfl, rfl⟩
          · have m4 : (x == 47) = false := by simpa using h47
            have HX : Hid ((numsOf s).getD j 0 ≠ 47) := by show _ ≠ _; rw [hx]; exact h47
            clear hx h47
            go_wp2
            go_round
            case rel => exact ⟨a, j + 1, rfl, by go_num, .inl ⟨by omega, by omega, fun k h1 h2 => by
              by_cases e : k = j
              · rw [e]; exact HX.out
              · exact HN.out k h1 (by omega), HI.out⟩⟩
            case measure => simp [intOf]; omega
        · obtain rfl : j = s.size := by omega
          have nsl := no_slash (zs := numsOf s) HN.out
          have STEP : Hid (pathOk (numsOf s) ↔ partOk (numsOf (s.extract a s.size))) := by
            show _ ↔ _
            rw [HI.out, nums_ext, ← pathOk_one nsl, List.take_of_length_le (by rw [List.length_drop, NL.out]; exact Nat.le_refl _)]
          clear nsl
          go_wp2_with fail
          refine (rpart_any (s.extract a s.size) w (Nat.le_trans (ext_size s a s.size) HSM.out)).mono ?_; rintro e w1 ⟨rfl, rfl⟩
          by_cases hp : partOk (numsOf (s.extract a s.size))
          · have HP := Lib.hid (STEP.out.2 hp)
            rw [decide_eq_true hp]
            clear hp
            go_wp2
            go_round
            case rel => exact ⟨s.size + 1, s.size + 1, by go_num, by go_num, .inr ⟨rfl, HP.out⟩⟩
            case measure => simp [intOf]
          · have e := Lib.hid (RB.out fun h => hp (STEP.out.1 h))
            rw [decide_eq_false hp]
            clear hp
            go_wp2
            go_ret
            rw [e.out]
            exact ⟨rfl, rfl⟩
      · have e := Lib.hid (RG.out hok)
        have m0 : decide ((j : Int) ≤ s.size) = false := by simp; omega
        clear hok
        go_wp2
        go_ret
        rw [e.out]
        exact ⟨rfl, rfl⟩
end Go.Proofs.YtbbaleambgaanaaGreatDoor.Pnm
