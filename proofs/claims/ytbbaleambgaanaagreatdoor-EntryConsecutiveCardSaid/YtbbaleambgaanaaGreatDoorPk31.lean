/-
  Layer 12: the program's lastBlock, extendedHeader, isExtended.
-/
import Derived.Test.YtbbaleambgaanaaGreatDoorPk28
import Derived.Test.YtbbaleambgaanaaGreatDoorPk07
import Derived.Test.YtbbaleambgaanaaGreatDoorPk30
import Derived.Test.YtbbaleambgaanaaGreatDoorPk12
import Derived.Test.YtbbaleambgaanaaGreatDoorPk09
import Derived.Test.YtbbaleambgaanaaGreatDoorPk16
import Derived.Test.YtbbaleambgaanaaGreatDoorPk05
namespace Go.Proofs.YtbbaleambgaanaaGreatDoor.Etr
open Go.RowKit Go.Proofs.YtbbaleambgaanaaGreatDoor.Fit Pxr Pnm

theorem last_any {lo hi q : Nat} {Z : List Int} {E : Int} {o : Nat} {err : Int} (w : World) (h : Rdr w lo hi q Z E o err) (p : Nat) (hp : o = p + 512) :
    Calls Tryz.prog 35 #[.pointer (some ⟨q, 0, none⟩)] w fun e w' => e = .returned (.int .i64 p) ∧ w = w' := by
  have ho8 : (o : Int) ≤ 140737488355328 := by have := h.bd.1; have := h.size.2.2.2; omega
  have ho5 : (512 : Int) ≤ o := by omega
  go_enter Tryz.func35, Tryz.ntmps35
  go_wp2_with fail
  refine (rdr_off w h).mono ?_; rintro e w1 ⟨rfl, rfl⟩
  go_wp2_with fail
  go_ret
  exact ⟨rfl, rfl⟩

theorem eq_paxp (nm pf lk : ByteArray) (md sz : Int) (w : World) :
    (Op.equalIn 10000 56 (.agg (Ust.hdV 120 nm pf lk md sz).toArray) (.agg (Ust.hdV 120 kPax emp emp 0 sz).toArray)).run Tryz.prog w = .ok (decide (nm = kPax ∧ pf = emp ∧ lk = emp ∧ md = 0)) w := by
  rw [Ust.run_eqH 56 Tryz.underlying56 (by kernel_rfl)]
  congr 1
  simp

set_option maxRecDepth 100000 in
set_option maxHeartbeats 4000000 in
theorem isx_any (nm pf lk : ByteArray) (md sz : Int) (w : World) (b : Bool) (hb : b = true ↔ paxOk ⟨120, nm, pf, lk, md, sz⟩) :
    Calls Tryz.prog 127 #[.agg (Ust.hdV 120 nm pf lk md sz).toArray] w fun e w' => e = .returned (.bool b) ∧ Below w.heap.size w w' := by
  have HQ := Lib.hid (eq_paxp nm pf lk md sz)
  have gH : Tryz.prog.eqGuardType Tryz.prog.depth 56 = false := by kernel_rfl
  by_cases g1 : sz < 1
  · obtain rfl : b = false := by
      cases b with
      | false => rfl
      | true => have := (hb.1 rfl).2.2.2.2.1; simp only at this; omega
    have d1 : decide (1 ≤ sz) = false := decide_eq_false (by omega)
    have d1' : ¬ 1 ≤ sz := by omega
    clear hb HQ g1
    go_enter Tryz.func127, Tryz.ntmps127
    go_wp2_with (first | (refine wpList_box_obj rfl 56 _ rfl (Ust.hdV 120 nm pf lk md sz) rfl ?_; intro w1 h1 b1; have H1 := Lib.hid h1; have B1 := Lib.hid b1; have c0 := h1.get 0 rfl; have c1 := h1.get 1 rfl; have c2 := h1.get 2 rfl; have c3 := h1.get 3 rfl; have c4 := h1.get 4 rfl; have c5 := h1.get 5 rfl; clear h1 b1))
    go_quiet (fail)
    go_wp2
    go_ret
    exact ⟨rfl, B1.out.trans (drewN_below _ _ _)⟩
  by_cases g2 : 262144 < sz
  · obtain rfl : b = false := by
      cases b with
      | false => rfl
      | true => have := (hb.1 rfl).2.2.2.2.2; simp only at this; omega
    have d1 : decide (1 ≤ sz) = true := decide_eq_true (by omega)
    have d2 : decide (sz ≤ 262144) = false := decide_eq_false (by omega)
    have d1' : 1 ≤ sz := by omega
    have d2' : ¬ sz ≤ 262144 := by omega
    clear hb HQ g1 g2
    go_enter Tryz.func127, Tryz.ntmps127
    go_wp2_with (first | (refine wpList_box_obj rfl 56 _ rfl (Ust.hdV 120 nm pf lk md sz) rfl ?_; intro w1 h1 b1; have H1 := Lib.hid h1; have B1 := Lib.hid b1; have c0 := h1.get 0 rfl; have c1 := h1.get 1 rfl; have c2 := h1.get 2 rfl; have c3 := h1.get 3 rfl; have c4 := h1.get 4 rfl; have c5 := h1.get 5 rfl; clear h1 b1))
    go_quiet (fail)
    go_wp2
    go_ret
    exact ⟨rfl, B1.out.trans (drewN_below _ _ _)⟩
  have d1 : decide (1 ≤ sz) = true := decide_eq_true (by omega)
  have d2 : decide (sz ≤ 262144) = true := decide_eq_true (by omega)
  have d1' : 1 ≤ sz := by omega
  have d2' : sz ≤ 262144 := by omega
  by_cases h1 : nm = kPax ∧ pf = emp ∧ lk = emp ∧ md = 0
  · obtain rfl : b = true := hb.2 ⟨h1.1, h1.2.1, h1.2.2.1, h1.2.2.2, d1', d2'⟩
    clear hb g1 g2
    have hq : ∀ w : World, (Op.equalIn 10000 56 (.agg (Ust.hdV 120 nm pf lk md sz).toArray) (.agg (Ust.hdV 120 kPax emp emp 0 sz).toArray)).run Tryz.prog w = .ok true w := fun w => by rw [HQ.out w, decide_eq_true h1]
    clear h1 HQ
    go_enter Tryz.func127, Tryz.ntmps127
    go_wp2_with (first | (refine wpList_box_obj rfl 56 _ rfl (Ust.hdV 120 nm pf lk md sz) rfl ?_; intro w1 h1 b1; have H1 := Lib.hid h1; have B1 := Lib.hid b1; have c0 := h1.get 0 rfl; have c1 := h1.get 1 rfl; have c2 := h1.get 2 rfl; have c3 := h1.get 3 rfl; have c4 := h1.get 4 rfl; have c5 := h1.get 5 rfl; clear h1 b1))
    have KS : Hid (∀ w', Below w1.heap.size w1 w' → (fun w' => w'.cell? ⟨w.heap.size, 0, none⟩ = some (.int .u8 120) ∧ w'.cell? ⟨w.heap.size, 1, none⟩ = some (.string nm) ∧ w'.cell? ⟨w.heap.size, 2, none⟩ = some (.string pf) ∧ w'.cell? ⟨w.heap.size, 3, none⟩ = some (.string lk) ∧ w'.cell? ⟨w.heap.size, 4, none⟩ = some (.int .i64 md) ∧ w'.cell? ⟨w.heap.size, 5, none⟩ = some (.int .i64 sz)) w') := fun w' hb => by
      have h := H1.out.below hb H1.out.lt
      exact ⟨h.get 0 rfl, h.get 1 rfl, h.get 2 rfl, h.get 3 rfl, h.get 4 rfl, h.get 5 rfl⟩
    clear c0 c1 c2 c3 c4 c5
    refine wp_region_held_drew (S := (fun w' => w'.cell? ⟨w.heap.size, 0, none⟩ = some (.int .u8 120) ∧ w'.cell? ⟨w.heap.size, 1, none⟩ = some (.string nm) ∧ w'.cell? ⟨w.heap.size, 2, none⟩ = some (.string pf) ∧ w'.cell? ⟨w.heap.size, 3, none⟩ = some (.string lk) ∧ w'.cell? ⟨w.heap.size, 4, none⟩ = some (.int .i64 md) ∧ w'.cell? ⟨w.heap.size, 5, none⟩ = some (.int .i64 sz))) (by kernel_rfl) (KS.out _ (Below.refl _ _).drew) (fun hHeld => ?_)
    refine wpAnyH_take (i := 0) (oi := { dst := some 3, op := Go.Op.fieldAddr 56 (Go.Operand.tmp 1) 5, type := 0, pos := "entry.go:76", after := #[], guard := none }) (v := ?_) rfl (by kernel_rfl) (by kernel_rfl) (by kernel_rfl) (fun _ _ _ h => h) (Or.inl ⟨by rfl, ?_⟩) (by assumption) ?_
    rotate_left 1
    focus ((intro wS hSw; (try dsimp only at hSw); go_simp) <;> (try with_reducible rfl))
    simp only [Act.put, List.setIfInBounds_toArray, List.set_cons_zero, List.set_cons_succ]
    refine wpAnyH_take (i := 1) (oi := { dst := some 4, op := Go.Op.load 2 (Go.Operand.tmp 3), type := 2, pos := "entry.go:76", after := #[{ on := 0, ground := Go.Ground.data }], guard := none }) (v := ?_) rfl (by kernel_rfl) (by kernel_rfl) (by kernel_rfl) (fun _ _ _ h => h) (Or.inl ⟨by rfl, ?_⟩) (by assumption) ?_
    rotate_left 1
    focus ((intro wS hSw; (try dsimp only at hSw); go_simp) <;> (try with_reducible rfl))
    simp only [Act.put, List.setIfInBounds_toArray, List.set_cons_zero, List.set_cons_succ]
    refine wpAnyH_take (i := 2) (oi := { dst := some 5, op := Go.Op.binOp Go.BinOp.geq 2 (Go.Operand.tmp 4) (Go.Operand.const (Go.Value.int Go.IntKind.i64 1)) 2, type := 4, pos := "entry.go:76", after := #[{ on := 1, ground := Go.Ground.data }], guard := none }) (v := ?_) rfl (by kernel_rfl) (by kernel_rfl) (by kernel_rfl) (fun _ _ _ h => h) (Or.inl ⟨by rfl, ?_⟩) (by assumption) ?_
    rotate_left 1
    focus ((intro wS hSw; (try dsimp only at hSw); go_simp) <;> (try with_reducible rfl))
    simp only [Act.put, List.setIfInBounds_toArray, List.set_cons_zero, List.set_cons_succ]
    refine wpAnyH_take (i := 3) (oi := { dst := some 6, op := Go.Op.move (Go.Operand.tmp 5), type := 4, pos := "entry.go:76", after := #[{ on := 2, ground := Go.Ground.data }], guard := none }) (v := ?_) rfl (by kernel_rfl) (by kernel_rfl) (by kernel_rfl) (fun _ _ _ h => h) (Or.inl ⟨by rfl, ?_⟩) (by assumption) ?_
    rotate_left 1
    focus ((intro wS hSw; (try dsimp only at hSw); go_simp) <;> (try with_reducible rfl))
    simp only [Act.put, List.setIfInBounds_toArray, List.set_cons_zero, List.set_cons_succ]
    refine wpAnyH_take (i := 4) (oi := { dst := some 7, op := Go.Op.fieldAddr 56 (Go.Operand.tmp 1) 5, type := 0, pos := "entry.go:76", after := #[{ on := 3, ground := Go.Ground.guard }], guard := some (3, true) }) (v := ?_) rfl (by kernel_rfl) (by kernel_rfl) (by kernel_rfl) (fun _ _ _ h => h) (Or.inl ⟨by rfl, ?_⟩) (by assumption) ?_
    rotate_left 1
    focus ((intro wS hSw; (try dsimp only at hSw); go_simp) <;> (try with_reducible rfl))
    simp only [Act.put, List.setIfInBounds_toArray, List.set_cons_zero, List.set_cons_succ]
    refine wpAnyH_take (i := 5) (oi := { dst := some 8, op := Go.Op.load 2 (Go.Operand.tmp 7), type := 2, pos := "entry.go:76", after := #[{ on := 4, ground := Go.Ground.data }, { on := 3, ground := Go.Ground.guard }], guard := some (3, true) }) (v := ?_) rfl (by kernel_rfl) (by kernel_rfl) (by kernel_rfl) (fun _ _ _ h => h) (Or.inl ⟨by rfl, ?_⟩) (by assumption) ?_
    rotate_left 1
    focus ((intro wS hSw; (try dsimp only at hSw); go_simp) <;> (try with_reducible rfl))
    simp only [Act.put, List.setIfInBounds_toArray, List.set_cons_zero, List.set_cons_succ]
    refine wpAnyH_take (i := 6) (oi := { dst := some 9, op := Go.Op.binOp Go.BinOp.leq 2 (Go.Operand.tmp 8) (Go.Operand.const (Go.Value.int Go.IntKind.i64 262144)) 2, type := 4, pos := "entry.go:76", after := #[{ on := 5, ground := Go.Ground.data }, { on := 3, ground := Go.Ground.guard }], guard := some (3, true) }) (v := ?_) rfl (by kernel_rfl) (by kernel_rfl) (by kernel_rfl) (fun _ _ _ h => h) (Or.inl ⟨by rfl, ?_⟩) (by assumption) ?_
    rotate_left 1
    focus ((intro wS hSw; (try dsimp only at hSw); go_simp) <;> (try with_reducible rfl))
    simp only [Act.put, List.setIfInBounds_toArray, List.set_cons_zero, List.set_cons_succ]
    refine wpAnyH_take (i := 7) (oi := { dst := some 10, op := Go.Op.pick (Go.Operand.tmp 6) (Go.Operand.tmp 9) (Go.Operand.const (Go.Value.bool false)), type := 4, pos := "entry.go:76", after := #[{ on := 3, ground := Go.Ground.data }, { on := 6, ground := Go.Ground.data }], guard := none }) (v := ?_) rfl (by kernel_rfl) (by kernel_rfl) (by kernel_rfl) (fun _ _ _ h => h) (Or.inl ⟨by rfl, ?_⟩) (by assumption) ?_
    rotate_left 1
    focus ((intro wS hSw; (try dsimp only at hSw); go_simp) <;> (try with_reducible rfl))
    simp only [Act.put, List.setIfInBounds_toArray, List.set_cons_zero, List.set_cons_succ]
    refine wpAnyH_take (i := 8) (oi := { dst := some 11, op := Go.Op.move (Go.Operand.tmp 10), type := 4, pos := "entry.go:76", after := #[{ on := 7, ground := Go.Ground.data }, { on := 3, ground := Go.Ground.chain }], guard := none }) (v := ?_) rfl (by kernel_rfl) (by kernel_rfl) (by kernel_rfl) (fun _ _ _ h => h) (Or.inl ⟨by rfl, ?_⟩) (by assumption) ?_
    rotate_left 1
    focus ((intro wS hSw; (try dsimp only at hSw); go_simp) <;> (try with_reducible rfl))
    simp only [Act.put, List.setIfInBounds_toArray, List.set_cons_zero, List.set_cons_succ]
    refine wpAnyH_take (i := 9) (oi := { dst := some 12, op := Go.Op.load 56 (Go.Operand.tmp 1), type := 56, pos := "entry.go:76", after := #[{ on := 8, ground := Go.Ground.guard }], guard := some (8, true) }) (v := ?_) rfl (by kernel_rfl) (by kernel_rfl) (by kernel_rfl) (fun _ _ _ h => h) (Or.inl ⟨by rfl, ?_⟩) (by assumption) ?_
    rotate_left 1
    focus ((intro wS hSw; (try dsimp only at hSw); go_simp) <;> (try with_reducible rfl))
    simp only [Act.put, List.setIfInBounds_toArray, List.set_cons_zero, List.set_cons_succ]
    refine wpAnyH_take (i := 10) (oi := { dst := some 13, op := Go.Op.fieldAddr 56 (Go.Operand.tmp 1) 5, type := 0, pos := "entry.go:76", after := #[{ on := 8, ground := Go.Ground.guard }], guard := some (8, true) }) (v := ?_) rfl (by kernel_rfl) (by kernel_rfl) (by kernel_rfl) (fun _ _ _ h => h) (Or.inl ⟨by rfl, ?_⟩) (by assumption) ?_
    rotate_left 1
    focus ((intro wS hSw; (try dsimp only at hSw); go_simp) <;> (try with_reducible rfl))
    simp only [Act.put, List.setIfInBounds_toArray, List.set_cons_zero, List.set_cons_succ]
    refine wpAnyH_take (i := 11) (oi := { dst := some 14, op := Go.Op.load 2 (Go.Operand.tmp 13), type := 2, pos := "entry.go:76", after := #[{ on := 10, ground := Go.Ground.data }, { on := 8, ground := Go.Ground.guard }], guard := some (8, true) }) (v := ?_) rfl (by kernel_rfl) (by kernel_rfl) (by kernel_rfl) (fun _ _ _ h => h) (Or.inl ⟨by rfl, ?_⟩) (by assumption) ?_
    rotate_left 1
    focus ((intro wS hSw; (try dsimp only at hSw); go_simp) <;> (try with_reducible rfl))
    simp only [Act.put, List.setIfInBounds_toArray, List.set_cons_zero, List.set_cons_succ]
    refine wpAnyH_ready (rs := [12]) (by kernel_rfl) (by simp) ?_
    refine AllReadyH.cons (o := { dst := some 15, op := Go.Op.call { callee := Go.Callee.value (Go.Operand.func 58), args := #[Go.Operand.tmp 14], argTypes := #[2] }, type := 56, pos := "entry.go:76", after := #[{ on := 11, ground := Go.Ground.data }, { on := 8, ground := Go.Ground.chain }, { on := 8, ground := Go.Ground.guard }], guard := some (8, true) }) rfl (fun K hK => ?_) AllReadyH.nil
    go_simp
    refine (ext_any sz _).mono ?_; rintro e w2 ⟨rfl, b2⟩
    have D2 := Lib.hid ((Below.refl w1.heap.size w1).drew.trans b2)
    clear b2
    go_wp2_with fail
    refine hK.out _ _ (KS.out _ D2.out) (fun hHeld => ?_)
    clear hK K
    (try simp only [Act.put, List.setIfInBounds_toArray, List.set_cons_zero, List.set_cons_succ])
    refine wpAnyH_take (i := 13) (oi := { dst := some 16, op := Go.Op.binOp Go.BinOp.eql 56 (Go.Operand.tmp 12) (Go.Operand.tmp 15) 56, type := 4, pos := "entry.go:76", after := #[{ on := 9, ground := Go.Ground.data }, { on := 12, ground := Go.Ground.data }, { on := 8, ground := Go.Ground.guard }], guard := some (8, true) }) (v := ?_) rfl (by kernel_rfl) (by kernel_rfl) (by kernel_rfl) (fun _ _ _ h => h) (Or.inl ⟨by rfl, ?_⟩) (by assumption) ?_
    rotate_left 1
    focus ((intro wS hSw; (try dsimp only at hSw); go_simp) <;> (try with_reducible rfl))
    simp only [Act.put, List.setIfInBounds_toArray, List.set_cons_zero, List.set_cons_succ]
    refine wpAnyH_take (i := 14) (oi := { dst := some 17, op := Go.Op.pick (Go.Operand.tmp 11) (Go.Operand.tmp 16) (Go.Operand.const (Go.Value.bool false)), type := 4, pos := "entry.go:76", after := #[{ on := 8, ground := Go.Ground.data }, { on := 13, ground := Go.Ground.data }], guard := none }) (v := ?_) rfl (by kernel_rfl) (by kernel_rfl) (by kernel_rfl) (fun _ _ _ h => h) (Or.inl ⟨by rfl, ?_⟩) (by assumption) ?_
    rotate_left 1
    focus ((intro wS hSw; (try dsimp only at hSw); go_simp) <;> (try with_reducible rfl))
    simp only [Act.put, List.setIfInBounds_toArray, List.set_cons_zero, List.set_cons_succ]
    refine wpAnyH_take (i := 15) (oi := { dst := some 2, op := Go.Op.assign (Go.Operand.tmp 17), type := 4, pos := "entry.go:76", after := #[{ on := 14, ground := Go.Ground.data }, { on := 12, ground := Go.Ground.chain }, { on := 0, ground := Go.Ground.phase }, { on := 1, ground := Go.Ground.phase }, { on := 2, ground := Go.Ground.phase }, { on := 3, ground := Go.Ground.phase }, { on := 4, ground := Go.Ground.phase }, { on := 5, ground := Go.Ground.phase }, { on := 6, ground := Go.Ground.phase }, { on := 7, ground := Go.Ground.phase }, { on := 8, ground := Go.Ground.phase }, { on := 9, ground := Go.Ground.phase }, { on := 10, ground := Go.Ground.phase }, { on := 11, ground := Go.Ground.phase }, { on := 12, ground := Go.Ground.phase }, { on := 13, ground := Go.Ground.phase }, { on := 14, ground := Go.Ground.phase }], guard := none }) (v := ?_) rfl (by kernel_rfl) (by kernel_rfl) (by kernel_rfl) (fun _ _ _ h => h) (Or.inl ⟨by rfl, ?_⟩) (by assumption) ?_
    rotate_left 1
    focus ((intro wS hSw; (try dsimp only at hSw); go_simp) <;> (try with_reducible rfl))
    simp only [Act.put, List.setIfInBounds_toArray, List.set_cons_zero, List.set_cons_succ]
    refine wpAnyH_done (by kernel_rfl) ?_ _
    go_wp2
    go_ret
    exact ⟨rfl, B1.out.trans (D2.out.mono B1.out.size)⟩
  · obtain rfl : b = false := by
      cases b with
      | false => rfl
      | true => have := hb.1 rfl; exact absurd ⟨this.1, this.2.1, this.2.2.1, this.2.2.2.1⟩ h1
    clear hb g1 g2
    have hq : ∀ w : World, (Op.equalIn 10000 56 (.agg (Ust.hdV 120 nm pf lk md sz).toArray) (.agg (Ust.hdV 120 kPax emp emp 0 sz).toArray)).run Tryz.prog w = .ok false w := fun w => by rw [HQ.out w, decide_eq_false h1]
    clear h1 HQ
    go_enter Tryz.func127, Tryz.ntmps127
    go_wp2_with (first | (refine wpList_box_obj rfl 56 _ rfl (Ust.hdV 120 nm pf lk md sz) rfl ?_; intro w1 h1 b1; have H1 := Lib.hid h1; have B1 := Lib.hid b1; have c0 := h1.get 0 rfl; have c1 := h1.get 1 rfl; have c2 := h1.get 2 rfl; have c3 := h1.get 3 rfl; have c4 := h1.get 4 rfl; have c5 := h1.get 5 rfl; clear h1 b1))
    have KS : Hid (∀ w', Below w1.heap.size w1 w' → (fun w' => w'.cell? ⟨w.heap.size, 0, none⟩ = some (.int .u8 120) ∧ w'.cell? ⟨w.heap.size, 1, none⟩ = some (.string nm) ∧ w'.cell? ⟨w.heap.size, 2, none⟩ = some (.string pf) ∧ w'.cell? ⟨w.heap.size, 3, none⟩ = some (.string lk) ∧ w'.cell? ⟨w.heap.size, 4, none⟩ = some (.int .i64 md) ∧ w'.cell? ⟨w.heap.size, 5, none⟩ = some (.int .i64 sz)) w') := fun w' hb => by
      have h := H1.out.below hb H1.out.lt
      exact ⟨h.get 0 rfl, h.get 1 rfl, h.get 2 rfl, h.get 3 rfl, h.get 4 rfl, h.get 5 rfl⟩
    clear c0 c1 c2 c3 c4 c5
    refine wp_region_held_drew (S := (fun w' => w'.cell? ⟨w.heap.size, 0, none⟩ = some (.int .u8 120) ∧ w'.cell? ⟨w.heap.size, 1, none⟩ = some (.string nm) ∧ w'.cell? ⟨w.heap.size, 2, none⟩ = some (.string pf) ∧ w'.cell? ⟨w.heap.size, 3, none⟩ = some (.string lk) ∧ w'.cell? ⟨w.heap.size, 4, none⟩ = some (.int .i64 md) ∧ w'.cell? ⟨w.heap.size, 5, none⟩ = some (.int .i64 sz))) (by kernel_rfl) (KS.out _ (Below.refl _ _).drew) (fun hHeld => ?_)
    refine wpAnyH_take (i := 0) (oi := { dst := some 3, op := Go.Op.fieldAddr 56 (Go.Operand.tmp 1) 5, type := 0, pos := "entry.go:76", after := #[], guard := none }) (v := ?_) rfl (by kernel_rfl) (by kernel_rfl) (by kernel_rfl) (fun _ _ _ h => h) (Or.inl ⟨by rfl, ?_⟩) (by assumption) ?_
    rotate_left 1
    focus ((intro wS hSw; (try dsimp only at hSw); go_simp) <;> (try with_reducible rfl))
    simp only [Act.put, List.setIfInBounds_toArray, List.set_cons_zero, List.set_cons_succ]
    refine wpAnyH_take (i := 1) (oi := { dst := some 4, op := Go.Op.load 2 (Go.Operand.tmp 3), type := 2, pos := "entry.go:76", after := #[{ on := 0, ground := Go.Ground.data }], guard := none }) (v := ?_) rfl (by kernel_rfl) (by kernel_rfl) (by kernel_rfl) (fun _ _ _ h => h) (Or.inl ⟨by rfl, ?_⟩) (by assumption) ?_
    rotate_left 1
    focus ((intro wS hSw; (try dsimp only at hSw); go_simp) <;> (try with_reducible rfl))
    simp only [Act.put, List.setIfInBounds_toArray, List.set_cons_zero, List.set_cons_succ]
    refine wpAnyH_take (i := 2) (oi := { dst := some 5, op := Go.Op.binOp Go.BinOp.geq 2 (Go.Operand.tmp 4) (Go.Operand.const (Go.Value.int Go.IntKind.i64 1)) 2, type := 4, pos := "entry.go:76", after := #[{ on := 1, ground := Go.Ground.data }], guard := none }) (v := ?_) rfl (by kernel_rfl) (by kernel_rfl) (by kernel_rfl) (fun _ _ _ h => h) (Or.inl ⟨by rfl, ?_⟩) (by assumption) ?_
    rotate_left 1
    focus ((intro wS hSw; (try dsimp only at hSw); go_simp) <;> (try with_reducible rfl))
    simp only [Act.put, List.setIfInBounds_toArray, List.set_cons_zero, List.set_cons_succ]
    refine wpAnyH_take (i := 3) (oi := { dst := some 6, op := Go.Op.move (Go.Operand.tmp 5), type := 4, pos := "entry.go:76", after := #[{ on := 2, ground := Go.Ground.data }], guard := none }) (v := ?_) rfl (by kernel_rfl) (by kernel_rfl) (by kernel_rfl) (fun _ _ _ h => h) (Or.inl ⟨by rfl, ?_⟩) (by assumption) ?_
    rotate_left 1
    focus ((intro wS hSw; (try dsimp only at hSw); go_simp) <;> (try with_reducible rfl))
    simp only [Act.put, List.setIfInBounds_toArray, List.set_cons_zero, List.set_cons_succ]
    refine wpAnyH_take (i := 4) (oi := { dst := some 7, op := Go.Op.fieldAddr 56 (Go.Operand.tmp 1) 5, type := 0, pos := "entry.go:76", after := #[{ on := 3, ground := Go.Ground.guard }], guard := some (3, true) }) (v := ?_) rfl (by kernel_rfl) (by kernel_rfl) (by kernel_rfl) (fun _ _ _ h => h) (Or.inl ⟨by rfl, ?_⟩) (by assumption) ?_
    rotate_left 1
    focus ((intro wS hSw; (try dsimp only at hSw); go_simp) <;> (try with_reducible rfl))
    simp only [Act.put, List.setIfInBounds_toArray, List.set_cons_zero, List.set_cons_succ]
    refine wpAnyH_take (i := 5) (oi := { dst := some 8, op := Go.Op.load 2 (Go.Operand.tmp 7), type := 2, pos := "entry.go:76", after := #[{ on := 4, ground := Go.Ground.data }, { on := 3, ground := Go.Ground.guard }], guard := some (3, true) }) (v := ?_) rfl (by kernel_rfl) (by kernel_rfl) (by kernel_rfl) (fun _ _ _ h => h) (Or.inl ⟨by rfl, ?_⟩) (by assumption) ?_
    rotate_left 1
    focus ((intro wS hSw; (try dsimp only at hSw); go_simp) <;> (try with_reducible rfl))
    simp only [Act.put, List.setIfInBounds_toArray, List.set_cons_zero, List.set_cons_succ]
    refine wpAnyH_take (i := 6) (oi := { dst := some 9, op := Go.Op.binOp Go.BinOp.leq 2 (Go.Operand.tmp 8) (Go.Operand.const (Go.Value.int Go.IntKind.i64 262144)) 2, type := 4, pos := "entry.go:76", after := #[{ on := 5, ground := Go.Ground.data }, { on := 3, ground := Go.Ground.guard }], guard := some (3, true) }) (v := ?_) rfl (by kernel_rfl) (by kernel_rfl) (by kernel_rfl) (fun _ _ _ h => h) (Or.inl ⟨by rfl, ?_⟩) (by assumption) ?_
    rotate_left 1
    focus ((intro wS hSw; (try dsimp only at hSw); go_simp) <;> (try with_reducible rfl))
    simp only [Act.put, List.setIfInBounds_toArray, List.set_cons_zero, List.set_cons_succ]
    refine wpAnyH_take (i := 7) (oi := { dst := some 10, op := Go.Op.pick (Go.Operand.tmp 6) (Go.Operand.tmp 9) (Go.Operand.const (Go.Value.bool false)), type := 4, pos := "entry.go:76", after := #[{ on := 3, ground := Go.Ground.data }, { on := 6, ground := Go.Ground.data }], guard := none }) (v := ?_) rfl (by kernel_rfl) (by kernel_rfl) (by kernel_rfl) (fun _ _ _ h => h) (Or.inl ⟨by rfl, ?_⟩) (by assumption) ?_
    rotate_left 1
    focus ((intro wS hSw; (try dsimp only at hSw); go_simp) <;> (try with_reducible rfl))
    simp only [Act.put, List.setIfInBounds_toArray, List.set_cons_zero, List.set_cons_succ]
    refine wpAnyH_take (i := 8) (oi := { dst := some 11, op := Go.Op.move (Go.Operand.tmp 10), type := 4, pos := "entry.go:76", after := #[{ on := 7, ground := Go.Ground.data }, { on := 3, ground := Go.Ground.chain }], guard := none }) (v := ?_) rfl (by kernel_rfl) (by kernel_rfl) (by kernel_rfl) (fun _ _ _ h => h) (Or.inl ⟨by rfl, ?_⟩) (by assumption) ?_
    rotate_left 1
    focus ((intro wS hSw; (try dsimp only at hSw); go_simp) <;> (try with_reducible rfl))
    simp only [Act.put, List.setIfInBounds_toArray, List.set_cons_zero, List.set_cons_succ]
    refine wpAnyH_take (i := 9) (oi := { dst := some 12, op := Go.Op.load 56 (Go.Operand.tmp 1), type := 56, pos := "entry.go:76", after := #[{ on := 8, ground := Go.Ground.guard }], guard := some (8, true) }) (v := ?_) rfl (by kernel_rfl) (by kernel_rfl) (by kernel_rfl) (fun _ _ _ h => h) (Or.inl ⟨by rfl, ?_⟩) (by assumption) ?_
    rotate_left 1
    focus ((intro wS hSw; (try dsimp only at hSw); go_simp) <;> (try with_reducible rfl))
    simp only [Act.put, List.setIfInBounds_toArray, List.set_cons_zero, List.set_cons_succ]
    refine wpAnyH_take (i := 10) (oi := { dst := some 13, op := Go.Op.fieldAddr 56 (Go.Operand.tmp 1) 5, type := 0, pos := "entry.go:76", after := #[{ on := 8, ground := Go.Ground.guard }], guard := some (8, true) }) (v := ?_) rfl (by kernel_rfl) (by kernel_rfl) (by kernel_rfl) (fun _ _ _ h => h) (Or.inl ⟨by rfl, ?_⟩) (by assumption) ?_
    rotate_left 1
    focus ((intro wS hSw; (try dsimp only at hSw); go_simp) <;> (try with_reducible rfl))
    simp only [Act.put, List.setIfInBounds_toArray, List.set_cons_zero, List.set_cons_succ]
    refine wpAnyH_take (i := 11) (oi := { dst := some 14, op := Go.Op.load 2 (Go.Operand.tmp 13), type := 2, pos := "entry.go:76", after := #[{ on := 10, ground := Go.Ground.data }, { on := 8, ground := Go.Ground.guard }], guard := some (8, true) }) (v := ?_) rfl (by kernel_rfl) (by kernel_rfl) (by kernel_rfl) (fun _ _ _ h => h) (Or.inl ⟨by rfl, ?_⟩) (by assumption) ?_
    rotate_left 1
    focus ((intro wS hSw; (try dsimp only at hSw); go_simp) <;> (try with_reducible rfl))
    simp only [Act.put, List.setIfInBounds_toArray, List.set_cons_zero, List.set_cons_succ]
    refine wpAnyH_ready (rs := [12]) (by kernel_rfl) (by simp) ?_
    refine AllReadyH.cons (o := { dst := some 15, op := Go.Op.call { callee := Go.Callee.value (Go.Operand.func 58), args := #[Go.Operand.tmp 14], argTypes := #[2] }, type := 56, pos := "entry.go:76", after := #[{ on := 11, ground := Go.Ground.data }, { on := 8, ground := Go.Ground.chain }, { on := 8, ground := Go.Ground.guard }], guard := some (8, true) }) rfl (fun K hK => ?_) AllReadyH.nil
    go_simp
    refine (ext_any sz _).mono ?_; rintro e w2 ⟨rfl, b2⟩
    have D2 := Lib.hid ((Below.refl w1.heap.size w1).drew.trans b2)
    clear b2
    go_wp2_with fail
    refine hK.out _ _ (KS.out _ D2.out) (fun hHeld => ?_)
    clear hK K
    (try simp only [Act.put, List.setIfInBounds_toArray, List.set_cons_zero, List.set_cons_succ])
    refine wpAnyH_take (i := 13) (oi := { dst := some 16, op := Go.Op.binOp Go.BinOp.eql 56 (Go.Operand.tmp 12) (Go.Operand.tmp 15) 56, type := 4, pos := "entry.go:76", after := #[{ on := 9, ground := Go.Ground.data }, { on := 12, ground := Go.Ground.data }, { on := 8, ground := Go.Ground.guard }], guard := some (8, true) }) (v := ?_) rfl (by kernel_rfl) (by kernel_rfl) (by kernel_rfl) (fun _ _ _ h => h) (Or.inl ⟨by rfl, ?_⟩) (by assumption) ?_
    rotate_left 1
    focus ((intro wS hSw; (try dsimp only at hSw); go_simp) <;> (try with_reducible rfl))
    simp only [Act.put, List.setIfInBounds_toArray, List.set_cons_zero, List.set_cons_succ]
    refine wpAnyH_take (i := 14) (oi := { dst := some 17, op := Go.Op.pick (Go.Operand.tmp 11) (Go.Operand.tmp 16) (Go.Operand.const (Go.Value.bool false)), type := 4, pos := "entry.go:76", after := #[{ on := 8, ground := Go.Ground.data }, { on := 13, ground := Go.Ground.data }], guard := none }) (v := ?_) rfl (by kernel_rfl) (by kernel_rfl) (by kernel_rfl) (fun _ _ _ h => h) (Or.inl ⟨by rfl, ?_⟩) (by assumption) ?_
    rotate_left 1
    focus ((intro wS hSw; (try dsimp only at hSw); go_simp) <;> (try with_reducible rfl))
    simp only [Act.put, List.setIfInBounds_toArray, List.set_cons_zero, List.set_cons_succ]
    refine wpAnyH_take (i := 15) (oi := { dst := some 2, op := Go.Op.assign (Go.Operand.tmp 17), type := 4, pos := "entry.go:76", after := #[{ on := 14, ground := Go.Ground.data }, { on := 12, ground := Go.Ground.chain }, { on := 0, ground := Go.Ground.phase }, { on := 1, ground := Go.Ground.phase }, { on := 2, ground := Go.Ground.phase }, { on := 3, ground := Go.Ground.phase }, { on := 4, ground := Go.Ground.phase }, { on := 5, ground := Go.Ground.phase }, { on := 6, ground := Go.Ground.phase }, { on := 7, ground := Go.Ground.phase }, { on := 8, ground := Go.Ground.phase }, { on := 9, ground := Go.Ground.phase }, { on := 10, ground := Go.Ground.phase }, { on := 11, ground := Go.Ground.phase }, { on := 12, ground := Go.Ground.phase }, { on := 13, ground := Go.Ground.phase }, { on := 14, ground := Go.Ground.phase }], guard := none }) (v := ?_) rfl (by kernel_rfl) (by kernel_rfl) (by kernel_rfl) (fun _ _ _ h => h) (Or.inl ⟨by rfl, ?_⟩) (by assumption) ?_
    rotate_left 1
    focus ((intro wS hSw; (try dsimp only at hSw); go_simp) <;> (try with_reducible rfl))
    simp only [Act.put, List.setIfInBounds_toArray, List.set_cons_zero, List.set_cons_succ]
    refine wpAnyH_done (by kernel_rfl) ?_ _
    go_wp2
    go_ret
    exact ⟨rfl, B1.out.trans (D2.out.mono B1.out.size)⟩
end Go.Proofs.YtbbaleambgaanaaGreatDoor.Etr
/-
  Layer 12: the package-level variables that the calls read, kept where a reader's blocks turn; from the lists of this layer's cards.
-/
namespace Go.Proofs.YtbbaleambgaanaaGreatDoor.Etr
open Go.RowKit Go.Proofs.YtbbaleambgaanaaGreatDoor.Fit Pxr

/-- the variables, and that they lie below block B -/
structure MV (B : Nat) (w : World) : Prop where
  v : MVars w
  s : B ≤ w.heap.size
  g : 2 < B ∧ 1 < B ∧ 0 < B ∧ 6 < B ∧ 7 < B
structure FV (B : Nat) (w : World) : Prop where
  v : FVars w
  s : B ≤ w.heap.size
  g : 2 < B ∧ 1 < B ∧ 0 < B

theorem var_lt {w : World} {g : Nat} {n : String} {cs : Array Value} (hg : Tryz.prog.globalNamed n = some g) (h : w.var? Tryz.prog n = some cs) : g < w.heap.size := by
  unfold World.var? at h
  rw [hg] at h
  rcases Nat.lt_or_ge g w.heap.size with h' | h'
  · exact h'
  · simp [Array.getElem?_eq_none h'] at h
theorem var_under {w w' : World} {B g : Nat} {n : String} {cs : Array Value} (hg : Tryz.prog.globalNamed n = some g) (h : w.var? Tryz.prog n = some cs) (hb : Below B w w') (hB : g < B) : w'.var? Tryz.prog n = some cs := by
  unfold World.var? at h ⊢
  rw [hg] at h ⊢
  rw [← h]
  simp only [Option.bind_some]
  rw [hb.block g hB]
theorem FV.of {w : World} (h : FVars w) : FV w.heap.size w := ⟨h, Nat.le_refl _, tab_lt h.v.tab, cell_lt h.v.k0, var_lt gTys h.tys⟩
theorem MV.of {w : World} (h : MVars w) : MV w.heap.size w := by
  obtain ⟨f, ⟨a, b, c⟩, ⟨d, e, g⟩⟩ := h
  exact ⟨⟨f, ⟨a, b, c⟩, ⟨d, e, g⟩⟩, Nat.le_refl _, tab_lt f.v.tab, cell_lt f.v.k0, var_lt gTys f.tys, var_lt gSyn c, var_lt gRng g⟩
theorem FV.below {B : Nat} {w w' : World} (h : FV B w) (hb : Below B w w') : FV B w' := by
  obtain ⟨⟨v, t⟩, s, g1, g2, g3⟩ := h
  refine ⟨⟨⟨?_, (hb.cell (p := ⟨1, 0, none⟩) g2).trans v.k0, (hb.cell (p := ⟨1, 1, none⟩) g2).trans v.k1, (hb.cell (p := ⟨1, 2, none⟩) g2).trans v.k2⟩, var_under gTys t hb g3⟩, Nat.le_trans s hb.size, g1, g2, g3⟩
  exact var_under (by kernel_rfl : Tryz.prog.globalNamed "internal/strconv.uint64pow10" = some 2) v.tab hb g1
theorem MV.f {B : Nat} {w : World} (h : MV B w) : FV B w := ⟨h.v.f, h.s, h.g.1, h.g.2.1, h.g.2.2.1⟩
theorem MV.below {B : Nat} {w w' : World} (h : MV B w) (hb : Below B w w') : MV B w' := by
  have f := h.f.below hb
  obtain ⟨⟨_, ⟨a, b, c⟩, ⟨d, e, g⟩⟩, s, g1, g2, g3, g4, g5⟩ := h
  exact ⟨⟨f.v, ⟨a, b, var_under gSyn c hb g4⟩, ⟨d, e, var_under gRng g hb g5⟩⟩, f.s, g1, g2, g3, g4, g5⟩
theorem FV.go {B : Nat} {w w' : World} (h : FV B w) (hb : Below w.heap.size w w') : FV B w' := h.below (hb.mono h.s)
theorem MV.go {B : Nat} {w w' : World} (h : MV B w) (hb : Below w.heap.size w w') : MV B w' := h.below (hb.mono h.s)
theorem MV.out {B lo hi : Nat} {w w' : World} (h : MV B w) (ho : Out lo hi w w') (hB : B ≤ lo) : MV B w' := h.below (ho.below hB h.s)
theorem FV.out {B lo hi : Nat} {w w' : World} (h : FV B w) (ho : Out lo hi w w') (hB : B ≤ lo) : FV B w' := h.below (ho.below hB h.s)

/-- the shorter list -/
theorem fvars_of {W : World} {a b c d : String × DataW Unit} (h : laidMetH Tryz.prog [a, b, ("internal/strconv.uint64pow10", Rows.laid_internal_strconv_uint64pow10), c, ("paxtar/paxrec.keys", Rows.laid_paxtar_paxrec_keys), ("paxtar/fit.types", Rows.laid_paxtar_fit_types), d] W)
    (hp : ([a, b, ("internal/strconv.uint64pow10", Rows.laid_internal_strconv_uint64pow10), c, ("paxtar/paxrec.keys", Rows.laid_paxtar_paxrec_keys), ("paxtar/fit.types", Rows.laid_paxtar_fit_types), d].all fun x => x.2.handleName?.isNone) = true) : FVars W := by
  rw [MakeChecks.laidMetH_plain _ _ _ hp] at h
  have h1 := h.tail.tail
  have h2 := h1.tail.tail
  obtain ⟨k0, k1, k2⟩ := keys_of_head h2
  exact ⟨⟨tab_of_head h1, k0, k1, k2⟩, tys_of_head h2.tail⟩
/-- the longer list -/
theorem mvars_of {W : World} {a b c d : String × DataW Unit} (h : laidMetH Tryz.prog [a, b, ("internal/strconv.uint64pow10", Rows.laid_internal_strconv_uint64pow10), c, ("strconv.ErrRange", Rows.laid_strconv_ErrRange), ("strconv.ErrSyntax", Rows.laid_strconv_ErrSyntax), ("paxtar/paxrec.keys", Rows.laid_paxtar_paxrec_keys), ("paxtar/fit.types", Rows.laid_paxtar_fit_types), d] W)
    (hp : ([a, b, ("internal/strconv.uint64pow10", Rows.laid_internal_strconv_uint64pow10), c, ("strconv.ErrRange", Rows.laid_strconv_ErrRange), ("strconv.ErrSyntax", Rows.laid_strconv_ErrSyntax), ("paxtar/paxrec.keys", Rows.laid_paxtar_paxrec_keys), ("paxtar/fit.types", Rows.laid_paxtar_fit_types), d].all fun x => x.2.handleName?.isNone) = true) : MVars W := by
  rw [MakeChecks.laidMetH_plain _ _ _ hp] at h
  have h1 := h.tail.tail
  have h2 := h1.tail.tail
  have h3 := h2.tail
  have h4 := h3.tail
  obtain ⟨k0, k1, k2⟩ := keys_of_head h4
  obtain ⟨a0, s0, hr, -, -, -⟩ := laid_sentinel h2 gRng (by kernel_rfl : (Tryz.prog.globals[7]?).map (·.type) = some 120) Tryz.underlying120 rowE Tryz.underlying271 Tryz.underlying273 rfl rfl Tryz.underlying9 (by kernel_rfl) (by kernel_rfl)
  obtain ⟨a1, s1, hs, -, -, -⟩ := laid_sentinel h3 gSyn (by kernel_rfl : (Tryz.prog.globals[6]?).map (·.type) = some 120) Tryz.underlying120 rowE Tryz.underlying271 Tryz.underlying273 rfl rfl Tryz.underlying9 (by kernel_rfl) (by kernel_rfl)
  exact ⟨⟨⟨tab_of_head h1, k0, k1, k2⟩, tys_of_head h4.tail⟩, ⟨_, _, hs⟩, ⟨_, _, hr⟩⟩
end Go.Proofs.YtbbaleambgaanaaGreatDoor.Etr
