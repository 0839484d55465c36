/-
  UstarDecodeMatchesReference, walked.
-/
import Derived.Test.YtbgmhdhfcckbbaaDoorUstLawFns
import Derived.Test.YtbgmhdhfcckbbaaDoorUstDIface
import Derived.Test.YtbgmhdhfcckbbaaDoorUstOf
import Derived.Test.YtbgmhdhfcckbbaaDoorUstRefD
import Derived.Test.YtbgmhdhfcckbbaaDoorSwitch
namespace Go.Proofs.YtbgmhdhfcckbbaaDoor
open Go.RowKit
open Ust

set_option maxRecDepth 100000 in
set_option maxHeartbeats 8000000 in
theorem walk_UstarDecodeMatchesReference (a : Option Addr) (len cap : Nat) (zs : List Int) (w : World) (h : ArgInts .u8 w a len cap zs) :
    Calls Tryd.prog 4 #[.slice a len cap] w fun e w' => e = .returned (.bool true) ∧ Below w.heap.size w w' := by
  have hb := h.bytes
  have HB := Lib.hid hb; have HL := Lib.hid h.1; have HC := Lib.hid h.2.1; have HM := Lib.hid h.2.2.1
  have HZ : Hid (Bytes zs) := hb.bytes
  have hlm : (len : Int) ≤ 9223372036854775807 := by have := h.2.1; have := h.2.2.1; unfold maxLen at *; omega
  clear h hb
  by_cases h2 : 2000 < len
  · have h2' : (2000 : Int) < len := by omega
    go_enter Tryd.func4, Tryd.ntmps4
    go_wp2_with fail
    refine (alive_any w).mono ?_; rintro e w1 ⟨rfl, b1⟩
    have B1 := Lib.hid b1; clear b1
    go_wp2_with fail
    go_ret
    exact ⟨rfl, B1.out⟩
  · have h2' : ¬ (2000 : Int) < len := by omega
    obtain ⟨E, hE⟩ := named (deE zs)
    obtain ⟨T, nm, pf, lk, md, sz, hF⟩ := dH_form zs
    have HF := Lib.hid hF
    have H1 : Hid (∀ v ∈ hdV T nm pf lk md sz, v.oneCell' = true) := by
      intro v hv; simp at hv; rcases hv with rfl | rfl | rfl | rfl | rfl | rfl <;> rfl
    have hz1 : (Tryd.prog.info? 23).map (·.zero) = some (some (.agg hd0.toArray)) := by kernel_rfl
    have hs1 : (Tryd.prog.info? 23).map (·.size) = some 6 := by kernel_rfl
    have hz2 : (Tryd.prog.info? 32).map (·.zero) = some (some (.agg hd0.toArray)) := by kernel_rfl
    have hs2 : (Tryd.prog.info? 32).map (·.size) = some 6 := by kernel_rfl
    have HZ1 := Lib.hid hz1; have HS1 := Lib.hid hs1; have HZ2 := Lib.hid hz2; have HS2 := Lib.hid hs2
    have heq : ∀ w : World, (Op.equalIn 10000 32 (.agg (hdV T nm pf lk md sz).toArray) (.agg (hdV T nm pf lk md sz).toArray)).run Tryd.prog w = .ok true w := fun w => by
      rw [run_eqH 32 Tryd.underlying32 (by kernel_rfl)]; simp
    have NO : Hid (∀ w' : World, Calls Tryd.prog 13 #[.agg (hdV T nm pf lk md sz).toArray] w' fun e w'' => e = .returned (.agg (hdV T nm pf lk md sz).toArray) ∧ Below w'.heap.size w' w'') := fun w' => of_any T nm pf lk md sz w'
    clear hz1 hs1 hz2 hs2 hF
    go_enter Tryd.func4, Tryd.ntmps4
    go_wp2_with fail
    refine (dec_any a len cap zs w HB.out HL.out HZ.out HC.out HM.out).mono ?_; rintro e w1 ⟨rfl, b1⟩
    rw [HF.out, ← hE.out]
    have B1 := Lib.hid b1; clear b1
    go_wp2_with (first | (refine wpList_alloc_obj rfl 23 rfl hd0 HZ1.out ?_; intro w2 h2 b2; have H2 := Lib.hid h2; have B2 := Lib.hid b2; clear h2 b2) | (refine wpList_store_obj rfl 23 _ _ rfl w1.heap.size rfl (hdV T nm pf lk md sz) hd0 rfl 23 H2.out HS1.out rfl H1.out ?_; intro w3 h3 t3; have H3 := Lib.hid h3; have T3 := Lib.hid t3; clear h3 t3))
    have B3 := Lib.hid (B1.out.trans ((B2.out.mono B1.out.size).trans (T3.out.below B1.out.size)))
    refine (rdec_any a len cap zs w3 (HB.out.below B3.out) HL.out HZ.out HC.out HM.out).mono ?_; rintro e w4 ⟨rfl, b4⟩
    rw [HF.out, ← hE.out]
    have H4 := Lib.hid (H3.out.below b4 H3.out.lt)
    have B4 := Lib.hid (B3.out.trans (b4.mono B3.out.size)); clear b4
    go_wp2_with (first | (refine wpList_alloc_obj rfl 32 rfl hd0 HZ2.out ?_; intro w5 h5 b5; have H5 := Lib.hid h5; have B5 := Lib.hid b5; clear h5 b5) | (refine wpList_store_obj rfl 32 _ _ rfl w4.heap.size rfl (hdV T nm pf lk md sz) hd0 rfl 32 H5.out HS2.out rfl H1.out ?_; intro w6 h6 t6; have H6 := Lib.hid h6; have T6 := Lib.hid t6; clear h6 t6))
    have B6 := Lib.hid (B4.out.trans ((B5.out.mono B4.out.size).trans (T6.out.below B4.out.size)))
    have G6 : Hid (ObjAt w6 w1.heap.size 23 (hdV T nm pf lk md sz)) := (H4.out.below B5.out H4.out.lt).turned T6.out (by have := H4.out.lt; omega)
    have K6 : Hid (∀ w', Below w6.heap.size w6 w' → (fun w' => w'.cell? ⟨w1.heap.size, 0, none⟩ = some (.int .u8 T) ∧ w'.cell? ⟨w1.heap.size, 1, none⟩ = some (.string nm) ∧ w'.cell? ⟨w1.heap.size, 2, none⟩ = some (.string pf) ∧ w'.cell? ⟨w1.heap.size, 3, none⟩ = some (.string lk) ∧ w'.cell? ⟨w1.heap.size, 4, none⟩ = some (.int .i64 md) ∧ w'.cell? ⟨w1.heap.size, 5, none⟩ = some (.int .i64 sz) ∧ w'.cell? ⟨w4.heap.size, 0, none⟩ = some (.int .u8 T) ∧ w'.cell? ⟨w4.heap.size, 1, none⟩ = some (.string nm) ∧ w'.cell? ⟨w4.heap.size, 2, none⟩ = some (.string pf) ∧ w'.cell? ⟨w4.heap.size, 3, none⟩ = some (.string lk) ∧ w'.cell? ⟨w4.heap.size, 4, none⟩ = some (.int .i64 md) ∧ w'.cell? ⟨w4.heap.size, 5, none⟩ = some (.int .i64 sz)) w') := fun w' hb => ⟨(G6.out.below hb G6.out.lt).get 0 rfl, (G6.out.below hb G6.out.lt).get 1 rfl, (G6.out.below hb G6.out.lt).get 2 rfl, (G6.out.below hb G6.out.lt).get 3 rfl, (G6.out.below hb G6.out.lt).get 4 rfl, (G6.out.below hb G6.out.lt).get 5 rfl, (H6.out.below hb H6.out.lt).get 0 rfl, (H6.out.below hb H6.out.lt).get 1 rfl, (H6.out.below hb H6.out.lt).get 2 rfl, (H6.out.below hb H6.out.lt).get 3 rfl, (H6.out.below hb H6.out.lt).get 4 rfl, (H6.out.below hb H6.out.lt).get 5 rfl⟩
    refine wp_region_held_drew (S := (fun w' => w'.cell? ⟨w1.heap.size, 0, none⟩ = some (.int .u8 T) ∧ w'.cell? ⟨w1.heap.size, 1, none⟩ = some (.string nm) ∧ w'.cell? ⟨w1.heap.size, 2, none⟩ = some (.string pf) ∧ w'.cell? ⟨w1.heap.size, 3, none⟩ = some (.string lk) ∧ w'.cell? ⟨w1.heap.size, 4, none⟩ = some (.int .i64 md) ∧ w'.cell? ⟨w1.heap.size, 5, none⟩ = some (.int .i64 sz) ∧ w'.cell? ⟨w4.heap.size, 0, none⟩ = some (.int .u8 T) ∧ w'.cell? ⟨w4.heap.size, 1, none⟩ = some (.string nm) ∧ w'.cell? ⟨w4.heap.size, 2, none⟩ = some (.string pf) ∧ w'.cell? ⟨w4.heap.size, 3, none⟩ = some (.string lk) ∧ w'.cell? ⟨w4.heap.size, 4, none⟩ = some (.int .i64 md) ∧ w'.cell? ⟨w4.heap.size, 5, none⟩ = some (.int .i64 sz))) (by kernel_rfl) (K6.out _ (Below.refl _ _).drew) (fun hHeld => ?_)
    refine wpAnyH_ready (rs := [0]) (by kernel_rfl) (by simp) ?_
    refine AllReadyH.cons (o := { dst := some 21, op := Go.Op.call { callee := Go.Callee.value (Go.Operand.func 10), args := #[], argTypes := #[] }, type := 4, pos := "law.go:45", after := #[], guard := none }) rfl (fun K hK => ?_) AllReadyH.nil
    go_simp
    refine (alive_any w6.drew).mono ?_; rintro e w7 ⟨rfl, b7⟩
    have B7 := Lib.hid ((Below.refl _ _).drew.trans b7); clear b7
    go_wp2_with fail
    refine hK.out _ _ (K6.out _ B7.out) (fun hHeld => ?_)
    clear hK K
    (try simp only [Act.put, List.setIfInBounds_toArray, List.set_cons_zero, List.set_cons_succ])
    refine wpAnyH_take (i := 1) (oi := { dst := some 22, op := Go.Op.move (Go.Operand.tmp 21), type := 4, pos := "law.go:45", after := #[{ on := 0, ground := Go.Ground.data }, { on := 0, ground := Go.Ground.chain }], guard := none }) (v := ?_) rfl (by kernel_rfl) (by kernel_rfl) (by kernel_rfl) (fun _ _ _ h => h) (Or.inl ⟨by rfl, ?_⟩) (by assumption) ?_
    rotate_left 1
    focus ((intro wS hSw; (try dsimp only at hSw); go_simp) <;> (try with_reducible rfl))
    simp only [Act.put, List.setIfInBounds_toArray, List.set_cons_zero, List.set_cons_succ]
    refine wpAnyH_take (i := 2) (oi := { dst := some 23, op := Go.Op.load 23 (Go.Operand.tmp 3), type := 23, pos := "law.go:45", after := #[{ on := 1, ground := Go.Ground.guard }], guard := some (1, true) }) (v := ?_) rfl (by kernel_rfl) (by kernel_rfl) (by kernel_rfl) (fun _ _ _ h => h) (Or.inl ⟨by rfl, ?_⟩) (by assumption) ?_
    rotate_left 1
    focus ((intro wS hSw; (try dsimp only at hSw); go_simp) <;> (try with_reducible rfl))
    simp only [Act.put, List.setIfInBounds_toArray, List.set_cons_zero, List.set_cons_succ]
    refine wpAnyH_take (i := 4) (oi := { dst := some 25, op := Go.Op.load 32 (Go.Operand.tmp 5), type := 32, pos := "law.go:45", after := #[{ on := 1, ground := Go.Ground.guard }], guard := some (1, true) }) (v := ?_) rfl (by kernel_rfl) (by kernel_rfl) (by kernel_rfl) (fun _ _ _ h => h) (Or.inl ⟨by rfl, ?_⟩) (by assumption) ?_
    rotate_left 1
    focus ((intro wS hSw; (try dsimp only at hSw); go_simp) <;> (try with_reducible rfl))
    simp only [Act.put, List.setIfInBounds_toArray, List.set_cons_zero, List.set_cons_succ]
    refine wpAnyH_ready (rs := [3]) (by kernel_rfl) (by simp) ?_
    refine AllReadyH.cons (o := { dst := some 24, op := Go.Op.call { callee := Go.Callee.value (Go.Operand.func 13), args := #[Go.Operand.tmp 23], argTypes := #[23] }, type := 32, pos := "law.go:45", after := #[{ on := 2, ground := Go.Ground.data }, { on := 1, ground := Go.Ground.chain }, { on := 1, ground := Go.Ground.guard }], guard := some (1, true) }) rfl (fun K hK => ?_) AllReadyH.nil
    go_simp
    refine (NO.out w7).mono ?_; rintro e w8 ⟨rfl, b8⟩
    have B8 := Lib.hid (B7.out.trans (b8.mono B7.out.size)); clear b8
    go_wp2_with fail
    refine hK.out _ _ (K6.out _ B8.out) (fun hHeld => ?_)
    clear hK K
    (try simp only [Act.put, List.setIfInBounds_toArray, List.set_cons_zero, List.set_cons_succ])
    refine wpAnyH_take (i := 5) (oi := { dst := some 26, op := Go.Op.binOp Go.BinOp.eql 32 (Go.Operand.tmp 24) (Go.Operand.tmp 25) 32, type := 4, pos := "law.go:45", after := #[{ on := 3, ground := Go.Ground.data }, { on := 4, ground := Go.Ground.data }, { on := 1, ground := Go.Ground.guard }], guard := some (1, true) }) (v := ?_) rfl (by kernel_rfl) (by kernel_rfl) (by kernel_rfl) (fun _ _ _ h => h) (Or.inl ⟨by rfl, ?_⟩) (by assumption) ?_
    rotate_left 1
    focus ((intro wS hSw; (try dsimp only at hSw); go_simp) <;> (try with_reducible rfl))
    simp only [Act.put, List.setIfInBounds_toArray, List.set_cons_zero, List.set_cons_succ]
    refine wpAnyH_take (i := 6) (oi := { dst := some 27, op := Go.Op.pick (Go.Operand.tmp 22) (Go.Operand.tmp 26) (Go.Operand.const (Go.Value.bool false)), type := 4, pos := "law.go:45", after := #[{ on := 1, ground := Go.Ground.data }, { on := 5, ground := Go.Ground.data }], guard := none }) (v := ?_) rfl (by kernel_rfl) (by kernel_rfl) (by kernel_rfl) (fun _ _ _ h => h) (Or.inl ⟨by rfl, ?_⟩) (by assumption) ?_
    rotate_left 1
    focus ((intro wS hSw; (try dsimp only at hSw); go_simp) <;> (try with_reducible rfl))
    simp only [Act.put, List.setIfInBounds_toArray, List.set_cons_zero, List.set_cons_succ]
    refine wpAnyH_take (i := 7) (oi := { dst := some 28, op := Go.Op.move (Go.Operand.tmp 27), type := 4, pos := "law.go:45", after := #[{ on := 6, ground := Go.Ground.data }, { on := 3, ground := Go.Ground.chain }], guard := none }) (v := ?_) rfl (by kernel_rfl) (by kernel_rfl) (by kernel_rfl) (fun _ _ _ h => h) (Or.inl ⟨by rfl, ?_⟩) (by assumption) ?_
    rotate_left 1
    focus ((intro wS hSw; (try dsimp only at hSw); go_simp) <;> (try with_reducible rfl))
    simp only [Act.put, List.setIfInBounds_toArray, List.set_cons_zero, List.set_cons_succ]
    refine wpAnyH_take (i := 8) (oi := { dst := some 29, op := Go.Op.move (Go.Operand.tmp 4), type := 27, pos := "law.go:45", after := #[{ on := 7, ground := Go.Ground.guard }], guard := some (7, true) }) (v := ?_) rfl (by kernel_rfl) (by kernel_rfl) (by kernel_rfl) (fun _ _ _ h => h) (Or.inl ⟨by rfl, ?_⟩) (by assumption) ?_
    rotate_left 1
    focus ((intro wS hSw; (try dsimp only at hSw); go_simp) <;> (try with_reducible rfl))
    simp only [Act.put, List.setIfInBounds_toArray, List.set_cons_zero, List.set_cons_succ]
    refine wpAnyH_take (i := 9) (oi := { dst := some 30, op := Go.Op.move (Go.Operand.tmp 6), type := 3, pos := "law.go:45", after := #[{ on := 7, ground := Go.Ground.guard }], guard := some (7, true) }) (v := ?_) rfl (by kernel_rfl) (by kernel_rfl) (by kernel_rfl) (fun _ _ _ h => h) (Or.inl ⟨by rfl, ?_⟩) (by assumption) ?_
    rotate_left 1
    focus ((intro wS hSw; (try dsimp only at hSw); go_simp) <;> (try with_reducible rfl))
    simp only [Act.put, List.setIfInBounds_toArray, List.set_cons_zero, List.set_cons_succ]
    refine wpAnyH_take (i := 10) (oi := { dst := some 31, op := Go.Op.binOp Go.BinOp.eql 3 (Go.Operand.tmp 29) (Go.Operand.tmp 30) 3, type := 4, pos := "law.go:45", after := #[{ on := 8, ground := Go.Ground.data }, { on := 9, ground := Go.Ground.data }, { on := 7, ground := Go.Ground.guard }], guard := some (7, true) }) (v := ?_) rfl (by kernel_rfl) (by kernel_rfl) (by kernel_rfl) (fun _ _ _ h => h) (Or.inl ⟨by rfl, ?_⟩) (by assumption) ?_
    rotate_left 1
    focus ((intro wS hSw; (try dsimp only at hSw); go_simp) <;> (try with_reducible rfl))
    simp only [Act.put, List.setIfInBounds_toArray, List.set_cons_zero, List.set_cons_succ]
    refine wpAnyH_take (i := 11) (oi := { dst := some 32, op := Go.Op.pick (Go.Operand.tmp 28) (Go.Operand.tmp 31) (Go.Operand.const (Go.Value.bool false)), type := 4, pos := "law.go:45", after := #[{ on := 7, ground := Go.Ground.data }, { on := 10, ground := Go.Ground.data }], guard := none }) (v := ?_) rfl (by kernel_rfl) (by kernel_rfl) (by kernel_rfl) (fun _ _ _ h => h) (Or.inl ⟨by rfl, ?_⟩) (by assumption) ?_
    rotate_left 1
    focus ((intro wS hSw; (try dsimp only at hSw); go_simp) <;> (try with_reducible rfl))
    simp only [Act.put, List.setIfInBounds_toArray, List.set_cons_zero, List.set_cons_succ]
    refine wpAnyH_take (i := 12) (oi := { dst := some 2, op := Go.Op.assign (Go.Operand.tmp 32), type := 4, pos := "law.go:45", after := #[{ on := 11, ground := Go.Ground.data }, { on := 7, ground := Go.Ground.chain }, { on := 0, ground := Go.Ground.phase }, { on := 1, ground := Go.Ground.phase }, { on := 2, ground := Go.Ground.phase }, { on := 3, ground := Go.Ground.phase }, { on := 4, ground := Go.Ground.phase }, { on := 5, ground := Go.Ground.phase }, { on := 6, ground := Go.Ground.phase }, { on := 7, ground := Go.Ground.phase }, { on := 8, ground := Go.Ground.phase }, { on := 9, ground := Go.Ground.phase }, { on := 10, ground := Go.Ground.phase }, { on := 11, ground := Go.Ground.phase }], guard := none }) (v := ?_) rfl (by kernel_rfl) (by kernel_rfl) (by kernel_rfl) (fun _ _ _ h => h) (Or.inl ⟨by rfl, ?_⟩) (by assumption) ?_
    rotate_left 1
    focus ((intro wS hSw; (try dsimp only at hSw); go_simp) <;> (try with_reducible rfl))
    simp only [Act.put, List.setIfInBounds_toArray, List.set_cons_zero, List.set_cons_succ]
    refine wpAnyH_done (by kernel_rfl) ?_ _
    go_wp2_with fail
    go_ret
    exact ⟨rfl, B6.out.trans (B8.out.mono B6.out.size)⟩
end Go.Proofs.YtbgmhdhfcckbbaaDoor
