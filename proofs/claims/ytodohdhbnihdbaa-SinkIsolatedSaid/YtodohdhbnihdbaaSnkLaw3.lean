/-
  SinkIsolated, walked.
-/
import Derived.Test.YtodohdhbnihdbaaSnkCat
namespace Go.Proofs.Ytodohdhbnihdbaa
open Go.RowKit

theorem only_cell (w : World) (g i : Nat) (v : Value) : Only (fun q => q = g) w (w.setCell ⟨g, i, none⟩ v) := (Only.refl (fun q => q = g) w).setCell (p := ⟨g, i, none⟩) (.inl rfl) v

set_option maxRecDepth 100000 in
set_option maxHeartbeats 8000000 in
theorem walk_SinkIsolated (ca : Option Addr) (cl cc : Nat) (cs : List Int) (F : Int) (a : Option Addr) (len cap : Nat) (zs : List Int) (w : World) (hc : ArgInts .i64 w ca cl cc cs) (hwf : (Lit.int .i64 F).wf = true)
    (hz : ArgInts .u8 w a len cap zs) :
    Calls Try.prog 5 #[.agg #[.slice ca cl cc, .int .i64 F], .slice a len cap] w fun e w' => e = .returned (.bool true) ∧ Below w.heap.size w w' := by
  have HB := Lib.hid hz.bytes; have HL := Lib.hid hz.1; have HC := Lib.hid hz.2.1; have HI := Lib.hid hc.inK; have HCL := Lib.hid hc.1
  have hFF := (bounds_i64 hwf).2
  clear hz hc hwf
  by_cases h2000 : (2000 : Int) < len
  · go_enter Try.func5, Try.ntmps5
    go_wp2_with (first | (refine wpList_box_obj rfl 24 _ rfl [.slice ca cl cc, .int .i64 F] rfl ?_; intro w1 h1 b1; have H1 := Lib.hid h1; have B1 := Lib.hid b1; have c0 := h1.get 0 rfl; have c1 := h1.get 1 rfl; clear h1 b1))
    refine (alive_any _).mono ?_; rintro e w2 ⟨rfl, b2⟩
    go_wp2
    go_ret
    exact ⟨rfl, B1.out.trans (b2.mono B1.out.size)⟩
  · by_cases h300 : (300 : Int) < cl
    · go_enter Try.func5, Try.ntmps5
      go_wp2_with (first | (refine wpList_box_obj rfl 24 _ rfl [.slice ca cl cc, .int .i64 F] rfl ?_; intro w1 h1 b1; have H1 := Lib.hid h1; have B1 := Lib.hid b1; have c0 := h1.get 0 rfl; have c1 := h1.get 1 rfl; clear h1 b1))
      refine (alive_any _).mono ?_; rintro e w2 ⟨rfl, b2⟩
      go_wp2
      go_ret
      exact ⟨rfl, B1.out.trans (b2.mono B1.out.size)⟩
    · have he : (Try.prog.info? 5).map (·.size) = some 1 := by obtain ⟨i, h1, _, h2, _⟩ := u8T; simp [h1, h2]
      have HE1 := Lib.hid he; clear he
      have he : (Try.prog.info? 3).map (·.size) = some 1 := by obtain ⟨i, h1, _, h2, _⟩ := i64T; simp [h1, h2]
      have HE2 := Lib.hid he; clear he
      go_enter Try.func5, Try.ntmps5
      go_wp2_with (first | (refine wpList_box_obj rfl 24 _ rfl [.slice ca cl cc, .int .i64 F] rfl ?_; intro w1 h1 b1; have H1 := Lib.hid h1; have B1 := Lib.hid b1; have c0 := h1.get 0 rfl; have c1 := h1.get 1 rfl; clear h1 b1) | (refine wpList_lit_k rfl 22 3 .i64 rfl Try.underlying22 HE2.out ?_; intro w2 h2 b2; have O2 := Lib.hid h2; have B2 := Lib.hid b2; clear h2 b2; have c0 := H1.out.below B2.out H1.out.lt |>.get 0 rfl; have c1 := H1.out.below B2.out H1.out.lt |>.get 1 rfl) | (at_builtin; refine wpList_append_k rfl _ _ 22 rfl w1.heap.size 3 .i64 8 Try.underlying22 i64T _ 0 [] rfl O2.out ca cl cc cs rfl ((HI.out.below B1.out).below B2.out) HCL.out (by unfold maxLen; omega) (by omega) B2.out.size ?_; intro v3 w3 h3 b3; rw [Nat.zero_add, List.nil_append] at h3; have O3 := Lib.hid h3; have B3 := Lib.hid (B2.out.trans b3); clear h3 b3; have c0 := H1.out.below B3.out H1.out.lt |>.get 0 rfl; have c1 := H1.out.below B3.out H1.out.lt |>.get 1 rfl) | (refine wpList_lit_k rfl 31 5 .u8 rfl Try.underlying31 HE1.out ?_; intro w4 h4 b4; have O4 := Lib.hid h4; have B4 := Lib.hid b4; clear h4 b4) | (at_builtin; refine wpList_append_k rfl _ _ 31 rfl w3.heap.size 5 .u8 1 Try.underlying31 u8T _ 0 [] rfl O4.out a len cap zs rfl (((HB.out.below B1.out).below B3.out).below B4.out).inK HL.out (by unfold maxLen; omega) (by omega) B4.out.size ?_; intro v5 w5 h5 b5; rw [Nat.zero_add, List.nil_append] at h5; have O5 := Lib.hid h5; have B5 := Lib.hid (B4.out.trans b5); clear h5 b5; have c0 := H1.out.below (B3.out.trans (B5.out.mono B3.out.size)) H1.out.lt |>.get 0 rfl; have c1 := H1.out.below (B3.out.trans (B5.out.mono B3.out.size)) H1.out.lt |>.get 1 rfl))
      obtain ⟨pb, pc, rfl, _, _, _, _, px⟩ := own_any O3.out
      have op5 := own_keep O3.out B5.out (Nat.le_refl _)
      obtain ⟨ob, oc, rfl, _, oc1, _, _, ox⟩ := own_any O5.out
      have OP5 := Lib.hid op5; have PX := Lib.hid px; have OX := Lib.hid ox; have OC := Lib.hid oc1
      have PK := Lib.hid (own_in op5)
      have G1 := Lib.hid B1.out.size; have G3 := Lib.hid B3.out.size; have G5 := Lib.hid B5.out.size; have LT := Lib.hid H1.out.lt
      have T5 := Lib.hid (B1.out.trans ((B3.out.trans (B5.out.mono B3.out.size)).mono B1.out.size))
      have HB5 := Lib.hid (((HB.out.below B1.out).below B3.out).below B5.out)
      have HI5 := Lib.hid (((HI.out.below B1.out).below B3.out).below B5.out)
      have L5 : w.heap.size < w5.heap.size := by have := G1.out; have := G3.out; have := G5.out; have := LT.out; omega
      have K0 : Hid (∀ w', Below w5.heap.size w5 w' → w'.cell? ⟨w.heap.size, 0, none⟩ = some (.slice ca cl cc) ∧ w'.cell? ⟨w.heap.size, 1, none⟩ = some (.int .i64 F)) := fun w' hb => ⟨(hb.cell (p := ⟨w.heap.size, 0, none⟩) L5).trans c0, (hb.cell (p := ⟨w.heap.size, 1, none⟩) L5).trans c1⟩
      clear op5 px ox oc1 L5 c0 c1
      refine wp_region_held_drew (S := (fun w' => w'.cell? ⟨w.heap.size, 0, none⟩ = some (.slice ca cl cc) ∧ w'.cell? ⟨w.heap.size, 1, none⟩ = some (.int .i64 F))) (by kernel_rfl) (K0.out _ (Below.refl _ _).drew) (fun hHeld => ?_)
      refine wpAnyH_take (i := 0) (oi := { dst := some 34, op := Go.Op.move (Go.Operand.tmp 5), type := 22, pos := "law.go:99", after := #[], guard := none }) (v := ?_) rfl (by kernel_rfl) (by kernel_rfl) (by kernel_rfl) (fun _ _ _ h => h) (Or.inl ⟨by rfl, ?_⟩) (by assumption) ?_
      rotate_left 1
      focus ((intro wS hSw; (try dsimp only at hSw); go_simp) <;> (try with_reducible rfl))
      simp only [Act.put, List.setIfInBounds_toArray, List.set_cons_zero, List.set_cons_succ]
      refine wpAnyH_take (i := 1) (oi := { dst := some 35, op := Go.Op.fieldAddr 24 (Go.Operand.tmp 2) 1, type := 0, pos := "law.go:99", after := #[], guard := none }) (v := ?_) rfl (by kernel_rfl) (by kernel_rfl) (by kernel_rfl) (fun _ _ _ h => h) (Or.inl ⟨by rfl, ?_⟩) (by assumption) ?_
      rotate_left 1
      focus ((intro wS hSw; (try dsimp only at hSw); go_simp) <;> (try with_reducible rfl))
      simp only [Act.put, List.setIfInBounds_toArray, List.set_cons_zero, List.set_cons_succ]
      refine wpAnyH_take (i := 2) (oi := { dst := some 36, op := Go.Op.load 2 (Go.Operand.tmp 35), type := 2, pos := "law.go:99", after := #[{ on := 1, ground := Go.Ground.data }], guard := none }) (v := ?_) rfl (by kernel_rfl) (by kernel_rfl) (by kernel_rfl) (fun _ _ _ h => h) (Or.inl ⟨by rfl, ?_⟩) (by assumption) ?_
      rotate_left 1
      focus ((intro wS hSw; (try dsimp only at hSw); go_simp) <;> (try with_reducible rfl))
      simp only [Act.put, List.setIfInBounds_toArray, List.set_cons_zero, List.set_cons_succ]
      refine wpAnyH_take (i := 3) (oi := { dst := some 37, op := Go.Op.build 24 #[(0, Go.Operand.tmp 34), (1, Go.Operand.tmp 36)], type := 24, pos := "law.go:99", after := #[{ on := 0, ground := Go.Ground.data }, { on := 2, ground := Go.Ground.data }], guard := none }) (v := ?_) rfl (by kernel_rfl) (by kernel_rfl) (by kernel_rfl) (fun _ _ _ h => h) (Or.inl ⟨by rfl, ?_⟩) (by assumption) ?_
      rotate_left 1
      focus ((intro wS hSw; (try dsimp only at hSw); go_simp) <;> (try with_reducible rfl))
      simp only [Act.put, List.setIfInBounds_toArray, List.set_cons_zero, List.set_cons_succ]
      refine wpAnyH_take (i := 5) (oi := { dst := some 39, op := Go.Op.load 24 (Go.Operand.tmp 2), type := 24, pos := "law.go:99", after := #[], guard := none }) (v := ?_) rfl (by kernel_rfl) (by kernel_rfl) (by kernel_rfl) (fun _ _ _ h => h) (Or.inl ⟨by rfl, ?_⟩) (by assumption) ?_
      rotate_left 1
      focus ((intro wS hSw; (try dsimp only at hSw); go_simp) <;> (try with_reducible rfl))
      simp only [Act.put, List.setIfInBounds_toArray, List.set_cons_zero, List.set_cons_succ]
      refine wpAnyH_ready (rs := [4]) (by kernel_rfl) (by simp) ?_
      refine AllReadyH.cons (o := { dst := some 38, op := Go.Op.call { callee := Go.Callee.value (Go.Operand.func 14), args := #[Go.Operand.tmp 37], argTypes := #[24] }, type := 27, pos := "law.go:99", after := #[{ on := 3, ground := Go.Ground.data }], guard := none }) rfl (fun K hK => ?_) AllReadyH.nil
      go_simp
      refine (snk_new pb cl pc cs F _ (PK.out.below (Below.refl _ _).drew) HCL.out (by omega)).mono ?_; rintro e w6 ⟨s, rfl, s6, b6⟩; have S6 := Lib.hid s6; have B6 := Lib.hid ((Below.refl w5.heap.size w5).drew.trans b6); clear s6 b6
      go_wp2_with fail
      refine hK.out _ _ (K0.out _ B6.out) (fun hHeld => ?_)
      clear hK K
      (try simp only [Act.put, List.setIfInBounds_toArray, List.set_cons_zero, List.set_cons_succ])
      refine wpAnyH_ready (rs := [6]) (by kernel_rfl) (by simp) ?_
      refine AllReadyH.cons (o := { dst := some 40, op := Go.Op.call { callee := Go.Callee.value (Go.Operand.func 14), args := #[Go.Operand.tmp 39], argTypes := #[24] }, type := 27, pos := "law.go:99", after := #[{ on := 5, ground := Go.Ground.data }, { on := 4, ground := Go.Ground.chain }], guard := none }) rfl (fun K hK => ?_) AllReadyH.nil
      go_simp
      refine (snk_new ca cl cc cs F _ (HI5.out.below B6.out) HCL.out (by omega)).mono ?_; rintro e w7 ⟨t, rfl, s7, b7⟩; have S7 := Lib.hid s7; have B7 := Lib.hid b7; clear s7 b7
      go_wp2_with fail
      refine hK.out _ _ (K0.out _ (B6.out.trans (B7.out.mono B6.out.size))) (fun hHeld => ?_)
      clear hK K
      (try simp only [Act.put, List.setIfInBounds_toArray, List.set_cons_zero, List.set_cons_succ])
      refine wpAnyH_take (i := 7) (oi := { dst := some 7, op := Go.Op.assign (Go.Operand.tmp 38), type := 27, pos := "law.go:99", after := #[{ on := 4, ground := Go.Ground.data }, { on := 6, ground := Go.Ground.chain }, { on := 0, ground := Go.Ground.phase }, { on := 1, ground := Go.Ground.phase }, { on := 2, ground := Go.Ground.phase }, { on := 3, ground := Go.Ground.phase }, { on := 4, ground := Go.Ground.phase }, { on := 5, ground := Go.Ground.textOnly Go.Departure.lateStores }, { on := 6, ground := Go.Ground.textOnly Go.Departure.lateStoresUnsure }], guard := none }) (v := ?_) rfl (by kernel_rfl) (by kernel_rfl) (by kernel_rfl) (fun _ _ _ h => h) (Or.inl ⟨by rfl, ?_⟩) (by assumption) ?_
      rotate_left 1
      focus ((intro wS hSw; (try dsimp only at hSw); go_simp) <;> (try with_reducible rfl))
      simp only [Act.put, List.setIfInBounds_toArray, List.set_cons_zero, List.set_cons_succ]
      refine wpAnyH_take (i := 8) (oi := { dst := some 8, op := Go.Op.assign (Go.Operand.tmp 40), type := 27, pos := "law.go:99", after := #[{ on := 6, ground := Go.Ground.data }, { on := 7, ground := Go.Ground.chain }, { on := 0, ground := Go.Ground.phase }, { on := 1, ground := Go.Ground.phase }, { on := 2, ground := Go.Ground.phase }, { on := 3, ground := Go.Ground.phase }, { on := 4, ground := Go.Ground.phase }, { on := 5, ground := Go.Ground.phase }, { on := 6, ground := Go.Ground.phase }, { on := 7, ground := Go.Ground.phase }], guard := none }) (v := ?_) rfl (by kernel_rfl) (by kernel_rfl) (by kernel_rfl) (fun _ _ _ h => h) (Or.inl ⟨by rfl, ?_⟩) (by assumption) ?_
      rotate_left 1
      focus ((intro wS hSw; (try dsimp only at hSw); go_simp) <;> (try with_reducible rfl))
      simp only [Act.put, List.setIfInBounds_toArray, List.set_cons_zero, List.set_cons_succ]
      refine wpAnyH_done (by kernel_rfl) ?_ _
      have Z6 := Lib.hid B6.out.size; have Z7 := Lib.hid B7.out.size
      have B57 := Lib.hid (B6.out.trans (B7.out.mono B6.out.size))
      have T7 := Lib.hid (T5.out.trans (B57.out.mono T5.out.size))
      have OP7 := Lib.hid (own_keep OP5.out B57.out (Nat.le_refl _))
      have OW7 := Lib.hid (own_keep O5.out B57.out (Nat.le_refl _))
      have S6' := Lib.hid (S6.out.below B7.out)
      obtain ⟨S1, hS1⟩ := named (fun k => w5.heap.size ≤ k ∧ k < w6.heap.size)
      obtain ⟨S2, hS2⟩ := named (fun k => w6.heap.size ≤ k ∧ k < w7.heap.size)
      have S6'' : Hid (Snk w7 S1 s [] F cs 0) := by show Snk _ _ _ _ _ _ _; rw [hS1.out]; exact S6'.out
      have S7'' : Hid (Snk w7 S2 t [] F cs 0) := by show Snk _ _ _ _ _ _ _; rw [hS2.out]; exact S7.out
      have H12 : Hid (∀ k, S1 k → w5.heap.size ≤ k ∧ k < w6.heap.size) := by show ∀ _, _; rw [hS1.out]; exact fun _ h => h
      have H22 : Hid (∀ k, S2 k → w6.heap.size ≤ k) := by show ∀ _, _; rw [hS2.out]; exact fun _ h => h.1
      clear S6 S6' S7
      go_wp2_with fail
      go_loopw [9, 49] (fun _ i wr => ∃ (q : Nat) (ps : List Int), q ≤ cl ∧ i = .int .i64 q ∧ ps.length = cl ∧ wr.ownsRow w1.heap.size 3 1 (.slice pb cl pc) cl (ps.map (.int .i64)) ∧ wr.ownsRow w3.heap.size 5 1 (.slice ob len oc) len (zs.map (.int .u8)) ∧
        Snk wr S1 s [] F cs 0 ∧ Snk wr S2 t [] F cs 0 ∧ Below w.heap.size w wr) (fun _ i _ => cl - (intOf i).toNat)
      case atStart => exact ⟨0, cs, Nat.zero_le _, rfl, HCL.out, OP7.out, OW7.out, S6''.out, S7''.out, T7.out⟩
      case round =>
        obtain ⟨q, ps, hq, rfl, hpl, hownp, hown, hs, ht, hbel⟩ := hrel
        have PL := Lib.hid hpl; have OP := Lib.hid hownp; have OW := Lib.hid hown; have SS := Lib.hid hs; have ST := Lib.hid ht; have BR := Lib.hid hbel
        clear hpl hownp hown hs ht hbel
        by_cases hlq : q < cl
        · obtain ⟨g, cap', hv, hbg⟩ := own_shape OP.out (by omega)
          simp only [Value.slice.injEq, true_and] at hv
          obtain ⟨rfl, rfl⟩ := hv
          have hcell : wr.cell? ⟨g, q, none⟩ = some (.int .i64 (ps.getD q 0)) := by
            rw [OP.out.cellAt q (by omega), List.getElem?_map, List.getElem?_eq_getElem (by rw [PL.out]; exact hlq), List.getD_eq_getElem?_getD, List.getElem?_eq_getElem (by rw [PL.out]; exact hlq)]; rfl
          have hfz := OP.out.frozenAt q
          have hlq' : (q : Int) < cl := by omega
          have hgx := PX.out _ rfl
          have GX := Lib.hid (show w1.heap.size ≤ g ∧ g < w3.heap.size from ⟨hgx.1, hgx.2.1⟩)
          clear hgx
          go_wp2
          go_roundw
          case rel =>
            have hgx := GX.out; have g1 := G1.out; have g3 := G3.out; have g5 := G5.out; have z6 := Z6.out
            have ho := only_cell wr g q (.int .i64 1)
            have hst := (OP.out.stored q (.int .i64 1)).1
            rw [← List.map_set] at hst
            exact ⟨q + 1, ps.set q 1, by omega, by go_num, by rw [List.length_set]; exact PL.out, hst, own_only' OW.out ho (fun x hx h => by have := (OX.out x hx).1; omega), SS.out.only ho (fun k hk h => by have := (H12.out k hk).1; omega), ST.out.only ho (fun k hk h => by have := H22.out k hk; omega), BR.out.setCell (by show w.heap.size ≤ g; omega) _⟩
          case measure => simp [intOf]; omega
        · obtain rfl : cl = q := by omega
          clear OP PL PX
          obtain ⟨K, hK⟩ := named (wrK cs F 0 0 len)
          obtain ⟨E, hE⟩ := named (wrE F 0 len)
          obtain ⟨R, hR⟩ := named (wrR F 0 0 len)
          obtain ⟨X, hX⟩ := named (zs.take K)
          have ez : ([] : List Int).length = 0 := rfl
          go_wp2_with fail
          refine (snk_write ob len oc zs wr SS.out (own_bt OW.out HB.out.bytes) HL.out OC.out (by simp; omega) hFF).mono ?_; rintro e w8 ⟨rfl, s8, o8⟩
          rw [ez, List.nil_append, ← hK.out, ← hR.out, ← hX.out] at s8
          rw [ez, ← hK.out, ← hE.out]
          have S8 := Lib.hid s8; have Q8 := Lib.hid o8
          have T8 := Lib.hid (ST.out.only o8 (fun k hk h => by have := H22.out k hk; have := (H12.out k h).2; omega))
          have OW8 := Lib.hid (own_only' OW.out o8 (fun x hx h => by have := (OX.out x hx).2.1; have := (H12.out _ h).1; omega))
          have B8 := Lib.hid (BR.out.trans (o8.below (B := w.heap.size) (fun k hk => by have := (H12.out k hk).1; have := T5.out.size; omega) BR.out.size))
          have HS8 : Hid (∀ k, Grow S1 wr w8 k → w5.heap.size ≤ k ∧ ¬ S2 k) := fun k hk => hk.elim (fun h => ⟨(H12.out k h).1, fun h2 => by have := H22.out k h2; have := (H12.out k h).2; omega⟩) (fun h => ⟨by have := SS.out.lt s SS.out.me; have := (H12.out s SS.out.me).1; omega, fun h2 => by have := ST.out.lt k h2; omega⟩)
          obtain ⟨S1', hS1'⟩ := named (Grow S1 wr w8)
          rw [← hS1'.out] at S8 HS8
          clear s8 o8
          go_wp2_with fail
          refine (snk_write a len cap zs w8 T8.out (HB.out.block B8.out.size (fun _ _ h => B8.out.block _ h)) HL.out HC.out (by simp; omega) hFF).mono ?_; rintro e w9 ⟨rfl, s9, o9⟩
          rw [ez, List.nil_append, ← hK.out, ← hR.out, ← hX.out] at s9
          rw [ez, ← hK.out, ← hE.out]
          have T9 := Lib.hid s9
          have S9 := Lib.hid (S8.out.only o9 (fun k hk h => (HS8.out k hk).2 h))
          have OW9 := Lib.hid (own_only' OW8.out o9 (fun x hx h => by have := (OX.out x hx).2.1; have := H22.out _ h; have := Z6.out; omega))
          have B9 := Lib.hid (B8.out.trans (o9.below (B := w.heap.size) (fun k hk => by have := H22.out k hk; have := Z6.out; have := T5.out.size; omega) B8.out.size))
          have HT9 : Hid (∀ k, Grow S2 w8 w9 k → w5.heap.size ≤ k ∧ ¬ S1' k) := fun k hk => hk.elim (fun h => ⟨by have := H22.out k h; have := Z6.out; omega, fun h2 => (HS8.out k h2).2 h⟩) (fun h => ⟨by have := S8.out.lt s S8.out.me; have := (HS8.out s S8.out.me).1; omega, fun h2 => by have := S8.out.lt k h2; omega⟩)
          obtain ⟨S2', hS2'⟩ := named (Grow S2 w8 w9)
          rw [← hS2'.out] at T9 HT9
          have HS9 : Hid (∀ k, S1' k → w5.heap.size ≤ k) := fun k hk => (HS8.out k hk).1
          obtain ⟨N, hN⟩ := named X.length
          have hN2 : N ≤ 2000 := by have h : X.length ≤ len := by rw [hX.out, List.length_take, HL.out]; omega
                                    have := hN.out; omega
          clear s9 o9 SS ST BR OW OW8 S8 T8 B8 ez Q8
          go_wp2_with fail
          go_loopw [14, 70] (fun _ i wr => ∃ (q : Nat) (ys : List Int), q ≤ len ∧ i = .int .i64 q ∧ ys.length = len ∧ Bytes ys ∧ wr.ownsRow w3.heap.size 5 1 (.slice ob len oc) len (ys.map (.int .u8)) ∧ Snk wr S1' s X F cs R ∧ Snk wr S2' t X F cs R ∧ Below w.heap.size w wr) (fun _ i _ => len - (intOf i).toNat)
          case atStart => exact ⟨0, zs, Nat.zero_le _, rfl, HL.out, HB.out.bytes, OW9.out, S9.out, T9.out, B9.out⟩
          case round =>
            clear OW9 S9 T9 B9
            obtain ⟨q, ys, hq, rfl, hyl, hyb, hown, hs, ht, hbel⟩ := hrel
            have YL := Lib.hid hyl; have YB := Lib.hid hyb; have OW := Lib.hid hown; have SS := Lib.hid hs; have ST := Lib.hid ht; have BR := Lib.hid hbel
            clear hyl hyb hown hs ht hbel
            by_cases hlt : q < len
            · obtain ⟨g, cap', hv, hbg⟩ := own_shape OW.out (by omega)
              simp only [Value.slice.injEq, true_and] at hv
              obtain ⟨rfl, rfl⟩ := hv
              obtain ⟨d, hd⟩ := named (ys.getD q 0)
              obtain ⟨v, hv⟩ := xor_bd d
              have hxor := hv.out.1
              have hcell : wr.cell? ⟨g, q, none⟩ = some (.int .u8 d) := by
                rw [OW.out.cellAt q (by omega), List.getElem?_map, List.getElem?_eq_getElem (by rw [YL.out]; exact hlt), hd.out, List.getD_eq_getElem?_getD, List.getElem?_eq_getElem (by rw [YL.out]; exact hlt)]; rfl
              have hfz := OW.out.frozenAt q
              have hlt' : (q : Int) < len := by omega
              have hgx := OX.out _ rfl
              have GX := Lib.hid (show w3.heap.size ≤ g ∧ g < w5.heap.size from ⟨hgx.1, hgx.2.1⟩)
              clear hgx
              go_wp2
              go_roundw
              case rel =>
                have hgx := GX.out; have g1 := G1.out; have g3 := G3.out; have g5 := G5.out
                have ho := only_cell wr g q (.int .u8 v)
                exact ⟨q + 1, ys.set q v, by omega, by go_num, by rw [List.length_set]; exact YL.out, YB.out.set q hv.out.2, own_store OW.out q v, SS.out.only ho (fun k hk h => by have := HS9.out k hk; omega), ST.out.only ho (fun k hk h => by have := (HT9.out k hk).1; omega), BR.out.setCell (by show w.heap.size ≤ g; omega) _⟩
              case measure => simp [intOf]; omega
            · obtain rfl : len = q := by omega
              clear OW YL YB
              go_wp2_with fail
              refine (sbytes_any wr SS.out).mono ?_; rintro e wb ⟨vb, rfl, ob', bb⟩
              rw [← hN.out] at ob'
              have SB := Lib.hid (SS.out.below bb); have TB := Lib.hid (ST.out.below bb); have BB := Lib.hid (BR.out.trans (bb.mono BR.out.size))
              obtain ⟨xa, xc, rfl, _⟩ := own_any ob'
              obtain ⟨Z, hZ⟩ := named wr.heap.size
              rw [← hZ.out] at ob'
              have OB := Lib.hid ob'
              have HZ1 : Hid (∀ k, S1' k → k < Z) := by show ∀ _, _; rw [hZ.out]; exact SS.out.lt
              have HZ2 : Hid (∀ k, S2' k → k < Z) := by show ∀ _, _; rw [hZ.out]; exact ST.out.lt
              have HZ0 : Hid (w.heap.size ≤ Z) := by show _ ≤ _; rw [hZ.out]; exact BR.out.size
              have XB : Hid (Bytes X) := SS.out.bytes.1
              clear ob' bb SS ST BR
              go_wp2_with fail
              go_loopw [16, 84] (fun _ i wr => ∃ (q : Nat) (ys : List Int), q ≤ N ∧ i = .int .i64 q ∧ ys.length = N ∧ Bytes ys ∧ wr.ownsRow Z 5 1 (.slice xa N xc) N (ys.map (.int .u8)) ∧ Snk wr S1' s X F cs R ∧ Snk wr S2' t X F cs R ∧ Below w.heap.size w wr) (fun _ i _ => N - (intOf i).toNat)
              case atStart => exact ⟨0, X, Nat.zero_le _, rfl, hN.out.symm, XB.out, OB.out, SB.out, TB.out, BB.out⟩
              case round =>
                clear OB SB TB BB
                obtain ⟨q, ys, hq, rfl, hyl, hyb, hown, hs, ht, hbel⟩ := hrel
                have YL := Lib.hid hyl; have YB := Lib.hid hyb; have OW := Lib.hid hown; have SX := Lib.hid hs; have TX := Lib.hid ht; have BR := Lib.hid hbel
                clear hyl hyb hown hs ht hbel
                by_cases hlt : q < N
                · obtain ⟨g, cap', hv, hbg⟩ := own_shape OW.out (by omega)
                  simp only [Value.slice.injEq, true_and] at hv
                  obtain ⟨rfl, rfl⟩ := hv
                  obtain ⟨d, hd⟩ := named (ys.getD q 0)
                  obtain ⟨v, hv⟩ := xor_bd d
                  have hxor := hv.out.1
                  have hcell : wr.cell? ⟨g, q, none⟩ = some (.int .u8 d) := by
                    rw [OW.out.cellAt q (by omega), List.getElem?_map, List.getElem?_eq_getElem (by rw [YL.out]; exact hlt), hd.out, List.getD_eq_getElem?_getD, List.getElem?_eq_getElem (by rw [YL.out]; exact hlt)]; rfl
                  have hfz := OW.out.frozenAt q
                  have hlt' : (q : Int) < N := by omega
                  have GX := Lib.hid hbg
                  clear hbg
                  go_wp2
                  go_roundw
                  case rel =>
                    have hgx := GX.out; have g0 := HZ0.out
                    have ho := only_cell wr g q (.int .u8 v)
                    exact ⟨q + 1, ys.set q v, by omega, by go_num, by rw [List.length_set]; exact YL.out, YB.out.set q hv.out.2, own_store OW.out q v, SX.out.only ho (fun k hk h => by have := HZ1.out k hk; omega), TX.out.only ho (fun k hk h => by have := HZ2.out k hk; omega), BR.out.setCell (by show w.heap.size ≤ g; omega) _⟩
                  case measure => simp [intOf]; omega
                · obtain rfl : N = q := by omega
                  clear OW YL YB
                  have hNX : Hid (X.length = N) := hN.out.symm
                  obtain ⟨SZ, hSZ⟩ := named (strOfNums X)
                  go_wp2_with fail
                  refine wp_region_held_drew (S := (fun w' => Below wr.heap.size wr w')) (by kernel_rfl) ((Below.refl _ _).drew) (fun hHeld => ?_)
                  refine wpAnyH_ready (rs := [0]) (by kernel_rfl) (by simp) ?_
                  refine AllReadyH.cons (o := { dst := some 94, op := Go.Op.call { callee := Go.Callee.value (Go.Operand.func 13), args := #[], argTypes := #[] }, type := 4, pos := "law.go:115", after := #[], guard := none }) rfl (fun K hK => ?_) AllReadyH.nil
                  go_simp
                  refine (alive_any _).mono ?_; rintro e w8 ⟨rfl, b8⟩; have B8 := Lib.hid ((Below.refl wr.heap.size wr).drew.trans b8); clear b8
                  go_wp2_with fail
                  refine hK.out _ _ (B8.out) (fun hHeld => ?_)
                  clear hK K
                  (try simp only [Act.put, List.setIfInBounds_toArray, List.set_cons_zero, List.set_cons_succ])
                  refine wpAnyH_take (i := 1) (oi := { dst := some 95, op := Go.Op.move (Go.Operand.tmp 94), type := 4, pos := "law.go:115", after := #[{ on := 0, ground := Go.Ground.data }, { on := 0, ground := Go.Ground.chain }], guard := none }) (v := ?_) rfl (by kernel_rfl) (by kernel_rfl) (by kernel_rfl) (fun _ _ _ h => h) (Or.inl ⟨by rfl, ?_⟩) (by assumption) ?_
                  rotate_left 1
                  focus ((intro wS hSw; (try dsimp only at hSw); go_simp) <;> (try with_reducible rfl))
                  simp only [Act.put, List.setIfInBounds_toArray, List.set_cons_zero, List.set_cons_succ]
                  refine wpAnyH_take (i := 2) (oi := { dst := some 96, op := Go.Op.move (Go.Operand.tmp 10), type := 3, pos := "law.go:115", after := #[{ on := 1, ground := Go.Ground.guard }], guard := some (1, true) }) (v := ?_) rfl (by kernel_rfl) (by kernel_rfl) (by kernel_rfl) (fun _ _ _ h => h) (Or.inl ⟨by rfl, ?_⟩) (by assumption) ?_
                  rotate_left 1
                  focus ((intro wS hSw; (try dsimp only at hSw); go_simp) <;> (try with_reducible rfl))
                  simp only [Act.put, List.setIfInBounds_toArray, List.set_cons_zero, List.set_cons_succ]
                  refine wpAnyH_take (i := 3) (oi := { dst := some 97, op := Go.Op.move (Go.Operand.tmp 12), type := 3, pos := "law.go:115", after := #[{ on := 1, ground := Go.Ground.guard }], guard := some (1, true) }) (v := ?_) rfl (by kernel_rfl) (by kernel_rfl) (by kernel_rfl) (fun _ _ _ h => h) (Or.inl ⟨by rfl, ?_⟩) (by assumption) ?_
                  rotate_left 1
                  focus ((intro wS hSw; (try dsimp only at hSw); go_simp) <;> (try with_reducible rfl))
                  simp only [Act.put, List.setIfInBounds_toArray, List.set_cons_zero, List.set_cons_succ]
                  refine wpAnyH_take (i := 4) (oi := { dst := some 98, op := Go.Op.binOp Go.BinOp.eql 3 (Go.Operand.tmp 96) (Go.Operand.tmp 97) 3, type := 4, pos := "law.go:115", after := #[{ on := 2, ground := Go.Ground.data }, { on := 3, ground := Go.Ground.data }, { on := 1, ground := Go.Ground.guard }], guard := some (1, true) }) (v := ?_) rfl (by kernel_rfl) (by kernel_rfl) (by kernel_rfl) (fun _ _ _ h => h) (Or.inl ⟨by rfl, ?_⟩) (by assumption) ?_
                  rotate_left 1
                  focus ((intro wS hSw; (try dsimp only at hSw); go_simp) <;> (try with_reducible rfl))
                  simp only [Act.put, List.setIfInBounds_toArray, List.set_cons_zero, List.set_cons_succ]
                  refine wpAnyH_take (i := 5) (oi := { dst := some 99, op := Go.Op.pick (Go.Operand.tmp 95) (Go.Operand.tmp 98) (Go.Operand.const (Go.Value.bool false)), type := 4, pos := "law.go:115", after := #[{ on := 1, ground := Go.Ground.data }, { on := 4, ground := Go.Ground.data }], guard := none }) (v := ?_) rfl (by kernel_rfl) (by kernel_rfl) (by kernel_rfl) (fun _ _ _ h => h) (Or.inl ⟨by rfl, ?_⟩) (by assumption) ?_
                  rotate_left 1
                  focus ((intro wS hSw; (try dsimp only at hSw); go_simp) <;> (try with_reducible rfl))
                  simp only [Act.put, List.setIfInBounds_toArray, List.set_cons_zero, List.set_cons_succ]
                  refine wpAnyH_take (i := 6) (oi := { dst := some 100, op := Go.Op.move (Go.Operand.tmp 99), type := 4, pos := "law.go:115", after := #[{ on := 5, ground := Go.Ground.data }, { on := 1, ground := Go.Ground.chain }], guard := none }) (v := ?_) rfl (by kernel_rfl) (by kernel_rfl) (by kernel_rfl) (fun _ _ _ h => h) (Or.inl ⟨by rfl, ?_⟩) (by assumption) ?_
                  rotate_left 1
                  focus ((intro wS hSw; (try dsimp only at hSw); go_simp) <;> (try with_reducible rfl))
                  simp only [Act.put, List.setIfInBounds_toArray, List.set_cons_zero, List.set_cons_succ]
                  refine wpAnyH_take (i := 7) (oi := { dst := some 101, op := Go.Op.move (Go.Operand.tmp 11), type := 28, pos := "law.go:115", after := #[{ on := 6, ground := Go.Ground.guard }], guard := some (6, true) }) (v := ?_) rfl (by kernel_rfl) (by kernel_rfl) (by kernel_rfl) (fun _ _ _ h => h) (Or.inl ⟨by rfl, ?_⟩) (by assumption) ?_
                  rotate_left 1
                  focus ((intro wS hSw; (try dsimp only at hSw); go_simp) <;> (try with_reducible rfl))
                  simp only [Act.put, List.setIfInBounds_toArray, List.set_cons_zero, List.set_cons_succ]
                  refine wpAnyH_take (i := 8) (oi := { dst := some 102, op := Go.Op.move (Go.Operand.tmp 13), type := 28, pos := "law.go:115", after := #[{ on := 6, ground := Go.Ground.guard }], guard := some (6, true) }) (v := ?_) rfl (by kernel_rfl) (by kernel_rfl) (by kernel_rfl) (fun _ _ _ h => h) (Or.inl ⟨by rfl, ?_⟩) (by assumption) ?_
                  rotate_left 1
                  focus ((intro wS hSw; (try dsimp only at hSw); go_simp) <;> (try with_reducible rfl))
                  simp only [Act.put, List.setIfInBounds_toArray, List.set_cons_zero, List.set_cons_succ]
                  refine wpAnyH_take (i := 9) (oi := { dst := some 103, op := Go.Op.binOp Go.BinOp.eql 28 (Go.Operand.tmp 101) (Go.Operand.tmp 102) 28, type := 4, pos := "law.go:115", after := #[{ on := 7, ground := Go.Ground.data }, { on := 8, ground := Go.Ground.data }, { on := 6, ground := Go.Ground.guard }], guard := some (6, true) }) (v := ?_) rfl (by kernel_rfl) (by kernel_rfl) (by kernel_rfl) (fun _ _ _ h => h) (Or.inl ⟨by rfl, ?_⟩) (by assumption) ?_
                  rotate_left 1
                  focus ((intro wS hSw; (try dsimp only at hSw); go_simp) <;> (try with_reducible rfl))
                  simp only [Act.put, List.setIfInBounds_toArray, List.set_cons_zero, List.set_cons_succ]
                  refine wpAnyH_take (i := 10) (oi := { dst := some 104, op := Go.Op.pick (Go.Operand.tmp 100) (Go.Operand.tmp 103) (Go.Operand.const (Go.Value.bool false)), type := 4, pos := "law.go:115", after := #[{ on := 6, ground := Go.Ground.data }, { on := 9, ground := Go.Ground.data }], guard := none }) (v := ?_) rfl (by kernel_rfl) (by kernel_rfl) (by kernel_rfl) (fun _ _ _ h => h) (Or.inl ⟨by rfl, ?_⟩) (by assumption) ?_
                  rotate_left 1
                  focus ((intro wS hSw; (try dsimp only at hSw); go_simp) <;> (try with_reducible rfl))
                  simp only [Act.put, List.setIfInBounds_toArray, List.set_cons_zero, List.set_cons_succ]
                  refine wpAnyH_take (i := 11) (oi := { dst := some 105, op := Go.Op.move (Go.Operand.tmp 104), type := 4, pos := "law.go:115", after := #[{ on := 10, ground := Go.Ground.data }, { on := 6, ground := Go.Ground.chain }], guard := none }) (v := ?_) rfl (by kernel_rfl) (by kernel_rfl) (by kernel_rfl) (fun _ _ _ h => h) (Or.inl ⟨by rfl, ?_⟩) (by assumption) ?_
                  rotate_left 1
                  focus ((intro wS hSw; (try dsimp only at hSw); go_simp) <;> (try with_reducible rfl))
                  simp only [Act.put, List.setIfInBounds_toArray, List.set_cons_zero, List.set_cons_succ]
                  refine wpAnyH_take (i := 12) (oi := { dst := some 106, op := Go.Op.move (Go.Operand.tmp 7), type := 27, pos := "law.go:115", after := #[{ on := 11, ground := Go.Ground.guard }], guard := some (11, true) }) (v := ?_) rfl (by kernel_rfl) (by kernel_rfl) (by kernel_rfl) (fun _ _ _ h => h) (Or.inl ⟨by rfl, ?_⟩) (by assumption) ?_
                  rotate_left 1
                  focus ((intro wS hSw; (try dsimp only at hSw); go_simp) <;> (try with_reducible rfl))
                  simp only [Act.put, List.setIfInBounds_toArray, List.set_cons_zero, List.set_cons_succ]
                  refine wpAnyH_take (i := 15) (oi := { dst := some 109, op := Go.Op.move (Go.Operand.tmp 8), type := 27, pos := "law.go:115", after := #[{ on := 11, ground := Go.Ground.guard }], guard := some (11, true) }) (v := ?_) rfl (by kernel_rfl) (by kernel_rfl) (by kernel_rfl) (fun _ _ _ h => h) (Or.inl ⟨by rfl, ?_⟩) (by assumption) ?_
                  rotate_left 1
                  focus ((intro wS hSw; (try dsimp only at hSw); go_simp) <;> (try with_reducible rfl))
                  simp only [Act.put, List.setIfInBounds_toArray, List.set_cons_zero, List.set_cons_succ]
                  refine wpAnyH_ready (rs := [13]) (by kernel_rfl) (by simp) ?_
                  refine AllReadyH.cons (o := { dst := some 107, op := Go.Op.call { callee := Go.Callee.value (Go.Operand.func 10), args := #[Go.Operand.tmp 106], argTypes := #[27] }, type := 31, pos := "law.go:115", after := #[{ on := 12, ground := Go.Ground.data }, { on := 11, ground := Go.Ground.chain }, { on := 11, ground := Go.Ground.guard }], guard := some (11, true) }) rfl (fun K hK => ?_) AllReadyH.nil
                  go_simp
                  refine (sbytes_told SX.out N hNX.out SZ hSZ.out _ B8.out).mono ?_; rintro e w9 ⟨a9, c9, rfl, x9, y9, z9⟩; have X9 := Lib.hid x9; have Y9 := Lib.hid y9; clear x9 y9 z9
                  go_wp2_with fail
                  refine hK.out _ _ (Y9.out) (fun hHeld => ?_)
                  clear hK K
                  (try simp only [Act.put, List.setIfInBounds_toArray, List.set_cons_zero, List.set_cons_succ])
                  refine wpAnyH_switch (S2 := (fun w' => (convert 31 9 (.slice a9 N c9)).run Try.prog w' = .ok (.string SZ) w' ∧ Below wr.heap.size wr w')) (fun _ h => h.2) ?_
                  have hHeld : ((fun w' => (convert 31 9 (.slice a9 N c9)).run Try.prog w' = .ok (.string SZ) w' ∧ Below wr.heap.size wr w')) _ := ⟨X9.out _ (Below.refl _ _), Y9.out⟩
                  refine wpAnyH_take (i := 14) (oi := { dst := some 108, op := Go.Op.convert 31 9 (Go.Operand.tmp 107), type := 9, pos := "law.go:115", after := #[{ on := 13, ground := Go.Ground.data }, { on := 11, ground := Go.Ground.guard }], guard := some (11, true) }) (v := ?_) rfl (by kernel_rfl) (by kernel_rfl) (by kernel_rfl) (fun _ _ _ h => h) (Or.inl ⟨by rfl, ?_⟩) (by assumption) ?_
                  rotate_left 1
                  focus ((intro wS hSw; (try dsimp only at hSw); go_simp) <;> (try with_reducible rfl))
                  simp only [Act.put, List.setIfInBounds_toArray, List.set_cons_zero, List.set_cons_succ]
                  refine wpAnyH_ready (rs := [16]) (by kernel_rfl) (by simp) ?_
                  refine AllReadyH.cons (o := { dst := some 110, op := Go.Op.call { callee := Go.Callee.value (Go.Operand.func 10), args := #[Go.Operand.tmp 109], argTypes := #[27] }, type := 31, pos := "law.go:115", after := #[{ on := 15, ground := Go.Ground.data }, { on := 13, ground := Go.Ground.chain }, { on := 11, ground := Go.Ground.guard }], guard := some (11, true) }) rfl (fun K hK => ?_) AllReadyH.nil
                  go_simp
                  refine (sbytes_told TX.out N hNX.out SZ hSZ.out _ Y9.out).mono ?_; rintro e w10 ⟨a10, c10, rfl, x10, y10, z10⟩; have X10 := Lib.hid x10; have Y10 := Lib.hid y10; have Z10 := Lib.hid z10; clear x10 y10 z10
                  go_wp2_with fail
                  refine hK.out _ _ (⟨X9.out _ Z10.out, Y10.out⟩) (fun hHeld => ?_)
                  clear hK K
                  (try simp only [Act.put, List.setIfInBounds_toArray, List.set_cons_zero, List.set_cons_succ])
                  refine wpAnyH_switch (S2 := (fun w' => (convert 31 9 (.slice a10 N c10)).run Try.prog w' = .ok (.string SZ) w' ∧ (convert 31 9 (.slice a9 N c9)).run Try.prog w' = .ok (.string SZ) w' ∧ Below wr.heap.size wr w')) (fun _ h => h.2) ?_
                  have hHeld : ((fun w' => (convert 31 9 (.slice a10 N c10)).run Try.prog w' = .ok (.string SZ) w' ∧ (convert 31 9 (.slice a9 N c9)).run Try.prog w' = .ok (.string SZ) w' ∧ Below wr.heap.size wr w')) _ := ⟨X10.out _ (Below.refl _ _), X9.out _ Z10.out, Y10.out⟩
                  refine wpAnyH_take (i := 17) (oi := { dst := some 111, op := Go.Op.convert 31 9 (Go.Operand.tmp 110), type := 9, pos := "law.go:115", after := #[{ on := 16, ground := Go.Ground.data }, { on := 11, ground := Go.Ground.guard }], guard := some (11, true) }) (v := ?_) rfl (by kernel_rfl) (by kernel_rfl) (by kernel_rfl) (fun _ _ _ h => h) (Or.inl ⟨by rfl, ?_⟩) (by assumption) ?_
                  rotate_left 1
                  focus ((intro wS hSw; (try dsimp only at hSw); go_simp) <;> (try with_reducible rfl))
                  simp only [Act.put, List.setIfInBounds_toArray, List.set_cons_zero, List.set_cons_succ]
                  refine wpAnyH_take (i := 18) (oi := { dst := some 112, op := Go.Op.binOp Go.BinOp.eql 9 (Go.Operand.tmp 108) (Go.Operand.tmp 111) 9, type := 4, pos := "law.go:115", after := #[{ on := 14, ground := Go.Ground.data }, { on := 17, ground := Go.Ground.data }, { on := 11, ground := Go.Ground.guard }], guard := some (11, true) }) (v := ?_) rfl (by kernel_rfl) (by kernel_rfl) (by kernel_rfl) (fun _ _ _ h => h) (Or.inl ⟨by rfl, ?_⟩) (by assumption) ?_
                  rotate_left 1
                  focus ((intro wS hSw; (try dsimp only at hSw); go_simp) <;> (try with_reducible rfl))
                  simp only [Act.put, List.setIfInBounds_toArray, List.set_cons_zero, List.set_cons_succ]
                  refine wpAnyH_take (i := 19) (oi := { dst := some 113, op := Go.Op.pick (Go.Operand.tmp 105) (Go.Operand.tmp 112) (Go.Operand.const (Go.Value.bool false)), type := 4, pos := "law.go:115", after := #[{ on := 11, ground := Go.Ground.data }, { on := 18, ground := Go.Ground.data }], guard := none }) (v := ?_) rfl (by kernel_rfl) (by kernel_rfl) (by kernel_rfl) (fun _ _ _ h => h) (Or.inl ⟨by rfl, ?_⟩) (by assumption) ?_
                  rotate_left 1
                  focus ((intro wS hSw; (try dsimp only at hSw); go_simp) <;> (try with_reducible rfl))
                  simp only [Act.put, List.setIfInBounds_toArray, List.set_cons_zero, List.set_cons_succ]
                  refine wpAnyH_take (i := 20) (oi := { dst := some 4, op := Go.Op.assign (Go.Operand.tmp 113), type := 4, pos := "law.go:115", after := #[{ on := 19, ground := Go.Ground.data }, { on := 16, ground := Go.Ground.chain }, { on := 0, ground := Go.Ground.phase }, { on := 1, ground := Go.Ground.phase }, { on := 2, ground := Go.Ground.phase }, { on := 3, ground := Go.Ground.phase }, { on := 4, ground := Go.Ground.phase }, { on := 5, ground := Go.Ground.phase }, { on := 6, ground := Go.Ground.phase }, { on := 7, ground := Go.Ground.phase }, { on := 8, ground := Go.Ground.phase }, { on := 9, ground := Go.Ground.phase }, { on := 10, ground := Go.Ground.phase }, { on := 11, ground := Go.Ground.phase }, { on := 12, ground := Go.Ground.phase }, { on := 13, ground := Go.Ground.phase }, { on := 14, ground := Go.Ground.phase }, { on := 15, ground := Go.Ground.phase }, { on := 16, ground := Go.Ground.phase }, { on := 17, ground := Go.Ground.phase }, { on := 18, ground := Go.Ground.phase }, { on := 19, ground := Go.Ground.phase }], guard := none }) (v := ?_) rfl (by kernel_rfl) (by kernel_rfl) (by kernel_rfl) (fun _ _ _ h => h) (Or.inl ⟨by rfl, ?_⟩) (by assumption) ?_
                  rotate_left 1
                  focus ((intro wS hSw; (try dsimp only at hSw); go_simp) <;> (try with_reducible rfl))
                  simp only [Act.put, List.setIfInBounds_toArray, List.set_cons_zero, List.set_cons_succ]
                  refine wpAnyH_done (by kernel_rfl) ?_ _
                  go_wp2
                  go_ret
                  exact ⟨rfl, BR.out.trans (Y10.out.mono BR.out.size)⟩
end Go.Proofs.Ytodohdhbnihdbaa
