/-
  Layer 9: PaxrecKeysOrdered, walked.
-/
import Derived.Test.YtjmnhnijmaceeaaDoorPxrLib
import Derived.Test.YtjmnhnijmaceeaaDoorArrArg
import Derived.Test.YtjmnhnijmaceeaaDoorRecLit
namespace Go.Proofs.YtjmnhnijmaceeaaDoor
open Go.RowKit Pxr

theorem pair_at (L : List Rec) (i : Nat) (h : i < L.length) : ∃ r, L[i]? = some r := ⟨L[i], List.getElem?_eq_getElem h⟩
theorem trip_kix {l p : ByteArray} {s : ByteArray} {i : Nat} {r : Rec} (h : [(kLink, l), (kPath, p), (kSize, s)][i]? = some r) : kix r.1 = i ∧ (r.1 = kLink ∨ r.1 = kPath ∨ r.1 = kSize) ∧ i < 3 := by
  match i, h with
  | 0, h => obtain rfl := (Option.some.inj h).symm; exact ⟨(by decide : kix kLink = 0), .inl rfl, by decide⟩
  | 1, h => obtain rfl := (Option.some.inj h).symm; exact ⟨(by decide : kix kPath = 1), .inr (.inl rfl), by decide⟩
  | 2, h => obtain rfl := (Option.some.inj h).symm; exact ⟨(by decide : kix kSize = 2), .inr (.inr rfl), by decide⟩
  | i + 3, h => simp at h
theorem fm_pair {r q : Rec} (hr : chk r = 0) (hq : chk q = 0) (ir : r.1 = kLink ∨ r.1 = kPath ∨ r.1 = kSize) (iq : q.1 = kLink ∨ q.1 = kPath ∨ q.1 = kSize) : fmE [] [r, q] = if kix r.1 < kix q.1 then 0 else 12 := by
  have h1 : chkN [] r = 0 := by unfold chkN; rw [if_neg (by rw [hr]; simp), prev_none]; rfl
  have h2 : chkN [r] q = if kix r.1 < kix q.1 then 0 else 12 := by
    unfold chkN
    rw [if_neg (by rw [hq]; simp), prev_at (n := 0) rfl rfl, keyLe_ix iq ir]
    by_cases h : kix q.1 ≤ kix r.1
    · rw [decide_eq_true h, if_pos rfl, if_neg (by omega)]
    · rw [decide_eq_false h, if_neg (by decide), if_pos (by omega)]
  rw [fmE_cons, h1, if_neg (by simp), List.nil_append, fmE_cons, h2]
  by_cases h : kix r.1 < kix q.1
  · rw [if_pos h, if_neg (by simp)]; rfl
  · rw [if_neg h, if_pos (by decide)]
theorem fm_trip {l p s : ByteArray} (h0 : chk (kLink, l) = 0) (h1 : chk (kPath, p) = 0) (h2 : chk (kSize, s) = 0) : fmE [] [(kLink, l), (kPath, p), (kSize, s)] = 0 := by
  have a0 : chkN [] (kLink, l) = 0 := by unfold chkN; rw [if_neg (by rw [h0]; simp), prev_none]; rfl
  have a1 : chkN [(kLink, l)] (kPath, p) = 0 := by
    unfold chkN; rw [if_neg (by rw [h1]; simp), prev_at (n := 0) rfl rfl, keyLe_ix (.inr (.inl rfl)) (.inl rfl)]; decide
  have a2 : chkN [(kLink, l), (kPath, p)] (kSize, s) = 0 := by
    unfold chkN; rw [if_neg (by rw [h2]; simp), prev_at (n := 1) rfl rfl, keyLe_ix (.inr (.inr rfl)) (.inr (.inl rfl))]; decide
  rw [fmE_cons, a0, if_neg (by simp), List.nil_append, fmE_cons, a1, if_neg (by simp), List.singleton_append, fmE_cons, a2, if_neg (by simp)]; rfl

set_option maxHeartbeats 8000000 in
set_option maxRecDepth 100000 in
theorem walk_PaxrecKeysOrdered (zs : List Int) (path link : ByteArray) (w : World) (V : Vars w) (hl : zs.length = 2) (hw : ∀ z ∈ zs, (Lit.int .u8 z).wf = true) (hp : path.size ≤ 140737488355328) (hk : link.size ≤ 140737488355328) :
    Calls Tryd.prog 8 #[.agg (arr zs), .string path, .string link] w fun e w' => e = .returned (.bool true) ∧ Below w.heap.size w w' := by
  match zs, hl with
  | [p, q], _ =>
  obtain ⟨p0, p1⟩ := bounds_u8 (hw p (by simp))
  obtain ⟨q0, q1⟩ := bounds_u8 (hw q (by simp))
  have HBY : Hid (Bytes [p, q]) := fun z hz => bounds_u8 (hw z hz)
  have HV := Lib.hid V
  have HA := Lib.hid fun (w' : World) (hb : Below w.heap.size w w') => alive_any w' (V.go hb)
  have HUnd := Lib.hid Tryd.underlying22
  have hJ := Lib.hid recJ
  have s1 : (path.size : Int) ≤ 140737488355328 := by omega
  have s2 : (link.size : Int) ≤ 140737488355328 := by omega
  have K0 := Lib.hid fun (w' : World) (hb : Below w.heap.size w w') => check_any kLink link w' (V.go hb) (by unfold maxLen; omega)
  have K1 := Lib.hid fun (w' : World) (hb : Below w.heap.size w w') => check_any kPath path w' (V.go hb) (by unfold maxLen; omega)
  obtain ⟨C0, hC0⟩ := named (chk (kLink, link))
  obtain ⟨C1, hC1⟩ := named (chk (kPath, path))
  rw [← hC0.out] at K0
  rw [← hC1.out] at K1
  clear V hw hp hk
  by_cases hsum : 3000 < path.size + link.size
  · have m1 : (3000 : Int) < (path.size : Int) + (link.size : Int) := by omega
    clear hsum
    go_enter Tryd.func8, Tryd.ntmps8
    go_wp2_with (first | (refine wpList_box_arr rfl 50 _ rfl [p, q] rfl HBY.out ?_; intro w1 g1 b1; have G1 := Lib.hid g1; have B1 := Lib.hid b1; clear g1 b1) | (refine wpList_lit_rec3 rfl _ 32 _ _ _ rfl HUnd.out _ hJ.out (kLink, link) (kPath, path) (kSize, { data := #[49] }) rfl rfl rfl ?_; intro w2 g2 l2 b2; have R2 := Lib.hid g2; have L2 := Lib.hid l2; have G2 := Lib.hid (G1.out.below b2 G1.out.lt); have B2 := Lib.hid (belT B1.out b2); have c0 := (g2 0 _ rfl).1; have c1 := (g2 0 _ rfl).2; clear g2 b2 l2))
    clear c0 c1
    go_wp2_with fail
    refine (HA.out _ B2.out).mono ?_; rintro e w9 ⟨rfl, b9⟩
    go_wp2
    go_ret
    exact ⟨rfl, belT B2.out b9⟩
  · have m1 : ¬ (3000 : Int) < (path.size : Int) + (link.size : Int) := by omega
    have HSUM := Lib.hid hsum
    clear hsum
    by_cases z0 : C0 = 0
    · by_cases z1 : C1 = 0
      · have ch0 : chk (kLink, link) = 0 := by rw [← hC0.out]; exact z0
        have ch1 : chk (kPath, path) = 0 := by rw [← hC1.out]; exact z1
        have ch2 : chk (kSize, { data := #[49] }) = 0 := by decide
        have CHK : ∀ (x : Nat) (r : Rec), [(kLink, link), (kPath, path), (kSize, ({ data := #[49] } : ByteArray))][x]? = some r → chk r = 0 := fun x r h => by
          rcases List.mem_cons.1 (List.mem_of_getElem? h) with rfl | h
          · exact ch0
          · rcases List.mem_cons.1 h with rfl | h
            · exact ch1
            · rw [List.mem_singleton.1 h]; exact ch2
        obtain ⟨i, hi⟩ : ∃ i : Nat, p % 3 = (i : Int) := ⟨(p % 3).toNat, by omega⟩
        obtain ⟨k, hk⟩ : ∃ k : Nat, q % 3 = (k : Int) := ⟨(q % 3).toNat, by omega⟩
        have hi3 : i < 3 := by omega
        have hk3 : k < 3 := by omega
        obtain ⟨ri, hri⟩ := pair_at [(kLink, link), (kPath, path), (kSize, ({ data := #[49] } : ByteArray))] i hi3
        obtain ⟨rk, hrk⟩ := pair_at [(kLink, link), (kPath, path), (kSize, ({ data := #[49] } : ByteArray))] k hk3
        obtain ⟨xi, ni, _⟩ := trip_kix hri
        obtain ⟨xk, nk, _⟩ := trip_kix hrk
        have ci := CHK i ri hri
        have ck := CHK k rk hrk
        have hpair := fm_pair ci ck ni nk
        rw [xi, xk] at hpair
        obtain ⟨Ki, Di⟩ := ri
        obtain ⟨Kk, Dk⟩ := rk
        have HRI := Lib.hid hri
        have HRK := Lib.hid hrk
        have gi := (good_of ci).val
        have gk := (good_of ck).val
        have FO := Lib.hid fun (a : Option Addr) (w' : World) (hb : Below w.heap.size w w') (hr : RecsIn w' a [(Ki, Di), (Kk, Dk)]) => format_any a 2 2 [(Ki, Di), (Kk, Dk)] w' (HV.out.go hb) (by
          intro r hr
          rcases List.mem_cons.1 hr with rfl | hr
          · unfold maxLen; omega
          · rw [List.mem_singleton.1 hr]; unfold maxLen; omega) rfl (Nat.le_refl _) (by decide) hr
        obtain ⟨E2, hE2⟩ := named (fmE [] [(Ki, Di), (Kk, Dk)])
        rw [← hE2.out] at FO hpair
        have HPAIR := Lib.hid hpair
        have FT := Lib.hid fun (a : Option Addr) (w' : World) (hb : Below w.heap.size w w') (hr : RecsIn w' a [(kLink, link), (kPath, path), (kSize, ({ data := #[49] } : ByteArray))]) => format_any a 3 3 [(kLink, link), (kPath, path), (kSize, ({ data := #[49] } : ByteArray))] w' (HV.out.go hb) (by
          intro r hr
          obtain ⟨x, hx⟩ := List.getElem?_of_mem hr
          have := (good_of (CHK x r hx)).val
          unfold maxLen; omega) rfl (Nat.le_refl _) (by decide) hr
        rw [fm_trip ch0 ch1 ch2] at FT
        have e1 : IntKind.i64.wrap p = p := wrapP (by omega) (by omega)
        have e2 : IntKind.i64.wrap q = q := wrapP (by omega) (by omega)
        have e3 : p.tmod 3 = (i : Int) := by rw [Int.tmod_eq_emod_of_nonneg p0]; exact hi
        have e4 : q.tmod 3 = (k : Int) := by rw [Int.tmod_eq_emod_of_nonneg q0]; exact hk
        have e5 : IntKind.i64.wrap (i : Int) = (i : Int) := wrapP (by omega) (by omega)
        have e6 : IntKind.i64.wrap (k : Int) = (k : Int) := wrapP (by omega) (by omega)
        have i3 : (i : Int) < 3 := by omega
        have k3 : (k : Int) < 3 := by omega
        have HIK := Lib.hid (And.intro hi hk)
        subst z0; subst z1
        clear ch0 ch1 ch2 CHK hi3 hk3 hri hrk xi ni xk nk ci ck hpair gi gk hi hk
        go_enter Tryd.func8, Tryd.ntmps8
        go_wp2_with (first | (refine wpList_box_arr rfl 50 _ rfl [p, q] rfl HBY.out ?_; intro w1 g1 b1; have G1 := Lib.hid g1; have B1 := Lib.hid b1; clear g1 b1) | (refine wpList_lit_rec3 rfl _ 32 _ _ _ rfl HUnd.out _ hJ.out (kLink, link) (kPath, path) (kSize, { data := #[49] }) rfl rfl rfl ?_; intro w2 g2 l2 b2; have R2 := Lib.hid g2; have L2 := Lib.hid l2; have G2 := Lib.hid (G1.out.below b2 G1.out.lt); have B2 := Lib.hid (belT B1.out b2); have c0 := (g2 0 _ rfl).1; have c1 := (g2 0 _ rfl).2; clear g2 b2 l2))
        refine (K0.out _ B2.out).mono ?_; rintro e w3 ⟨rfl, b3⟩
        have R3 := Lib.hid (R2.out.below b3 L2.out); have L3 := Lib.hid (Nat.lt_of_lt_of_le L2.out b3.size); have G3 := Lib.hid (G2.out.below b3 G2.out.lt); have B3 := Lib.hid (belT B2.out b3)
        clear b3 c0 c1
        have c2 := (R3.out 1 _ rfl).1
        have c3 := (R3.out 1 _ rfl).2
        go_wp2_with fail
        refine (K1.out _ B3.out).mono ?_; rintro e w4 ⟨rfl, b4⟩
        have R4 := Lib.hid (R3.out.below b4 L3.out); have L4 := Lib.hid (Nat.lt_of_lt_of_le L3.out b4.size); have G4 := Lib.hid (G3.out.below b4 G3.out.lt); have B4 := Lib.hid (belT B3.out b4)
        clear b4 c2 c3
        have d0 := G4.out.row.cell0 0 (show 0 < 2 by decide)
        have d1 := G4.out.row.cell0 1 (show 1 < 2 by decide)
        change _ = some (Value.int .u8 p) at d0
        change _ = some (Value.int .u8 q) at d1
        go_wp2_with fail
        go_quiet (fail)
        have Q4 : Hid (Below w4.heap.size w4 (w4.drewN nq)) := drewN_below _ _ _
        have R5 := Lib.hid (R4.out.below Q4.out L4.out); have L5 := Lib.hid (Nat.lt_of_lt_of_le L4.out Q4.out.size); have B5 := Lib.hid (belT B4.out Q4.out)
        generalize hw5 : w4.drewN nq = w5 at R5 L5 B5 ⊢
        clear hw5 d0 d1 Q4
        obtain ⟨g, hg⟩ := named w1.heap.size
        rw [← hg.out] at R5 L5
        rw [← hg.out]
        have KC : Hid (∀ w', Below w5.heap.size w5 w' → w'.cell? ⟨g, i * 2, none⟩ = some (.string Ki) ∧ w'.cell? ⟨g, i * 2 + 1, none⟩ = some (.string Di) ∧ w'.cell? ⟨g, k * 2, none⟩ = some (.string Kk) ∧ w'.cell? ⟨g, k * 2 + 1, none⟩ = some (.string Dk)) := fun w' hb => by
          have h := R5.out.below hb L5.out
          obtain ⟨x1, x2⟩ := h i _ HRI.out
          obtain ⟨x3, x4⟩ := h k _ HRK.out
          rw [Nat.zero_add] at x1 x2 x3 x4
          exact ⟨x1, x2, x3, x4⟩
        have FO := Lib.hid fun (a : Option Addr) (w' : World) (hb : Below w5.heap.size w5 w') (hr : RecsIn w' a [(Ki, Di), (Kk, Dk)]) => FO.out a w' (B5.out.trans (hb.mono B5.out.size)) hr
        clear e1 e2 e3 e4
        go_wp2_with fail
        refine wp_region_held_drew (S := (fun w' => w'.cell? ⟨g, i * 2, none⟩ = some (.string Ki) ∧ w'.cell? ⟨g, i * 2 + 1, none⟩ = some (.string Di) ∧ w'.cell? ⟨g, k * 2, none⟩ = some (.string Kk) ∧ w'.cell? ⟨g, k * 2 + 1, none⟩ = some (.string Dk))) (by kernel_rfl) (KC.out _ (Below.refl _ _).drew) (fun hHeld => ?_)
        refine wpAnyH_take (i := 0) (oi := { dst := some 50, op := Go.Op.move (Go.Operand.tmp 7), type := 22, pos := "law.go:133", after := #[], guard := none }) (v := ?_) rfl (by kernel_rfl) (by kernel_rfl) (by kernel_rfl) (fun _ _ _ h => h) (Or.inl ⟨by rfl, ?_⟩) (by assumption) ?_
        rotate_left 1
        focus ((intro wS hSw; (try dsimp only at hSw); go_simp) <;> (try with_reducible rfl))
        simp only [Act.put, List.setIfInBounds_toArray, List.set_cons_zero, List.set_cons_succ]
        refine wpAnyH_take (i := 1) (oi := { dst := some 51, op := Go.Op.move (Go.Operand.tmp 8), type := 3, pos := "law.go:133", after := #[], guard := none }) (v := ?_) rfl (by kernel_rfl) (by kernel_rfl) (by kernel_rfl) (fun _ _ _ h => h) (Or.inl ⟨by rfl, ?_⟩) (by assumption) ?_
        rotate_left 1
        focus ((intro wS hSw; (try dsimp only at hSw); go_simp) <;> (try with_reducible rfl))
        simp only [Act.put, List.setIfInBounds_toArray, List.set_cons_zero, List.set_cons_succ]
        refine wpAnyH_take (i := 2) (oi := { dst := some 52, op := Go.Op.indexAddr 22 (Go.Operand.tmp 50) (Go.Operand.tmp 51), type := 0, pos := "law.go:133", after := #[{ on := 0, ground := Go.Ground.data }, { on := 1, ground := Go.Ground.data }], guard := none }) (v := ?_) rfl (by kernel_rfl) (by kernel_rfl) (by kernel_rfl) (fun _ _ _ h => h) (Or.inl ⟨by rfl, ?_⟩) (by assumption) ?_
        rotate_left 1
        focus ((intro wS hSw; (try dsimp only at hSw); go_simp) <;> (try with_reducible rfl))
        simp only [Act.put, List.setIfInBounds_toArray, List.set_cons_zero, List.set_cons_succ]
        refine wpAnyH_take (i := 3) (oi := { dst := some 53, op := Go.Op.load 32 (Go.Operand.tmp 52), type := 32, pos := "law.go:133", after := #[{ on := 2, ground := Go.Ground.data }], guard := none }) (v := ?_) rfl (by kernel_rfl) (by kernel_rfl) (by kernel_rfl) (fun _ _ _ h => h) (Or.inl ⟨by rfl, ?_⟩) (by assumption) ?_
        rotate_left 1
        focus ((intro wS hSw; (try dsimp only at hSw); go_simp) <;> (try with_reducible rfl))
        simp only [Act.put, List.setIfInBounds_toArray, List.set_cons_zero, List.set_cons_succ]
        refine wpAnyH_take (i := 4) (oi := { dst := some 54, op := Go.Op.move (Go.Operand.tmp 7), type := 22, pos := "law.go:133", after := #[], guard := none }) (v := ?_) rfl (by kernel_rfl) (by kernel_rfl) (by kernel_rfl) (fun _ _ _ h => h) (Or.inl ⟨by rfl, ?_⟩) (by assumption) ?_
        rotate_left 1
        focus ((intro wS hSw; (try dsimp only at hSw); go_simp) <;> (try with_reducible rfl))
        simp only [Act.put, List.setIfInBounds_toArray, List.set_cons_zero, List.set_cons_succ]
        refine wpAnyH_take (i := 5) (oi := { dst := some 55, op := Go.Op.move (Go.Operand.tmp 9), type := 3, pos := "law.go:133", after := #[], guard := none }) (v := ?_) rfl (by kernel_rfl) (by kernel_rfl) (by kernel_rfl) (fun _ _ _ h => h) (Or.inl ⟨by rfl, ?_⟩) (by assumption) ?_
        rotate_left 1
        focus ((intro wS hSw; (try dsimp only at hSw); go_simp) <;> (try with_reducible rfl))
        simp only [Act.put, List.setIfInBounds_toArray, List.set_cons_zero, List.set_cons_succ]
        refine wpAnyH_take (i := 6) (oi := { dst := some 56, op := Go.Op.indexAddr 22 (Go.Operand.tmp 54) (Go.Operand.tmp 55), type := 0, pos := "law.go:133", after := #[{ on := 4, ground := Go.Ground.data }, { on := 5, ground := Go.Ground.data }], guard := none }) (v := ?_) rfl (by kernel_rfl) (by kernel_rfl) (by kernel_rfl) (fun _ _ _ h => h) (Or.inl ⟨by rfl, ?_⟩) (by assumption) ?_
        rotate_left 1
        focus ((intro wS hSw; (try dsimp only at hSw); go_simp) <;> (try with_reducible rfl))
        simp only [Act.put, List.setIfInBounds_toArray, List.set_cons_zero, List.set_cons_succ]
        refine wpAnyH_take (i := 7) (oi := { dst := some 57, op := Go.Op.load 32 (Go.Operand.tmp 56), type := 32, pos := "law.go:133", after := #[{ on := 6, ground := Go.Ground.data }], guard := none }) (v := ?_) rfl (by kernel_rfl) (by kernel_rfl) (by kernel_rfl) (fun _ _ _ h => h) (Or.inl ⟨by rfl, ?_⟩) (by assumption) ?_
        rotate_left 1
        focus ((intro wS hSw; (try dsimp only at hSw); go_simp) <;> (try with_reducible rfl))
        simp only [Act.put, List.setIfInBounds_toArray, List.set_cons_zero, List.set_cons_succ]
        refine wpAnyH_ready (rs := [8]) (by kernel_rfl) (by simp) ?_
        refine AllReadyH.cons (o := { dst := some 58, op := Go.Op.buildSlice 22 2 #[(0, Go.Operand.tmp 53), (1, Go.Operand.tmp 57)], type := 22, pos := "law.go:133", after := #[{ on := 3, ground := Go.Ground.data }, { on := 7, ground := Go.Ground.data }], guard := none }) rfl (fun K hK => ?_) AllReadyH.nil
        refine step_lit_rec2 rfl 22 32 (.tmp 53) (.tmp 57) rfl HUnd.out _ hJ.out (Ki, Di) (Kk, Dk) rfl rfl ?_
        intro w7 g7 l7 b7
        have R7 := Lib.hid g7; have L7 := Lib.hid l7; have D7 : Hid (Below w5.heap.size w5 w7) := (Below.refl _ _).drew.trans b7; clear g7 b7 l7
        refine hK.out _ _ (KC.out _ D7.out) (fun hHeld => ?_)
        clear hK K
        (try simp only [Act.put, List.setIfInBounds_toArray, List.set_cons_zero, List.set_cons_succ])
        refine wpAnyH_ready (rs := [9]) (by kernel_rfl) (by simp) ?_
        refine AllReadyH.cons (o := { dst := some 59, op := Go.Op.call { callee := Go.Callee.value (Go.Operand.func 11), args := #[Go.Operand.tmp 58], argTypes := #[22] }, type := 27, pos := "law.go:133", after := #[{ on := 8, ground := Go.Ground.data }], guard := none }) rfl (fun K hK => ?_) AllReadyH.nil
        go_simp
        refine (FO.out _ _ D7.out (.inr ⟨_, _, rfl, L7.out, R7.out⟩)).mono ?_; rintro e w8 ⟨p8, l8, c8, rfl, _, _, _, _, b8⟩
        have D8 := Lib.hid (D7.out.trans (b8.mono D7.out.size))
        clear b8
        go_wp2_with fail
        refine hK.out _ _ (KC.out _ D8.out) (fun hHeld => ?_)
        clear hK K
        (try simp only [Act.put, List.setIfInBounds_toArray, List.set_cons_zero, List.set_cons_succ])
        refine wpAnyH_take (i := 10) (oi := { dst := some 49, op := Go.Op.move (Go.Operand.tmp 59), type := 27, pos := "law.go:133", after := #[{ on := 9, ground := Go.Ground.data }], guard := none }) (v := ?_) rfl (by kernel_rfl) (by kernel_rfl) (by kernel_rfl) (fun _ _ _ h => h) (Or.inl ⟨by rfl, ?_⟩) (by assumption) ?_
        rotate_left 1
        focus ((intro wS hSw; (try dsimp only at hSw); go_simp) <;> (try with_reducible rfl))
        simp only [Act.put, List.setIfInBounds_toArray, List.set_cons_zero, List.set_cons_succ]
        refine wpAnyH_take (i := 11) (oi := { dst := some 60, op := Go.Op.extract (Go.Operand.tmp 49) 0, type := 25, pos := "law.go:133", after := #[{ on := 10, ground := Go.Ground.data }], guard := none }) (v := ?_) rfl (by kernel_rfl) (by kernel_rfl) (by kernel_rfl) (fun _ _ _ h => h) (Or.inl ⟨by rfl, ?_⟩) (by assumption) ?_
        rotate_left 1
        focus ((intro wS hSw; (try dsimp only at hSw); go_simp) <;> (try with_reducible rfl))
        simp only [Act.put, List.setIfInBounds_toArray, List.set_cons_zero, List.set_cons_succ]
        refine wpAnyH_take (i := 12) (oi := { dst := some 61, op := Go.Op.extract (Go.Operand.tmp 49) 1, type := 26, pos := "law.go:133", after := #[{ on := 10, ground := Go.Ground.data }, { on := 13, ground := Go.Ground.gcOnly Go.Departure.lateStores }], guard := none }) (v := ?_) rfl (by kernel_rfl) (by kernel_rfl) (by kernel_rfl) (fun _ _ _ h => h) (Or.inl ⟨by rfl, ?_⟩) (by assumption) ?_
        rotate_left 1
        focus ((intro wS hSw; (try dsimp only at hSw); go_simp) <;> (try with_reducible rfl))
        simp only [Act.put, List.setIfInBounds_toArray, List.set_cons_zero, List.set_cons_succ]
        refine wpAnyH_take (i := 13) (oi := { dst := some 10, op := Go.Op.assign (Go.Operand.tmp 60), type := 25, pos := "law.go:133", after := #[{ on := 11, ground := Go.Ground.data }, { on := 9, ground := Go.Ground.chain }, { on := 0, ground := Go.Ground.phase }, { on := 1, ground := Go.Ground.phase }, { on := 2, ground := Go.Ground.phase }, { on := 3, ground := Go.Ground.phase }, { on := 4, ground := Go.Ground.phase }, { on := 5, ground := Go.Ground.phase }, { on := 6, ground := Go.Ground.phase }, { on := 7, ground := Go.Ground.phase }, { on := 8, ground := Go.Ground.phase }, { on := 9, ground := Go.Ground.phase }, { on := 10, ground := Go.Ground.phase }, { on := 11, ground := Go.Ground.phase }, { on := 12, ground := Go.Ground.textOnly Go.Departure.lateStores }], guard := none }) (v := ?_) rfl (by kernel_rfl) (by kernel_rfl) (by kernel_rfl) (fun _ _ _ h => h) (Or.inl ⟨by rfl, ?_⟩) (by assumption) ?_
        rotate_left 1
        focus ((intro wS hSw; (try dsimp only at hSw); go_simp) <;> (try with_reducible rfl))
        simp only [Act.put, List.setIfInBounds_toArray, List.set_cons_zero, List.set_cons_succ]
        refine wpAnyH_take (i := 14) (oi := { dst := some 11, op := Go.Op.assign (Go.Operand.tmp 61), type := 26, pos := "law.go:133", after := #[{ on := 12, ground := Go.Ground.data }, { on := 13, ground := Go.Ground.chain }, { on := 0, ground := Go.Ground.phase }, { on := 1, ground := Go.Ground.phase }, { on := 2, ground := Go.Ground.phase }, { on := 3, ground := Go.Ground.phase }, { on := 4, ground := Go.Ground.phase }, { on := 5, ground := Go.Ground.phase }, { on := 6, ground := Go.Ground.phase }, { on := 7, ground := Go.Ground.phase }, { on := 8, ground := Go.Ground.phase }, { on := 9, ground := Go.Ground.phase }, { on := 10, ground := Go.Ground.phase }, { on := 11, ground := Go.Ground.phase }, { on := 12, ground := Go.Ground.phase }, { on := 13, ground := Go.Ground.phase }], guard := none }) (v := ?_) rfl (by kernel_rfl) (by kernel_rfl) (by kernel_rfl) (fun _ _ _ h => h) (Or.inl ⟨by rfl, ?_⟩) (by assumption) ?_
        rotate_left 1
        focus ((intro wS hSw; (try dsimp only at hSw); go_simp) <;> (try with_reducible rfl))
        simp only [Act.put, List.setIfInBounds_toArray, List.set_cons_zero, List.set_cons_succ]
        refine wpAnyH_done (by kernel_rfl) ?_ _
        have B8 := Lib.hid (B5.out.trans (D8.out.mono B5.out.size))
        have R8 := Lib.hid (R5.out.below D8.out L5.out); have L8 := Lib.hid (Nat.lt_of_lt_of_le L5.out D8.out.size)
        go_wp2_with fail
        refine (FT.out _ _ B8.out (.inr ⟨_, _, rfl, L8.out, R8.out⟩)).mono ?_; rintro e w9 ⟨p9, l9, c9, rfl, _, _, _, _, b9⟩
        have B9 := Lib.hid (belT B8.out b9)
        clear b9
        have two : (E2 = 0 ∧ decide (i < k) = true) ∨ (E2 = 12 ∧ decide (i < k) = false) := by
          have h := HPAIR.out
          by_cases hik : i < k
          · rw [if_pos hik] at h; exact .inl ⟨h, decide_eq_true hik⟩
          · rw [if_neg hik] at h; exact .inr ⟨h, decide_eq_false hik⟩
        rcases two with ⟨rfl, hik⟩ | ⟨rfl, hik⟩
        all_goals
          go_wp2_with fail
          refine (HA.out _ B9.out).mono ?_; rintro e w10 ⟨rfl, b10⟩
          go_wp2
          go_ret
          exact ⟨rfl, belT B9.out b10⟩
      · have z2 : (C1 != 0) = true := by simpa using z1
        subst z0
        clear z1
        go_enter Tryd.func8, Tryd.ntmps8
        go_wp2_with (first | (refine wpList_box_arr rfl 50 _ rfl [p, q] rfl HBY.out ?_; intro w1 g1 b1; have G1 := Lib.hid g1; have B1 := Lib.hid b1; clear g1 b1) | (refine wpList_lit_rec3 rfl _ 32 _ _ _ rfl HUnd.out _ hJ.out (kLink, link) (kPath, path) (kSize, { data := #[49] }) rfl rfl rfl ?_; intro w2 g2 l2 b2; have R2 := Lib.hid g2; have L2 := Lib.hid l2; have G2 := Lib.hid (G1.out.below b2 G1.out.lt); have B2 := Lib.hid (belT B1.out b2); have c0 := (g2 0 _ rfl).1; have c1 := (g2 0 _ rfl).2; clear g2 b2 l2))
        refine (K0.out _ B2.out).mono ?_; rintro e w3 ⟨rfl, b3⟩
        have R3 := Lib.hid (R2.out.below b3 L2.out); have L3 := Lib.hid (Nat.lt_of_lt_of_le L2.out b3.size); have G3 := Lib.hid (G2.out.below b3 G2.out.lt); have B3 := Lib.hid (belT B2.out b3)
        clear b3 c0 c1
        have c2 := (R3.out 1 _ rfl).1
        have c3 := (R3.out 1 _ rfl).2
        go_wp2_with fail
        refine (K1.out _ B3.out).mono ?_; rintro e w4 ⟨rfl, b4⟩
        have R4 := Lib.hid (R3.out.below b4 L3.out); have L4 := Lib.hid (Nat.lt_of_lt_of_le L3.out b4.size); have G4 := Lib.hid (G3.out.below b4 G3.out.lt); have B4 := Lib.hid (belT B3.out b4)
        clear b4 c2 c3
        go_wp2_with fail
        refine (HA.out _ B4.out).mono ?_; rintro e w9 ⟨rfl, b9⟩
        go_wp2
        go_ret
        exact ⟨rfl, belT B4.out b9⟩
    · have z2 : (C0 != 0) = true := by simpa using z0
      clear z0
      go_enter Tryd.func8, Tryd.ntmps8
      go_wp2_with (first | (refine wpList_box_arr rfl 50 _ rfl [p, q] rfl HBY.out ?_; intro w1 g1 b1; have G1 := Lib.hid g1; have B1 := Lib.hid b1; clear g1 b1) | (refine wpList_lit_rec3 rfl _ 32 _ _ _ rfl HUnd.out _ hJ.out (kLink, link) (kPath, path) (kSize, { data := #[49] }) rfl rfl rfl ?_; intro w2 g2 l2 b2; have R2 := Lib.hid g2; have L2 := Lib.hid l2; have G2 := Lib.hid (G1.out.below b2 G1.out.lt); have B2 := Lib.hid (belT B1.out b2); have c0 := (g2 0 _ rfl).1; have c1 := (g2 0 _ rfl).2; clear g2 b2 l2))
      refine (K0.out _ B2.out).mono ?_; rintro e w3 ⟨rfl, b3⟩
      have R3 := Lib.hid (R2.out.below b3 L2.out); have L3 := Lib.hid (Nat.lt_of_lt_of_le L2.out b3.size); have G3 := Lib.hid (G2.out.below b3 G2.out.lt); have B3 := Lib.hid (belT B2.out b3)
      clear b3 c0 c1
      go_wp2_with fail
      refine (HA.out _ B3.out).mono ?_; rintro e w9 ⟨rfl, b9⟩
      go_wp2
      go_ret
      exact ⟨rfl, belT B3.out b9⟩
end Go.Proofs.YtjmnhnijmaceeaaDoor
