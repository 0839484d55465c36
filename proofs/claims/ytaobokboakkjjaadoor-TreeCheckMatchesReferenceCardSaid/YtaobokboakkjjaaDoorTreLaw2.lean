/-
  The statement TreeCheckMatchesReference: a walk.
-/
import Derived.Test.YtaobokboakkjjaaDoorPk12
import Derived.Test.YtaobokboakkjjaaDoorPk13
namespace Go.Proofs.YtaobokboakkjjaaDoor
open Go.RowKit Go.Proofs.YtaobokboakkjjaaDoor.Fit Pnm Tre

theorem Tre.fndS_inv {ys : List NdS} {p : ByteArray} {y : NdS} (h : fndS ys p = some y) : ∃ i, ys[i]? = some y ∧ y.n.p = p ∧ ∀ k, k < i → (nd (nds ys) k).p ≠ p := by
  unfold fndS at h
  obtain ⟨h1, i, hi, rfl, h2⟩ := List.find?_eq_some_iff_getElem.mp h
  refine ⟨i, List.getElem?_eq_getElem hi, of_decide_eq_true h1, fun k hk => ?_⟩
  have := h2 k hk
  rw [nd_y (List.getElem?_eq_getElem (by omega))]
  simpa using this
theorem Tre.fndS_not {ys : List NdS} {p : ByteArray} (h : fndS ys p = none) : ∀ k, k < ys.length → (nd (nds ys) k).p ≠ p := fun k hk => by
  unfold fndS at h
  rw [List.find?_eq_none] at h
  have := h _ (List.getElem_mem hk)
  rw [nd_y (List.getElem?_eq_getElem hk)]
  simpa using this
theorem Tre.one_arg {w : World} {g : Nat} {y : NdS} (hf : NdF w y) (hg : ObjAt w g 32 (ndCells [y])) : ArgNds w (some ⟨g, 0, none⟩) 1 1 [y] :=
  ⟨rfl, Nat.le_refl _, by decide, .inr ⟨g, 0, rfl, hg.lt, .of_cells hg⟩, fun z h => by simp at h; rw [h]; exact hf⟩
theorem Tre.zero_fine (w : World) : NdF w ndS0 := ⟨by decide, by decide, by decide, by decide, ArgInts.nil, by decide, by decide⟩

set_option maxRecDepth 100000 in
set_option maxHeartbeats 8000000 in
theorem walk_TreeCheckMatchesReference (a : Option Addr) (n cap : Nat) (ys : List NdS) (p : ByteArray) (w : World) (V : Pxr.Vars w) (ha : ArgNds w a n cap ys) (_ : p.size ≤ maxLen) :
    Calls Tryd.prog 3 #[.slice a n cap, .string p] w fun e w' => e = .returned (.bool true) ∧ Below w.heap.size w w' := by
  have HV := Lib.hid (FVars.mk V)
  have HA := Lib.hid ha
  have NZ := Lib.hid zNd
  have NO := Lib.hid ndT
  have I6 := Lib.hid IN6
  have hn : n ≤ maxLen := Nat.le_trans ha.c ha.m
  have HN : Hid (ys.length = n) := ha.n
  unfold maxLen at hn
  clear V ha
  obtain ⟨X1, hX1⟩ := named (chk (nds ys)).1
  obtain ⟨X2, hX2⟩ := named (chk (nds ys)).2
  have PC : Hid (∀ w', Below w.heap.size w w' → Calls Tryd.prog 12 #[.slice a n cap] w' fun e w'' => e = .returned (.tuple #[.int .i64 X1, .int .i64 X2]) ∧ Below w'.heap.size w' w'') := fun w' hb => by
    rw [hX1.out, hX2.out]; exact pchk_any a n cap ys w' (HV.out.go hb) (HA.out.below hb)
  have RC : Hid (∀ w', Below w.heap.size w w' → Calls Tryd.prog 13 #[.slice a n cap] w' fun e w'' => e = .returned (.tuple #[.int .i64 X1, .int .i64 X2]) ∧ Below w'.heap.size w' w'') := fun w' hb => by
    rw [hX1.out, hX2.out]; exact rchk_any a n cap ys w' (HA.out.below hb)
  have e1 : (X1 == X1) = true := by simp
  have e2 : (X2 == X2) = true := by simp
  clear hX1 hX2
  go_enter Tryd.func3, Tryd.ntmps3
  go_wp2_with fail
  refine (large_any a n cap ys w HA.out).mono ?_; rintro e w1 ⟨R, rfl, hR, b1⟩
  have B1 := Lib.hid b1
  clear b1
  rcases hR with rfl | ⟨rfl, h40, _⟩
  · go_wp2_with fail
    refine (Tre.alive_any w1 (HV.out.go B1.out)).mono ?_; rintro e w2 ⟨rfl, b2⟩
    have B2 := Lib.hid (belT B1.out b2)
    go_wp2
    go_ret
    exact ⟨rfl, B2.out⟩
  go_wp2_with fail
  refine (PC.out w1 B1.out).mono ?_; rintro e w2 ⟨rfl, b2⟩
  have B2 := Lib.hid (belT B1.out b2)
  clear b2
  go_wp2_with fail
  refine (RC.out w2 B2.out).mono ?_; rintro e w3 ⟨rfl, b3⟩
  have B3 := Lib.hid (belT B2.out b3)
  clear b3 PC RC
  go_wp2_with fail
  refine (find_any a n cap ys p w3 (HA.out.below B3.out)).mono ?_; rintro e w4 ⟨rfl, b4⟩
  have B4 := Lib.hid (belT B3.out b4)
  clear b4
  cases hF : fndS ys p with
  | none =>
    have NON := Lib.hid (fndS_not hF)
    have FIN : Hid (∀ w', Below w.heap.size w w' → NdF w' ndS0) := fun w' _ => zero_fine w'
    clear hF
    go_wp2_with (first | (have q := G6.out; clear q; refine wpList_alloc_obj rfl 32 rfl (ndL 0 emp 0 emp none 0 0 0) NZ.out ?_; intro w7 g7 b7; have G7 := Lib.hid g7; have K7 := Lib.hid (G6.out.below b7 G6.out.lt); have L7 := Lib.hid G6.out.lt; have B7 := Lib.hid (belT B6.out b7); clear g7 b7) | (refine wpList_alloc_obj rfl 32 rfl (ndL 0 emp 0 emp none 0 0 0) NZ.out ?_; intro w5 g5 b5; have G5 := Lib.hid g5; have B5 := Lib.hid (belT B4.out b5); clear g5 b5) | (have q := G7.out; clear q; refine wpList_store_obj rfl 32 _ _ rfl w6.heap.size rfl (ndL 0 emp 0 emp none 0 0 0) (ndL 0 emp 0 emp none 0 0 0) rfl 32 G7.out NO.out.2 rfl (nd_one _ _ _ _ _ _ _ _) ?_; intro w8 g8 t8; have G8 := Lib.hid g8; have K8 := Lib.hid (K7.out.turned t8 (Nat.ne_of_lt L7.out)); have B8 := Lib.hid (B7.out.trans (t8.below B6.out.size)); clear g8 t8) | (refine wpList_store_obj rfl 32 _ _ rfl w4.heap.size rfl (ndL 0 emp 0 emp none 0 0 0) (ndL 0 emp 0 emp none 0 0 0) rfl 32 G5.out NO.out.2 rfl (nd_one _ _ _ _ _ _ _ _) ?_; intro w6 g6 t6; have G6 := Lib.hid g6; have B6 := Lib.hid (B5.out.trans (t6.below B4.out.size)); clear g6 t6))
    have H4 : Hid (w4.heap.size < w8.heap.size) := K8.out.lt
    have H6 : Hid (w6.heap.size < w8.heap.size) := G8.out.lt
    go_loopw [12, 38] (fun f i wr => ∃ j : Nat, f = .bool false ∧ i = .int .i64 j ∧ j ≤ n ∧ Below w8.heap.size w8 wr) (fun _ i _ => n - (intOf i).toNat)
    case atStart => exact ⟨0, rfl, rfl, Nat.zero_le _, Below.refl _ _⟩
    case round =>
      obtain ⟨j, rfl, rfl, hj, hB⟩ := hrel
      have HB := Lib.hid hB
      have BW := Lib.hid (belT B8.out hB)
      clear hB
      by_cases hjn : j < n
      · skip
        obtain ⟨b, off, z, hab, hb, hz, hf, hat⟩ := HA.out.get j (by omega)
        obtain ⟨c0, c1, c2, c3, c4, c5⟩ := (hat.below BW.out hb).c hz
        have EZ : Hid (nd (nds ys) j = z.n) := nd_y hz
        have j1 : (j : Int) < n := by omega
        have ZY : Hid (∀ y, ys[j]? = some y → z = y) := fun y h => by rw [hz] at h; injection h
        clear hat hf hb hz
        subst hab
        obtain ⟨⟨k, q, m, t, d, c⟩, x, xc⟩ := z
        obtain ⟨L, hL⟩ := named d.length
        have c4' : wr.cell? ⟨b, off + j * 6 + 4, none⟩ = some (.slice x L xc) := by rw [hL.out]; exact c4
        clear c4
        have c4 := c4'
        clear c4'
        have NEQ : Hid (¬ q = p) := fun h => NON.out j (by rw [HN.out]; exact hjn) (by rw [EZ.out]; exact h)
        have h1 := strs_no' (show ¬ q = p from NEQ.out)
        go_wp2_with (first | (refine wpList_alloc_obj rfl 32 rfl (ndL 0 emp 0 emp none 0 0 0) NZ.out ?_; intro w9 g9 b9; have G9 := Lib.hid g9; have C9 := Lib.hid (HB.out.trans (b9.mono HB.out.size)); have B9 := Lib.hid (belT BW.out b9); clear g9 b9 c0 c1 c2 c3 c4 c5) | (refine wpList_store_obj rfl 32 _ _ rfl wr.heap.size rfl (ndL k q m t x L xc c) (ndL 0 emp 0 emp none 0 0 0) rfl 32 G9.out NO.out.2 rfl (nd_one _ _ _ _ _ _ _ _) ?_; intro w10 g10 t10; have C10 := Lib.hid (C9.out.trans (t10.below HB.out.size)); have B10 := Lib.hid (B9.out.trans (t10.below BW.out.size)); have c0 := g10.get 0 rfl; have c1 := g10.get 1 rfl; have c2 := g10.get 2 rfl; have c3 := g10.get 3 rfl; have c4 := g10.get 4 rfl; have c5 := g10.get 5 rfl; clear g10 t10))
        go_round
        case rel => exact ⟨j + 1, rfl, by go_num, by omega, C10.out⟩
        case measure => simp [intOf]; omega
      · obtain rfl : j = n := by omega
        have KE := Lib.hid (K8.out.below HB.out K8.out.lt)
        have GE := Lib.hid (G8.out.below HB.out G8.out.lt)
        go_wp2_with fail
        refine (Tre.alive_any _ (HV.out.go BW.out)).mono ?_; rintro e w20 ⟨rfl, b20⟩
        have B20 := Lib.hid (belT BW.out b20)
        have K20 := Lib.hid (KE.out.below b20 KE.out.lt)
        have G20 := Lib.hid (GE.out.below b20 GE.out.lt)
        clear b20
        have c0 := K20.out.get 0 rfl; have c1 := K20.out.get 1 rfl; have c2 := K20.out.get 2 rfl; have c3 := K20.out.get 3 rfl; have c4 := K20.out.get 4 rfl; have c5 := K20.out.get 5 rfl
        have d0 := G20.out.get 0 rfl; have d1 := G20.out.get 1 rfl; have d2 := G20.out.get 2 rfl; have d3 := G20.out.get 3 rfl; have d4 := G20.out.get 4 rfl; have d5 := G20.out.get 5 rfl
        go_wp2_with (first | (have q := U21.out; clear q; refine wpList_lit_nd1_w rfl 22 32 _ rfl Tryd.underlying22 _ I6.out ndS0 (by show _ = Value.agg (ndL 0 emp 0 emp none 0 0 0).toArray; rfl) ?_; intro w22 g22 b22; have U22 := Lib.hid g22; have V22 := Lib.hid (U21.out.below b22 U21.out.lt); have B22 := Lib.hid (belT B21.out b22); clear g22 b22) | (refine wpList_lit_nd1_w rfl 22 32 _ rfl Tryd.underlying22 _ I6.out ndS0 (by show _ = Value.agg (ndL 0 emp 0 emp none 0 0 0).toArray; rfl) ?_; intro w21 g21 b21; have U21 := Lib.hid g21; have B21 := Lib.hid (belT B20.out b21); have d0 := (G20.out.below b21 G20.out.lt).get 0 rfl; have d1 := (G20.out.below b21 G20.out.lt).get 1 rfl; have d2 := (G20.out.below b21 G20.out.lt).get 2 rfl; have d3 := (G20.out.below b21 G20.out.lt).get 3 rfl; have d4 := (G20.out.below b21 G20.out.lt).get 4 rfl; have d5 := (G20.out.below b21 G20.out.lt).get 5 rfl; clear g21 b21 c0 c1 c2 c3 c4 c5))
        have NW := Lib.hid (FIN.out w22 B22.out)
        refine (rsame_any _ _ _ _ _ _ _ _ w22 (one_arg NW.out V22.out) (one_arg NW.out U22.out)).mono ?_
        rintro e w23 ⟨B, rfl, hB, b23⟩
        obtain rfl : B = true := hB.mpr rfl
        have B23 := Lib.hid (belT B22.out b23)
        clear b23 hB
        go_wp2_with fail
        go_ret
        exact ⟨rfl, B23.out⟩
  | some y =>
    obtain ⟨I, hI, hyp, hbef⟩ := fndS_inv hF
    have IN : Hid (I < n) := by
      show _ < _
      rw [← HN.out]; exact (List.getElem?_eq_some_iff.mp hI).1
    have FIN : Hid (∀ w', Below w.heap.size w w' → NdF w' y) := fun w' hb => (HA.out.s y (List.mem_of_getElem? hI)).below hb
    have HI := Lib.hid hI; have BEF := Lib.hid hbef; have YP := Lib.hid hyp
    clear hF hI hbef hyp
    obtain ⟨⟨yk, yp, ym, yt, yd, yc⟩, yx, yxc⟩ := y
    obtain ⟨YL, hYL⟩ := named yd.length
    have eFY : Value.agg (ndV ((some (⟨⟨yk, yp, ym, yt, yd, yc⟩, yx, yxc⟩ : NdS)).getD ndS0)).toArray = .agg (ndL yk yp ym yt yx YL yxc yc).toArray := by rw [hYL.out]; rfl
    rw [eFY]
    clear eFY
    go_wp2_with (first | (have q := G6.out; clear q; refine wpList_alloc_obj rfl 32 rfl (ndL 0 emp 0 emp none 0 0 0) NZ.out ?_; intro w7 g7 b7; have G7 := Lib.hid g7; have K7 := Lib.hid (G6.out.below b7 G6.out.lt); have L7 := Lib.hid G6.out.lt; have B7 := Lib.hid (belT B6.out b7); clear g7 b7) | (refine wpList_alloc_obj rfl 32 rfl (ndL 0 emp 0 emp none 0 0 0) NZ.out ?_; intro w5 g5 b5; have G5 := Lib.hid g5; have B5 := Lib.hid (belT B4.out b5); clear g5 b5) | (have q := G7.out; clear q; refine wpList_store_obj rfl 32 _ _ rfl w6.heap.size rfl (ndL 0 emp 0 emp none 0 0 0) (ndL 0 emp 0 emp none 0 0 0) rfl 32 G7.out NO.out.2 rfl (nd_one _ _ _ _ _ _ _ _) ?_; intro w8 g8 t8; have G8 := Lib.hid g8; have K8 := Lib.hid (K7.out.turned t8 (Nat.ne_of_lt L7.out)); have B8 := Lib.hid (B7.out.trans (t8.below B6.out.size)); clear g8 t8) | (refine wpList_store_obj rfl 32 _ _ rfl w4.heap.size rfl (ndL yk yp ym yt yx YL yxc yc) (ndL 0 emp 0 emp none 0 0 0) rfl 32 G5.out NO.out.2 rfl (nd_one _ _ _ _ _ _ _ _) ?_; intro w6 g6 t6; have G6 := Lib.hid g6; have B6 := Lib.hid (B5.out.trans (t6.below B4.out.size)); clear g6 t6))
    have H4 : Hid (w4.heap.size < w8.heap.size) := K8.out.lt
    have H6 : Hid (w6.heap.size < w8.heap.size) := G8.out.lt
    go_loopw [12, 38] (fun f i wr => ∃ j : Nat, f = .bool false ∧ i = .int .i64 j ∧ j ≤ I ∧ Below w8.heap.size w8 wr) (fun _ i _ => n - (intOf i).toNat)
    case atStart => exact ⟨0, rfl, rfl, Nat.zero_le _, Below.refl _ _⟩
    case round =>
      obtain ⟨j, rfl, rfl, hj, hB⟩ := hrel
      have HB := Lib.hid hB
      have BW := Lib.hid (belT B8.out hB)
      clear hB
      have IN' := IN.out
      obtain ⟨b, off, z, hab, hb, hz, hf, hat⟩ := HA.out.get j (by omega)
      obtain ⟨c0, c1, c2, c3, c4, c5⟩ := (hat.below BW.out hb).c hz
      have EZ : Hid (nd (nds ys) j = z.n) := nd_y hz
      have j1 : (j : Int) < n := by omega
      have ZY : Hid (∀ y, ys[j]? = some y → z = y) := fun y h => by rw [hz] at h; injection h
      clear hat hf hb hz
      subst hab
      by_cases hji : j = I
      · subst hji
        obtain rfl := ZY.out _ HI.out
        have h1 := strs_eq' (show yp = p from YP.out)
        rw [← hYL.out] at c4
        go_wp2_with (first | (refine wpList_alloc_obj rfl 32 rfl (ndL 0 emp 0 emp none 0 0 0) NZ.out ?_; intro w9 g9 b9; have G9 := Lib.hid g9; have C9 := Lib.hid (HB.out.trans (b9.mono HB.out.size)); have B9 := Lib.hid (belT BW.out b9); clear g9 b9 c0 c1 c2 c3 c4 c5) | (refine wpList_store_obj rfl 32 _ _ rfl wr.heap.size rfl (ndL yk yp ym yt yx YL yxc yc) (ndL 0 emp 0 emp none 0 0 0) rfl 32 G9.out NO.out.2 rfl (nd_one _ _ _ _ _ _ _ _) ?_; intro w10 g10 t10; have C10 := Lib.hid (C9.out.trans (t10.below HB.out.size)); have B10 := Lib.hid (B9.out.trans (t10.below BW.out.size)); have c0 := g10.get 0 rfl; have c1 := g10.get 1 rfl; have c2 := g10.get 2 rfl; have c3 := g10.get 3 rfl; have c4 := g10.get 4 rfl; have c5 := g10.get 5 rfl; clear g10 t10) | (refine wpList_store_obj rfl 32 _ _ rfl w6.heap.size rfl (ndL yk yp ym yt yx YL yxc yc) (ndL 0 emp 0 emp none 0 0 0) rfl 32 (G8.out.below C10.out G8.out.lt) NO.out.2 rfl (nd_one _ _ _ _ _ _ _ _) ?_; intro w11 g11 t11; have GE := Lib.hid g11; have KE := Lib.hid ((K8.out.below C10.out K8.out.lt).turned t11 (Nat.ne_of_lt L7.out)); have B11 := Lib.hid (B10.out.trans (t11.below B6.out.size)); clear g11 t11 c0 c1 c2 c3 c4 c5))
        go_wp2_with fail
        refine (Tre.alive_any _ (HV.out.go B11.out)).mono ?_; rintro e w20 ⟨rfl, b20⟩
        have B20 := Lib.hid (belT B11.out b20)
        have K20 := Lib.hid (KE.out.below b20 KE.out.lt)
        have G20 := Lib.hid (GE.out.below b20 GE.out.lt)
        clear b20
        have c0 := K20.out.get 0 rfl; have c1 := K20.out.get 1 rfl; have c2 := K20.out.get 2 rfl; have c3 := K20.out.get 3 rfl; have c4 := K20.out.get 4 rfl; have c5 := K20.out.get 5 rfl
        have d0 := G20.out.get 0 rfl; have d1 := G20.out.get 1 rfl; have d2 := G20.out.get 2 rfl; have d3 := G20.out.get 3 rfl; have d4 := G20.out.get 4 rfl; have d5 := G20.out.get 5 rfl
        go_wp2_with (first | (have q := U21.out; clear q; refine wpList_lit_nd1_w rfl 22 32 _ rfl Tryd.underlying22 _ I6.out ⟨⟨yk, yp, ym, yt, yd, yc⟩, yx, yxc⟩ (by show _ = Value.agg (ndL yk yp ym yt yx yd.length yxc yc).toArray; rw [← hYL.out]; rfl) ?_; intro w22 g22 b22; have U22 := Lib.hid g22; have V22 := Lib.hid (U21.out.below b22 U21.out.lt); have B22 := Lib.hid (belT B21.out b22); clear g22 b22) | (refine wpList_lit_nd1_w rfl 22 32 _ rfl Tryd.underlying22 _ I6.out ⟨⟨yk, yp, ym, yt, yd, yc⟩, yx, yxc⟩ (by show _ = Value.agg (ndL yk yp ym yt yx yd.length yxc yc).toArray; rw [← hYL.out]; rfl) ?_; intro w21 g21 b21; have U21 := Lib.hid g21; have B21 := Lib.hid (belT B20.out b21); have d0 := (G20.out.below b21 G20.out.lt).get 0 rfl; have d1 := (G20.out.below b21 G20.out.lt).get 1 rfl; have d2 := (G20.out.below b21 G20.out.lt).get 2 rfl; have d3 := (G20.out.below b21 G20.out.lt).get 3 rfl; have d4 := (G20.out.below b21 G20.out.lt).get 4 rfl; have d5 := (G20.out.below b21 G20.out.lt).get 5 rfl; clear g21 b21 c0 c1 c2 c3 c4 c5))
        have NW := Lib.hid (FIN.out w22 B22.out)
        refine (rsame_any _ _ _ _ _ _ _ _ w22 (one_arg NW.out V22.out) (one_arg NW.out U22.out)).mono ?_
        rintro e w23 ⟨B, rfl, hB, b23⟩
        obtain rfl : B = true := hB.mpr rfl
        have B23 := Lib.hid (belT B22.out b23)
        clear b23 hB
        go_wp2_with fail
        go_ret
        exact ⟨rfl, B23.out⟩
      · skip
        obtain ⟨⟨k, q, m, t, d, c⟩, x, xc⟩ := z
        obtain ⟨L, hL⟩ := named d.length
        have c4' : wr.cell? ⟨b, off + j * 6 + 4, none⟩ = some (.slice x L xc) := by rw [hL.out]; exact c4
        clear c4
        have c4 := c4'
        clear c4'
        have NEQ : Hid (¬ q = p) := fun h => BEF.out j (by omega) (by rw [EZ.out]; exact h)
        have h1 := strs_no' (show ¬ q = p from NEQ.out)
        go_wp2_with (first | (refine wpList_alloc_obj rfl 32 rfl (ndL 0 emp 0 emp none 0 0 0) NZ.out ?_; intro w9 g9 b9; have G9 := Lib.hid g9; have C9 := Lib.hid (HB.out.trans (b9.mono HB.out.size)); have B9 := Lib.hid (belT BW.out b9); clear g9 b9 c0 c1 c2 c3 c4 c5) | (refine wpList_store_obj rfl 32 _ _ rfl wr.heap.size rfl (ndL k q m t x L xc c) (ndL 0 emp 0 emp none 0 0 0) rfl 32 G9.out NO.out.2 rfl (nd_one _ _ _ _ _ _ _ _) ?_; intro w10 g10 t10; have C10 := Lib.hid (C9.out.trans (t10.below HB.out.size)); have B10 := Lib.hid (B9.out.trans (t10.below BW.out.size)); have c0 := g10.get 0 rfl; have c1 := g10.get 1 rfl; have c2 := g10.get 2 rfl; have c3 := g10.get 3 rfl; have c4 := g10.get 4 rfl; have c5 := g10.get 5 rfl; clear g10 t10))
        go_round
        case rel => exact ⟨j + 1, rfl, by go_num, by omega, C10.out⟩
        case measure => simp [intOf]; omega
end Go.Proofs.YtaobokboakkjjaaDoor
