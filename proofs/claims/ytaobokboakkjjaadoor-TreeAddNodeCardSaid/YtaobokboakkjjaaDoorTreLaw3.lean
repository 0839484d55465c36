/-
  The statement TreeAddNode: a walk.
-/
import Derived.Test.YtaobokboakkjjaaDoorPk12
import Derived.Test.YtaobokboakkjjaaDoorPk13
namespace Go.Proofs.YtaobokboakkjjaaDoor
open Go.RowKit Go.Proofs.YtaobokboakkjjaaDoor.Fit Pnm Tre

theorem Tre.fnd_has {ys : List NdS} {p : ByteArray} : (fndS ys p).isSome = true ↔ ∃ y ∈ nds ys, y.p = p := by
  unfold fndS
  rw [List.find?_isSome]
  constructor
  · rintro ⟨y, hy, h⟩
    exact ⟨y.n, List.mem_map.mpr ⟨y, hy, rfl⟩, of_decide_eq_true h⟩
  · rintro ⟨x, hx, h⟩
    obtain ⟨y, hy, rfl⟩ := List.mem_map.mp hx
    exact ⟨y, hy, decide_eq_true h⟩
theorem Tre.fnd_par' {ys : List NdS} {x : Nd} (hv : Val (nds ys)) : Par (nds ys) x ↔ strOfNums (parZ (key x)) = emp ∨ ((fndS ys (strOfNums (parZ (key x)))).isSome = true ∧ ((fndS ys (strOfNums (parZ (key x)))).getD ndS0).n.k = 0) := by
  unfold Par
  rw [str_emp']
  constructor
  · rintro (h | ⟨y, hy, h1, h2⟩)
    · exact .inl h
    · have hp := par_key.mp h2
      have hs : (fndS ys (strOfNums (parZ (key x)))).isSome = true := fnd_has.mpr ⟨y, hy, hp⟩
      refine .inr ⟨hs, ?_⟩
      obtain ⟨z, hz⟩ := Option.isSome_iff_exists.mp hs
      rw [hz]
      have hzp : z.n.p = strOfNums (parZ (key x)) := by
        have := List.find?_some (show ys.find? _ = some z from hz)
        exact of_decide_eq_true this
      have hzm : z.n ∈ nds ys := List.mem_map.mpr ⟨z, List.mem_of_find?_eq_some (show ys.find? _ = some z from hz), rfl⟩
      have := hv.apt.inj hzm hy (hzp.trans hp.symm)
      show z.n.k = 0
      rw [this]; exact h1
  · rintro (h | ⟨h1, h2⟩)
    · exact .inl h
    · obtain ⟨z, hz⟩ := Option.isSome_iff_exists.mp h1
      rw [hz] at h2
      have hzp : z.n.p = strOfNums (parZ (key x)) := by
        have := List.find?_some (show ys.find? _ = some z from hz)
        exact of_decide_eq_true this
      exact .inr ⟨z.n, List.mem_map.mpr ⟨z, List.mem_of_find?_eq_some (show ys.find? _ = some z from hz), rfl⟩, h2, par_key.mpr hzp⟩
theorem Tre.nds_app (ys zs : List NdS) : nds (ys ++ zs) = nds ys ++ nds zs := by unfold nds; rw [List.map_append]
abbrev Tre.newY (p : ByteArray) : NdS := ⟨⟨1, p, 0, emp, [], 0⟩, none, 0⟩

set_option maxRecDepth 100000 in
set_option maxHeartbeats 8000000 in
theorem walk_TreeAddNode (a : Option Addr) (n cap : Nat) (ys : List NdS) (p : ByteArray) (w : World) (V : Pxr.Vars w) (ha : ArgNds w a n cap ys) (hpm : p.size ≤ maxLen) :
    Calls Tryd.prog 8 #[.slice a n cap, .string p] w fun e w' => e = .returned (.bool true) ∧ Below w.heap.size w w' := by
  have HV := Lib.hid (FVars.mk V)
  have HA := Lib.hid ha
  have NZ := Lib.hid zNd
  have NO := Lib.hid ndT
  have I6 := Lib.hid IN6
  obtain ⟨i0, HI0⟩ := info_of (P := Tryd.prog) (e := 32) (z := .agg (ndL 0 emp 0 emp none 0 0 0).toArray) (s := 6) (b := 80) (by kernel_rfl)
  have HN : Hid (ys.length = n) := ha.n
  have HPM := Lib.hid hpm
  clear V ha hpm
  go_enter Tryd.func8, Tryd.ntmps8
  go_wp2_with fail
  refine (large_any a n cap ys w HA.out).mono ?_; rintro e w1 ⟨R, rfl, hR, b1⟩
  have B1 := Lib.hid b1
  clear b1
  rcases hR with rfl | ⟨rfl, h40, _⟩
  · go_wp2_with fail
    refine (Tre.alive_any w1 (HV.out.go B1.out)).mono ?_; rintro e w2 ⟨rfl, b2⟩
    have B2 := Lib.hid (belT B1.out b2)
    go_wp2
    go_ret
    exact ⟨rfl, B2.out⟩
  by_cases h3 : (3000 : Int) < p.size
  · go_wp2_with fail
    refine (Tre.alive_any w1 (HV.out.go B1.out)).mono ?_; rintro e w2 ⟨rfl, b2⟩
    have B2 := Lib.hid (belT B1.out b2)
    go_wp2
    go_ret
    exact ⟨rfl, B2.out⟩
  have N40 := Lib.hid h40
  have P3 : Hid (p.size ≤ 3000) := by show _ ≤ _; omega
  have n40 : (n : Int) ≤ 40 := by omega
  clear h40
  obtain ⟨X1, hX1⟩ := named (chk (nds ys)).1
  obtain ⟨X2, hX2⟩ := named (chk (nds ys)).2
  have PC : Hid (∀ w', Below w.heap.size w w' → Calls Tryd.prog 12 #[.slice a n cap] w' fun e w'' => e = .returned (.tuple #[.int .i64 X1, .int .i64 X2]) ∧ Below w'.heap.size w' w'') := fun w' hb => by
    rw [hX1.out, hX2.out]; exact pchk_any a n cap ys w' (HV.out.go hb) (HA.out.below hb)
  go_wp2_with fail
  refine (PC.out w1 B1.out).mono ?_; rintro e w2 ⟨rfl, b2⟩
  have B2 := Lib.hid (belT B1.out b2)
  clear b2 PC
  by_cases hx : ¬ X2 = 0
  · have nx : (X2 != 0) = true := by simpa using hx
    go_wp2_with fail
    refine (Tre.alive_any w2 (HV.out.go B2.out)).mono ?_; rintro e w3 ⟨rfl, b3⟩
    have B3 := Lib.hid (belT B2.out b3)
    go_wp2
    go_ret
    exact ⟨rfl, B3.out⟩
  obtain rfl : X2 = 0 := Decidable.not_not.mp hx
  clear hx
  have VAL : Hid (Val (nds ys)) := chk_ok.mp hX2.out.symm
  clear hX1 hX2
  go_wp2_with fail
  have FN := find_any a n cap ys p w2 (HA.out.below B2.out)
  have EXI := Lib.hid (Tre.fnd_has (ys := ys) (p := p))
  obtain ⟨O1, hO1⟩ := named (fndS ys p)
  rw [← hO1.out] at FN EXI
  obtain ⟨EX, hEX⟩ := named O1.isSome
  rw [← hEX.out] at FN EXI
  refine FN.mono ?_; rintro e w3 ⟨rfl, b3⟩
  have B3 := Lib.hid (belT B2.out b3)
  clear b3 FN
  obtain ⟨⟨⟨yk, yp, ym, yt, yd, yc⟩, yx, yxc⟩, hY1⟩ := named (O1.getD ndS0)
  rw [← hY1.out]
  obtain ⟨YL, hYL⟩ := named yd.length
  have eFY : Value.agg (ndV (⟨⟨yk, yp, ym, yt, yd, yc⟩, yx, yxc⟩ : NdS)).toArray = .agg (ndL yk yp ym yt yx YL yxc yc).toArray := by rw [hYL.out]
  rw [eFY]
  clear hO1 hEX hY1 eFY hYL
  go_wp2_with (first | (refine wpList_alloc_obj rfl 32 rfl (ndL 0 emp 0 emp none 0 0 0) NZ.out ?_; intro w4 g4 b4; have G4 := Lib.hid g4; have B4 := Lib.hid (belT B3.out b4); clear g4 b4) | (refine wpList_store_obj rfl 32 _ _ rfl w3.heap.size rfl (ndL yk yp ym yt yx YL yxc yc) (ndL 0 emp 0 emp none 0 0 0) rfl 32 G4.out NO.out.2 rfl (nd_one _ _ _ _ _ _ _ _) ?_; intro w5 g5 t5; have B5 := Lib.hid (B4.out.trans (t5.below B3.out.size)); clear g5 t5))
  refine (pparent p w5 HPM.out).mono ?_; rintro e w6 ⟨rfl, b6⟩
  have B6 := Lib.hid (belT B5.out b6)
  clear b6
  have PARX := Lib.hid (Tre.fnd_par' (ys := ys) (x := newF p) VAL.out)
  obtain ⟨PS, hPS⟩ := named (strOfNums (parZ (numsOf p)))
  rw [show strOfNums (parZ (key (newF p))) = PS from hPS.out.symm] at PARX
  rw [← hPS.out]
  go_wp2_with fail
  have FN := find_any a n cap ys PS w6 (HA.out.below B6.out)
  obtain ⟨O2, hO2⟩ := named (fndS ys PS)
  rw [← hO2.out] at FN PARX
  obtain ⟨OK, hOK⟩ := named O2.isSome
  rw [← hOK.out] at FN PARX
  refine FN.mono ?_; rintro e w7 ⟨rfl, b7⟩
  have B7 := Lib.hid (belT B6.out b7)
  clear b7 FN
  obtain ⟨⟨⟨zk, zp, zm, zt, zd, zc⟩, zx, zxc⟩, hY2⟩ := named (O2.getD ndS0)
  have PAR : Hid (Par (nds ys) (newF p) ↔ PS = emp ∨ (OK = true ∧ zk = 0)) := by show _ ↔ _; rw [PARX.out, ← hY2.out]
  rw [← hY2.out]
  obtain ⟨ZL, hZL⟩ := named zd.length
  have eFY : Value.agg (ndV (⟨⟨zk, zp, zm, zt, zd, zc⟩, zx, zxc⟩ : NdS)).toArray = .agg (ndL zk zp zm zt zx ZL zxc zc).toArray := by rw [hZL.out]
  rw [eFY]
  clear hPS hO2 hOK hY2 eFY hZL PARX
  go_wp2_with (first | (refine wpList_alloc_obj rfl 32 rfl (ndL 0 emp 0 emp none 0 0 0) NZ.out ?_; intro w8 g8 b8; have G8 := Lib.hid g8; have B8 := Lib.hid (belT B7.out b8); clear g8 b8) | (refine wpList_store_obj rfl 32 _ _ rfl w7.heap.size rfl (ndL zk zp zm zt zx ZL zxc zc) (ndL 0 emp 0 emp none 0 0 0) rfl 32 G8.out NO.out.2 rfl (nd_one _ _ _ _ _ _ _ _) ?_; intro w9 g9 t9; have G9 := Lib.hid g9; have B9 := Lib.hid (B8.out.trans (t9.below B7.out.size)); clear g9 t9))
  refine (pcheck p w9 HPM.out).mono ?_; rintro e w10 ⟨rfl, b10⟩
  have G10 := Lib.hid (G9.out.below b10 G9.out.lt)
  have B10 := Lib.hid (belT B9.out b10)
  clear b10
  have z0 := G10.out.get 0 rfl
  have ONE := Lib.hid (one_newF p)
  obtain ⟨W, hW⟩ := named (chE (numsOf p))
  rw [← hW.out]
  rw [← hW.out] at ONE
  clear hW
  have LEN : Hid ((nds ys).length = n) := by show _ = _; rw [nds_len, HN.out]
  have HC : Hid (∀ q1 q2 : Int, chk (nds ys ++ [newF p]) = (q1, q2) → ∀ w' v, w'.ownsRow w10.heap.size 32 6 v (0 + n + 1) (ndCells (([] ++ ys) ++ [newY p])) → Below w10.heap.size w10 w' → ∃ b c, v = .slice b (0 + n + 1) c ∧ Calls Tryd.prog 12 #[.slice b (0 + n + 1) c] w' fun e w'' => e = .returned (.tuple #[.int .i64 q1, .int .i64 q2]) ∧ Below w'.heap.size w' w'') := fun q1 q2 hq w' v hv hb => by
    have hf : ∀ y ∈ ([] ++ ys) ++ [newY p], NdF w' y := fun y hy => by
      rcases List.mem_append.mp hy with h | h
      · exact (HA.out.s y (by simpa using h)).below (belT B10.out hb)
      · simp at h
        subst h
        exact ⟨(by decide : (Lit.int .i64 1).wf = true), Nat.le_trans P3.out (by decide), (by decide : (Lit.int .i64 0).wf = true), (by decide : emp.size ≤ 140737488355328), ArgInts.nil, (Nat.zero_le _), (by decide : (Lit.int .i64 0).wf = true)⟩
    obtain ⟨b, c, rfl, hr⟩ := ArgNds.of_own hv hf
    refine ⟨b, c, rfl, ?_⟩
    have := pchk_any b (0 + n + 1) c _ w' (HV.out.go (belT B10.out hb)) hr
    rw [show nds (([] ++ ys) ++ [newY p]) = nds ys ++ [newF p] from by rw [List.nil_append, nds_app]; rfl, hq] at this
    exact this
  by_cases hw : ¬ W = 0
  · have nw : (W != 0) = true := by simpa using hw
    have nw' : (W == 0) = false := by simpa using hw
    have ww : (W == W) = true := by simp
    have AD : Hid (chk (nds ys ++ [newF p]) = ((n : Int), W)) := by
      show _ = _
      have := add_one VAL.out (x := newF p) (by rw [ONE.out]; exact hw)
      rw [this, ONE.out, LEN.out]
    clear hw
    go_wp2_with (first | (refine wpList_lit_nd0 rfl 22 32 rfl Tryd.underlying22 _ I6.out ?_; intro w11 g11 b11; have G11 := Lib.hid g11; have B11 := Lib.hid b11; have N11 := Lib.hid (HA.out.below (belT B10.out b11)).r; clear g11 b11 z0) | (at_builtin; (have q := G13.out; clear q); refine wpList_append_nds rfl _ _ 22 rfl 32 w10.heap.size i0 _ Tryd.underlying22 HI0 rfl v12 (0 + n) ([] ++ ys) rfl K13.out (some ⟨w12.heap.size, 0, none⟩) 1 1 [newY p] rfl (.inr ⟨_, 0, rfl, G13.out.lt, .of_cells G13.out⟩) rfl (by have := N40.out; omega) B13.out.size ?_; intro v14 w14 g14 b14 x14 y14; have G14 := Lib.hid g14; have B14 := Lib.hid (B13.out.trans b14); clear g14 b14 x14 y14) | (at_builtin; refine wpList_append_nds rfl _ _ 22 rfl 32 w10.heap.size i0 _ Tryd.underlying22 HI0 rfl (.slice (some ⟨w10.heap.size, 0, none⟩) 0 0) 0 [] rfl G11.out a n cap ys rfl N11.out HN.out (by have := N40.out; omega) B11.out.size ?_; intro v12 w12 g12 b12 x12 y12; have G12 := Lib.hid g12; have B12 := Lib.hid (B11.out.trans b12); clear g12 b12 x12 y12) | (refine wpList_lit_nd1 rfl 22 32 _ rfl Tryd.underlying22 _ I6.out (newY p) rfl ?_; intro w13 g13 b13; have G13 := Lib.hid g13; have K13 := Lib.hid (own_stay' G12.out b13 (Nat.le_refl _)); have B13 := Lib.hid (B12.out.trans (b13.mono B12.out.size)); clear g13 b13))
    obtain ⟨gb, gc, hv14, CC⟩ := HC.out n W AD.out w14 v14 G14.out B14.out
    subst hv14
    have CCH := Lib.hid CC
    clear CC
    refine CCH.out.mono ?_; rintro e w15 ⟨rfl, b15⟩
    have B15 := Lib.hid (belT (belT B10.out B14.out) b15)
    clear b15 CCH
    go_wp2_with fail
    refine (Tre.alive_any w15 (HV.out.go B15.out)).mono ?_; rintro e w16 ⟨rfl, b16⟩
    have B16 := Lib.hid (belT B15.out b16)
    clear b16
    go_wp2_with fail
    go_ret
    exact ⟨rfl, B16.out⟩
  obtain rfl : W = 0 := Decidable.not_not.mp hw
  clear hw
  cases EX with
  | true =>
    have AD : Hid (chk (nds ys ++ [newF p]) = ((n : Int), 14)) := by
      show _ = _
      rw [add_dup VAL.out ONE.out (EXI.out.mp rfl), LEN.out]
    go_wp2_with (first | (refine wpList_lit_nd0 rfl 22 32 rfl Tryd.underlying22 _ I6.out ?_; intro w11 g11 b11; have G11 := Lib.hid g11; have B11 := Lib.hid b11; have N11 := Lib.hid (HA.out.below (belT B10.out b11)).r; clear g11 b11 z0) | (at_builtin; (have q := G13.out; clear q); refine wpList_append_nds rfl _ _ 22 rfl 32 w10.heap.size i0 _ Tryd.underlying22 HI0 rfl v12 (0 + n) ([] ++ ys) rfl K13.out (some ⟨w12.heap.size, 0, none⟩) 1 1 [newY p] rfl (.inr ⟨_, 0, rfl, G13.out.lt, .of_cells G13.out⟩) rfl (by have := N40.out; omega) B13.out.size ?_; intro v14 w14 g14 b14 x14 y14; have G14 := Lib.hid g14; have B14 := Lib.hid (B13.out.trans b14); clear g14 b14 x14 y14) | (at_builtin; refine wpList_append_nds rfl _ _ 22 rfl 32 w10.heap.size i0 _ Tryd.underlying22 HI0 rfl (.slice (some ⟨w10.heap.size, 0, none⟩) 0 0) 0 [] rfl G11.out a n cap ys rfl N11.out HN.out (by have := N40.out; omega) B11.out.size ?_; intro v12 w12 g12 b12 x12 y12; have G12 := Lib.hid g12; have B12 := Lib.hid (B11.out.trans b12); clear g12 b12 x12 y12) | (refine wpList_lit_nd1 rfl 22 32 _ rfl Tryd.underlying22 _ I6.out (newY p) rfl ?_; intro w13 g13 b13; have G13 := Lib.hid g13; have K13 := Lib.hid (own_stay' G12.out b13 (Nat.le_refl _)); have B13 := Lib.hid (B12.out.trans (b13.mono B12.out.size)); clear g13 b13))
    obtain ⟨gb, gc, hv14, CC⟩ := HC.out n 14 AD.out w14 v14 G14.out B14.out
    subst hv14
    have CCH := Lib.hid CC
    clear CC
    refine CCH.out.mono ?_; rintro e w15 ⟨rfl, b15⟩
    have B15 := Lib.hid (belT (belT B10.out B14.out) b15)
    clear b15 CCH
    go_wp2_with fail
    refine (Tre.alive_any w15 (HV.out.go B15.out)).mono ?_; rintro e w16 ⟨rfl, b16⟩
    have B16 := Lib.hid (belT B15.out b16)
    clear b16
    go_wp2_with fail
    go_ret
    exact ⟨rfl, B16.out⟩
  | false =>
    have NOEX : Hid (¬ ∃ y ∈ nds ys, y.p = p) := fun h => by have := EXI.out.mpr h; cases this
    have FINE : Hid ((PS = emp ∨ (OK = true ∧ zk = 0)) → chk (nds ys ++ [newF p]) = ((n : Int) + 1, 0)) := fun h => by
      rw [add_fine VAL.out ONE.out rfl NOEX.out (PAR.out.mpr h), LEN.out]
    have LONE : Hid (¬ (PS = emp ∨ (OK = true ∧ zk = 0)) → chk (nds ys ++ [newF p]) = ((n : Int), 13)) := fun h => by
      rw [add_lone VAL.out ONE.out (show (1 : Int) ≠ 0 by decide) NOEX.out (fun c => h (PAR.out.mp c)), LEN.out]
    by_cases hp : PS = emp
    · have AD := Lib.hid (FINE.out (.inl hp))
      subst hp
      clear FINE LONE PAR
      go_wp2_with (first | (refine wpList_lit_nd0 rfl 22 32 rfl Tryd.underlying22 _ I6.out ?_; intro w11 g11 b11; have G11 := Lib.hid g11; have B11 := Lib.hid b11; have N11 := Lib.hid (HA.out.below (belT B10.out b11)).r; clear g11 b11 z0) | (at_builtin; (have q := G13.out; clear q); refine wpList_append_nds rfl _ _ 22 rfl 32 w10.heap.size i0 _ Tryd.underlying22 HI0 rfl v12 (0 + n) ([] ++ ys) rfl K13.out (some ⟨w12.heap.size, 0, none⟩) 1 1 [newY p] rfl (.inr ⟨_, 0, rfl, G13.out.lt, .of_cells G13.out⟩) rfl (by have := N40.out; omega) B13.out.size ?_; intro v14 w14 g14 b14 x14 y14; have G14 := Lib.hid g14; have B14 := Lib.hid (B13.out.trans b14); clear g14 b14 x14 y14) | (at_builtin; refine wpList_append_nds rfl _ _ 22 rfl 32 w10.heap.size i0 _ Tryd.underlying22 HI0 rfl (.slice (some ⟨w10.heap.size, 0, none⟩) 0 0) 0 [] rfl G11.out a n cap ys rfl N11.out HN.out (by have := N40.out; omega) B11.out.size ?_; intro v12 w12 g12 b12 x12 y12; have G12 := Lib.hid g12; have B12 := Lib.hid (B11.out.trans b12); clear g12 b12 x12 y12) | (refine wpList_lit_nd1 rfl 22 32 _ rfl Tryd.underlying22 _ I6.out (newY p) rfl ?_; intro w13 g13 b13; have G13 := Lib.hid g13; have K13 := Lib.hid (own_stay' G12.out b13 (Nat.le_refl _)); have B13 := Lib.hid (B12.out.trans (b13.mono B12.out.size)); clear g13 b13))
      obtain ⟨gb, gc, hv14, CC⟩ := HC.out ((n : Int) + 1) 0 AD.out w14 v14 G14.out B14.out
      subst hv14
      have CCH := Lib.hid CC
      clear CC
      refine CCH.out.mono ?_; rintro e w15 ⟨rfl, b15⟩
      have B15 := Lib.hid (belT (belT B10.out B14.out) b15)
      clear b15 CCH
      go_wp2_with fail
      refine (Tre.alive_any w15 (HV.out.go B15.out)).mono ?_; rintro e w16 ⟨rfl, b16⟩
      have B16 := Lib.hid (belT B15.out b16)
      clear b16
      go_wp2_with fail
      go_ret
      exact ⟨rfl, B16.out⟩
    · have hi := empty_no hp
      cases OK with
      | false =>
        have AD := Lib.hid (LONE.out (fun h => h.elim hp (fun h => absurd h.1 (by decide))))
        clear FINE LONE PAR hp
        go_wp2_with (first | (refine wpList_lit_nd0 rfl 22 32 rfl Tryd.underlying22 _ I6.out ?_; intro w11 g11 b11; have G11 := Lib.hid g11; have B11 := Lib.hid b11; have N11 := Lib.hid (HA.out.below (belT B10.out b11)).r; clear g11 b11 z0) | (at_builtin; (have q := G13.out; clear q); refine wpList_append_nds rfl _ _ 22 rfl 32 w10.heap.size i0 _ Tryd.underlying22 HI0 rfl v12 (0 + n) ([] ++ ys) rfl K13.out (some ⟨w12.heap.size, 0, none⟩) 1 1 [newY p] rfl (.inr ⟨_, 0, rfl, G13.out.lt, .of_cells G13.out⟩) rfl (by have := N40.out; omega) B13.out.size ?_; intro v14 w14 g14 b14 x14 y14; have G14 := Lib.hid g14; have B14 := Lib.hid (B13.out.trans b14); clear g14 b14 x14 y14) | (at_builtin; refine wpList_append_nds rfl _ _ 22 rfl 32 w10.heap.size i0 _ Tryd.underlying22 HI0 rfl (.slice (some ⟨w10.heap.size, 0, none⟩) 0 0) 0 [] rfl G11.out a n cap ys rfl N11.out HN.out (by have := N40.out; omega) B11.out.size ?_; intro v12 w12 g12 b12 x12 y12; have G12 := Lib.hid g12; have B12 := Lib.hid (B11.out.trans b12); clear g12 b12 x12 y12) | (refine wpList_lit_nd1 rfl 22 32 _ rfl Tryd.underlying22 _ I6.out (newY p) rfl ?_; intro w13 g13 b13; have G13 := Lib.hid g13; have K13 := Lib.hid (own_stay' G12.out b13 (Nat.le_refl _)); have B13 := Lib.hid (B12.out.trans (b13.mono B12.out.size)); clear g13 b13))
        obtain ⟨gb, gc, hv14, CC⟩ := HC.out n 13 AD.out w14 v14 G14.out B14.out
        subst hv14
        have CCH := Lib.hid CC
        clear CC
        refine CCH.out.mono ?_; rintro e w15 ⟨rfl, b15⟩
        have B15 := Lib.hid (belT (belT B10.out B14.out) b15)
        clear b15 CCH
        go_wp2_with fail
        refine (Tre.alive_any w15 (HV.out.go B15.out)).mono ?_; rintro e w16 ⟨rfl, b16⟩
        have B16 := Lib.hid (belT B15.out b16)
        clear b16
        go_wp2_with fail
        go_ret
        exact ⟨rfl, B16.out⟩
      | true =>
        by_cases hk : zk = 0
        · have AD := Lib.hid (FINE.out (.inr ⟨rfl, hk⟩))
          subst hk
          clear FINE LONE PAR hp
          go_wp2_with (first | (refine wpList_lit_nd0 rfl 22 32 rfl Tryd.underlying22 _ I6.out ?_; intro w11 g11 b11; have G11 := Lib.hid g11; have B11 := Lib.hid b11; have N11 := Lib.hid (HA.out.below (belT B10.out b11)).r; clear g11 b11 z0) | (at_builtin; (have q := G13.out; clear q); refine wpList_append_nds rfl _ _ 22 rfl 32 w10.heap.size i0 _ Tryd.underlying22 HI0 rfl v12 (0 + n) ([] ++ ys) rfl K13.out (some ⟨w12.heap.size, 0, none⟩) 1 1 [newY p] rfl (.inr ⟨_, 0, rfl, G13.out.lt, .of_cells G13.out⟩) rfl (by have := N40.out; omega) B13.out.size ?_; intro v14 w14 g14 b14 x14 y14; have G14 := Lib.hid g14; have B14 := Lib.hid (B13.out.trans b14); clear g14 b14 x14 y14) | (at_builtin; refine wpList_append_nds rfl _ _ 22 rfl 32 w10.heap.size i0 _ Tryd.underlying22 HI0 rfl (.slice (some ⟨w10.heap.size, 0, none⟩) 0 0) 0 [] rfl G11.out a n cap ys rfl N11.out HN.out (by have := N40.out; omega) B11.out.size ?_; intro v12 w12 g12 b12 x12 y12; have G12 := Lib.hid g12; have B12 := Lib.hid (B11.out.trans b12); clear g12 b12 x12 y12) | (refine wpList_lit_nd1 rfl 22 32 _ rfl Tryd.underlying22 _ I6.out (newY p) rfl ?_; intro w13 g13 b13; have G13 := Lib.hid g13; have K13 := Lib.hid (own_stay' G12.out b13 (Nat.le_refl _)); have B13 := Lib.hid (B12.out.trans (b13.mono B12.out.size)); clear g13 b13))
          obtain ⟨gb, gc, hv14, CC⟩ := HC.out ((n : Int) + 1) 0 AD.out w14 v14 G14.out B14.out
          subst hv14
          have CCH := Lib.hid CC
          clear CC
          refine CCH.out.mono ?_; rintro e w15 ⟨rfl, b15⟩
          have B15 := Lib.hid (belT (belT B10.out B14.out) b15)
          clear b15 CCH
          go_wp2_with fail
          refine (Tre.alive_any w15 (HV.out.go B15.out)).mono ?_; rintro e w16 ⟨rfl, b16⟩
          have B16 := Lib.hid (belT B15.out b16)
          clear b16
          go_wp2_with fail
          go_ret
          exact ⟨rfl, B16.out⟩
        · have AD := Lib.hid (LONE.out (fun h => h.elim hp (fun h => hk h.2)))
          have nk : (zk != 0) = true := by simpa using hk
          clear FINE LONE PAR hp hk
          go_wp2_with (first | (refine wpList_lit_nd0 rfl 22 32 rfl Tryd.underlying22 _ I6.out ?_; intro w11 g11 b11; have G11 := Lib.hid g11; have B11 := Lib.hid b11; have N11 := Lib.hid (HA.out.below (belT B10.out b11)).r; clear g11 b11 z0) | (at_builtin; (have q := G13.out; clear q); refine wpList_append_nds rfl _ _ 22 rfl 32 w10.heap.size i0 _ Tryd.underlying22 HI0 rfl v12 (0 + n) ([] ++ ys) rfl K13.out (some ⟨w12.heap.size, 0, none⟩) 1 1 [newY p] rfl (.inr ⟨_, 0, rfl, G13.out.lt, .of_cells G13.out⟩) rfl (by have := N40.out; omega) B13.out.size ?_; intro v14 w14 g14 b14 x14 y14; have G14 := Lib.hid g14; have B14 := Lib.hid (B13.out.trans b14); clear g14 b14 x14 y14) | (at_builtin; refine wpList_append_nds rfl _ _ 22 rfl 32 w10.heap.size i0 _ Tryd.underlying22 HI0 rfl (.slice (some ⟨w10.heap.size, 0, none⟩) 0 0) 0 [] rfl G11.out a n cap ys rfl N11.out HN.out (by have := N40.out; omega) B11.out.size ?_; intro v12 w12 g12 b12 x12 y12; have G12 := Lib.hid g12; have B12 := Lib.hid (B11.out.trans b12); clear g12 b12 x12 y12) | (refine wpList_lit_nd1 rfl 22 32 _ rfl Tryd.underlying22 _ I6.out (newY p) rfl ?_; intro w13 g13 b13; have G13 := Lib.hid g13; have K13 := Lib.hid (own_stay' G12.out b13 (Nat.le_refl _)); have B13 := Lib.hid (B12.out.trans (b13.mono B12.out.size)); clear g13 b13))
          obtain ⟨gb, gc, hv14, CC⟩ := HC.out n 13 AD.out w14 v14 G14.out B14.out
          subst hv14
          have CCH := Lib.hid CC
          clear CC
          refine CCH.out.mono ?_; rintro e w15 ⟨rfl, b15⟩
          have B15 := Lib.hid (belT (belT B10.out B14.out) b15)
          clear b15 CCH
          go_wp2_with fail
          refine (Tre.alive_any w15 (HV.out.go B15.out)).mono ?_; rintro e w16 ⟨rfl, b16⟩
          have B16 := Lib.hid (belT B15.out b16)
          clear b16
          go_wp2_with fail
          go_ret
          exact ⟨rfl, B16.out⟩
end Go.Proofs.YtaobokboakkjjaaDoor
