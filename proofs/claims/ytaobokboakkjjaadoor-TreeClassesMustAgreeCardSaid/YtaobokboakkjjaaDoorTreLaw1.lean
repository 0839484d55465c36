/-
  The statement TreeClassesMustAgree: a walk.
-/
import Derived.Test.YtaobokboakkjjaaDoorPk12
namespace Go.Proofs.YtaobokboakkjjaaDoor
open Go.RowKit Go.Proofs.YtaobokboakkjjaaDoor.Fit Pnm Tre

theorem Tre.sx_ok : chE (numsOf (⟨#[120]⟩ : ByteArray)) = 0 ∧ parZ (numsOf (⟨#[120]⟩ : ByteArray)) = [] ∧ chE (numsOf (⟨#[121]⟩ : ByteArray)) = 0 ∧ parZ (numsOf (⟨#[121]⟩ : ByteArray)) = [] := by decide
/-- the two nodes -/
abbrev Tre.twoY (p : ByteArray) (m : Int) (d : List Int) (a : Option Addr) (cap : Nat) (c : Int) : NdS := ⟨⟨1, p, m, emp, d, c⟩, a, cap⟩
theorem Tre.two_arg {w : World} {g : Nat} {m m' : Int} {xs ys : List Int} {a b : Option Addr} {cap cap' : Nat} {c c' : Int} (hm : 0 ≤ m ∧ m ≤ 4095) (hm' : 0 ≤ m' ∧ m' ≤ 4095) (hx : ArgInts .u8 w a xs.length cap xs) (hy : ArgInts .u8 w b ys.length cap' ys)
    (lx : xs.length ≤ 1000) (ly : ys.length ≤ 1000) (hc : (Lit.int .i64 c).wf = true) (hc' : (Lit.int .i64 c').wf = true) (hg : ObjAt w g 32 (ndCells [twoY ⟨#[120]⟩ m xs a cap c, twoY ⟨#[121]⟩ m' ys b cap' c'])) :
    ArgNds w (some ⟨g, 0, none⟩) 2 2 [twoY ⟨#[120]⟩ m xs a cap c, twoY ⟨#[121]⟩ m' ys b cap' c'] := by
  have wf : ∀ z : Int, 0 ≤ z → z ≤ 4095 → (Lit.int .i64 z).wf = true := fun z h1 h2 => by
    have e1 : IntKind.i64.min = -9223372036854775808 := by decide
    have e2 : IntKind.i64.max = 9223372036854775807 := by decide
    simp [Lit.wf]
    omega
  refine ⟨rfl, Nat.le_refl _, by decide, .inr ⟨g, 0, rfl, hg.lt, .of_cells hg⟩, fun y h => ?_⟩
  simp at h
  rcases h with rfl | rfl
  · exact ⟨(by decide : (Lit.int .i64 1).wf = true), (by decide : (⟨#[120]⟩ : ByteArray).size ≤ 140737488355328), wf m hm.1 hm.2, (by decide : emp.size ≤ 140737488355328), hx, by show xs.length ≤ _; omega, hc⟩
  · exact ⟨(by decide : (Lit.int .i64 1).wf = true), (by decide : (⟨#[121]⟩ : ByteArray).size ≤ 140737488355328), wf m' hm'.1 hm'.2, (by decide : emp.size ≤ 140737488355328), hy, by show ys.length ≤ _; omega, hc'⟩
theorem Tre.u16_bd {z : Int} (h : (Lit.int .u16 z).wf = true) : 0 ≤ z ∧ z ≤ 65535 := by
  have e1 : IntKind.u16.min = 0 := by decide
  have e2 : IntKind.u16.max = 65535 := by decide
  simp [Lit.wf] at h
  omega

set_option maxRecDepth 100000 in
set_option maxHeartbeats 8000000 in
theorem walk_TreeClassesMustAgree (ms : List Int) (a : Option Addr) (n cap : Nat) (xs : List Int) (b : Option Addr) (n' cap' : Nat) (ys : List Int) (w : World) (V : Pxr.Vars w) (hl : ms.length = 2) (hw : ∀ z ∈ ms, (Lit.int .u16 z).wf = true) (ha : ArgInts .u8 w a n cap xs) (hb : ArgInts .u8 w b n' cap' ys) :
    Calls Tryd.prog 9 #[.agg (ms.map (Value.int .u16)).toArray, .slice a n cap, .slice b n' cap'] w fun e w' => e = .returned (.bool true) ∧ Below w.heap.size w w' := by
  match ms, hl with
  | [x0, x1], _ =>
  have HV := Lib.hid (FVars.mk V)
  obtain rfl := ha.1
  obtain rfl := hb.1
  have HA := Lib.hid ha; have HB := Lib.hid hb
  have NZ := Lib.hid zNd
  have NO := Lib.hid ndT
  have I6 := Lib.hid IN6
  have S1 := Lib.hid sInt
  obtain ⟨u0, u1⟩ := u16_bd (hw x0 (by simp))
  obtain ⟨v0, v1⟩ := u16_bd (hw x1 (by simp))
  clear V ha hb hw
  obtain ⟨N, hN⟩ := named xs.length
  obtain ⟨N', hN'⟩ := named ys.length
  show Calls _ _ #[.agg [Value.int .u16 x0, Value.int .u16 x1].toArray, .slice a xs.length cap, .slice b ys.length cap'] _ _
  rw [← hN.out, ← hN'.out]
  by_cases h1 : (1000 : Int) < N
  · go_enter Tryd.func9, Tryd.ntmps9
    go_wp2_with (first | (refine wpList_box_obj rfl 44 _ rfl [.int .u16 x0, .int .u16 x1] rfl ?_; intro w1 g1 b1; have B1 := Lib.hid b1; clear g1 b1))
    refine (Tre.alive_any w1 (HV.out.go B1.out)).mono ?_; rintro e w2 ⟨rfl, b2⟩
    have B2 := Lib.hid (belT B1.out b2)
    go_wp2
    go_ret
    exact ⟨rfl, B2.out⟩
  by_cases h2 : (1000 : Int) < N'
  · go_enter Tryd.func9, Tryd.ntmps9
    go_wp2_with (first | (refine wpList_box_obj rfl 44 _ rfl [.int .u16 x0, .int .u16 x1] rfl ?_; intro w1 g1 b1; have B1 := Lib.hid b1; clear g1 b1))
    refine (Tre.alive_any w1 (HV.out.go B1.out)).mono ?_; rintro e w2 ⟨rfl, b2⟩
    have B2 := Lib.hid (belT B1.out b2)
    go_wp2
    go_ret
    exact ⟨rfl, B2.out⟩
  have L1 : Hid (xs.length ≤ 1000) := by show _ ≤ _; rw [← hN.out]; omega
  have L2 : Hid (ys.length ≤ 1000) := by show _ ≤ _; rw [← hN'.out]; omega
  obtain ⟨M, hM⟩ : ∃ M, Int.tmod x0 4096 = M := ⟨_, rfl⟩
  obtain ⟨M', hM'⟩ : ∃ M, Int.tmod x1 4096 = M := ⟨_, rfl⟩
  have hM0 : Hid (0 ≤ M ∧ M ≤ 4095) := by show _ ∧ _; rw [← hM, Int.tmod_eq_emod_of_nonneg u0]; omega
  have hM1 : Hid (0 ≤ M' ∧ M' ≤ 4095) := by show _ ∧ _; rw [← hM', Int.tmod_eq_emod_of_nonneg v0]; omega
  have w0 : wrap64 x0 = x0 := by unfold wrap64; omega
  have w1' : wrap64 x1 = x1 := by unfold wrap64; omega
  have CH : Hid (∀ c' : Int, 0 < c' → chk (nds [twoY ⟨#[120]⟩ M xs a cap 1, twoY ⟨#[121]⟩ M' ys b cap' c']) = if (1 : Int) = c' ∧ ¬ (M = M' ∧ xs = ys) then (1, 15) else (2, 0)) := fun c' hc' => by
    obtain ⟨q1, q2, q3, q4⟩ := sx_ok
    exact two_chk (p := ⟨#[120]⟩) (q := ⟨#[121]⟩) q1 q3 (by decide) q2 q4 hM0.out.1 hM0.out.2 hM1.out.1 hM1.out.2 L1.out L2.out (by decide) hc'
  clear u0 u1 v0 v1
  have SA : Hid (∀ q : World, Below w.heap.size w q → (convert 30 9 (.slice a N cap)).run Tryd.prog q = .ok (.string (strOfNums xs)) q) := fun q hq => by
    rw [hN.out]; exact run_str_in Tryd.underlying30 Tryd.underlying5 Tryd.underlying9 (HA.out.bytes.below hq) _ cap rfl
  have SB : Hid (∀ q : World, Below w.heap.size w q → (convert 30 9 (.slice b N' cap')).run Tryd.prog q = .ok (.string (strOfNums ys)) q) := fun q hq => by
    rw [hN'.out]; exact run_str_in Tryd.underlying30 Tryd.underlying5 Tryd.underlying9 (HB.out.bytes.below hq) _ cap' rfl
  have SE : Hid (xs = ys ↔ strOfNums xs = strOfNums ys) := by
    show _ ↔ _
    constructor
    · intro h; rw [h]
    · intro h
      have h1 := numsOf_strOfNums HA.out.bytes.bytes
      rw [h, numsOf_strOfNums HB.out.bytes.bytes] at h1
      exact h1.symm
  obtain ⟨S, hS⟩ := named (strOfNums xs)
  obtain ⟨S', hS'⟩ := named (strOfNums ys)
  rw [← hS.out] at SA
  rw [← hS'.out] at SB
  rw [← hS.out, ← hS'.out] at SE
  have QN := hN; have QN' := hN'
  clear hS hS' hN hN'
  by_cases hm : M = M'
  · have nm : (M == M') = true := by simpa using hm
    by_cases hs : S = S'
    · have ns : (S.toList == S'.toList) = true := by rw [hs]; exact beq_self_eq_true _
      have AG : Hid (M = M' ∧ xs = ys) := ⟨hm, SE.out.mpr hs⟩
      clear hm hs SE
      go_enter Tryd.func9, Tryd.ntmps9
      go_wp2_with (first | (refine wpList_box_obj rfl 44 _ rfl [.int .u16 x0, .int .u16 x1] rfl ?_; intro w1 g1 b1; have G1 := Lib.hid g1; have B1 := Lib.hid b1; have m0 := g1.get 0 rfl; have m1 := g1.get 1 rfl; clear g1 b1) | (have q := G3.out; clear q; refine wpList_alloc_obj rfl 32 rfl (ndL 0 emp 0 emp none 0 0 0) NZ.out ?_; intro w4 g4 b4; have G4 := Lib.hid g4; have K4 := Lib.hid (G3.out.below b4 G3.out.lt); have L4 := Lib.hid G3.out.lt; have B4 := Lib.hid (belT B3.out b4); clear g4 b4 m1) | (refine wpList_alloc_obj rfl 32 rfl (ndL 0 emp 0 emp none 0 0 0) NZ.out ?_; intro w2 g2 b2; have G2 := Lib.hid g2; have K2 := Lib.hid (G1.out.below b2 G1.out.lt); have J2 := Lib.hid G1.out.lt; have B2 := Lib.hid (belT B1.out b2); clear g2 b2 m0 m1) | (have q := G4.out; clear q; refine wpList_store_obj rfl 32 _ _ rfl w3.heap.size rfl (ndL 1 ⟨#[121]⟩ M' emp b N' cap' 1) (ndL 0 emp 0 emp none 0 0 0) rfl 32 G4.out NO.out.2 rfl (nd_one _ _ _ _ _ _ _ _) ?_; intro w5 g5 t5; have G5 := Lib.hid g5; have K5 := Lib.hid (K4.out.turned t5 (Nat.ne_of_lt L4.out)); have B5 := Lib.hid (B4.out.trans (t5.below B3.out.size)); have c0 := K5.out.get 0 rfl; have c1 := K5.out.get 1 rfl; have c2 := K5.out.get 2 rfl; have c3 := K5.out.get 3 rfl; have c4 := K5.out.get 4 rfl; have c5 := K5.out.get 5 rfl; have d0 := g5.get 0 rfl; have d1 := g5.get 1 rfl; have d2 := g5.get 2 rfl; have d3 := g5.get 3 rfl; have d4 := g5.get 4 rfl; have d5 := g5.get 5 rfl; clear g5 t5) | (refine wpList_store_obj rfl 32 _ _ rfl w1.heap.size rfl (ndL 1 ⟨#[120]⟩ M emp a N cap 1) (ndL 0 emp 0 emp none 0 0 0) rfl 32 G2.out NO.out.2 rfl (nd_one _ _ _ _ _ _ _ _) ?_; intro w3 g3 t3; have G3 := Lib.hid g3; have K3 := Lib.hid (K2.out.turned t3 (Nat.ne_of_lt J2.out)); have B3 := Lib.hid (B2.out.trans (t3.below B1.out.size)); have m1 := K3.out.get 1 rfl; clear g3 t3) | (refine wpList_lit_nd2 rfl 22 32 _ _ rfl Tryd.underlying22 _ I6.out (twoY ⟨#[120]⟩ M xs a cap 1) (twoY ⟨#[121]⟩ M' ys b cap' 1) (by show _ = Value.agg (ndL 1 ⟨#[120]⟩ M emp a xs.length cap 1).toArray; rw [← QN.out]; rfl) (by show _ = Value.agg (ndL 1 ⟨#[121]⟩ M' emp b ys.length cap' 1).toArray; rw [← QN'.out]; rfl) ?_; intro w6 g6 b6; have G6 := Lib.hid g6; have X6 := Lib.hid (K5.out.below b6 K5.out.lt); have Y6 := Lib.hid (G5.out.below b6 G5.out.lt); have B6 := Lib.hid (belT B5.out b6); clear g6 b6 c0 c1 c2 c3 c4 c5 d0 d1 d2 d3 d4 d5))
      have A6 := Lib.hid (two_arg hM0.out hM1.out (HA.out.below B6.out) (HB.out.below B6.out) L1.out L2.out (by decide) (by decide) G6.out)
      have C1 := pchk_any _ _ _ _ w6 (HV.out.go B6.out) A6.out
      rw [CH.out 1 (by decide), if_neg (fun h => h.2 AG.out)] at C1
      have CC := Lib.hid C1
      clear C1 A6
      refine CC.out.mono ?_; rintro e w7 ⟨rfl, b7⟩
      have X7 := Lib.hid (X6.out.below b7 X6.out.lt); have Y7 := Lib.hid (Y6.out.below b7 Y6.out.lt); have B7 := Lib.hid (belT B6.out b7)
      clear b7 CC
      have c0 := X7.out.get 0 rfl; have c1 := X7.out.get 1 rfl; have c2 := X7.out.get 2 rfl; have c3 := X7.out.get 3 rfl; have c4 := X7.out.get 4 rfl; have c5 := X7.out.get 5 rfl; have d2 := Y7.out.get 2 rfl
      have s1 := (SA.out w7 B7.out)
      have s2 := (SB.out w7 B7.out)
      go_wp2_with (first | (refine wpList_store_cell rfl 3 _ _ rfl w3.heap.size 5 rfl (.int .i64 2) rfl rfl S1.out 32 _ Y7.out (by simp) ?_; intro w8 g8 t8; have G8 := Lib.hid (show ObjAt w8 w3.heap.size 32 (ndL 1 ⟨#[121]⟩ M' emp b N' cap' 2) from g8); have X8 := Lib.hid (X7.out.turnB t8 (Nat.ne_of_lt L4.out)); have B8 := Lib.hid (B7.out.trans (t8.below B3.out.size)); clear g8 t8 c0 c1 c2 c3 c4 c5 d2 s1 s2; have c0 := X8.out.get 0 rfl; have c1 := X8.out.get 1 rfl; have c2 := X8.out.get 2 rfl; have c3 := X8.out.get 3 rfl; have c4 := X8.out.get 4 rfl; have c5 := X8.out.get 5 rfl; have d0 := G8.out.get 0 rfl; have d1 := G8.out.get 1 rfl; have d2 := G8.out.get 2 rfl; have d3 := G8.out.get 3 rfl; have d4 := G8.out.get 4 rfl; have d5 := G8.out.get 5 rfl) | (refine wpList_lit_nd2 rfl 22 32 _ _ rfl Tryd.underlying22 _ I6.out (twoY ⟨#[120]⟩ M xs a cap 1) (twoY ⟨#[121]⟩ M' ys b cap' 2) (by show _ = Value.agg (ndL 1 ⟨#[120]⟩ M emp a xs.length cap 1).toArray; rw [← QN.out]; rfl) (by show _ = Value.agg (ndL 1 ⟨#[121]⟩ M' emp b ys.length cap' 2).toArray; rw [← QN'.out]; rfl) ?_; intro w9 g9 b9; have G9 := Lib.hid g9; have B9 := Lib.hid (belT B8.out b9); clear g9 b9 c0 c1 c2 c3 c4 c5 d0 d1 d2 d3 d4 d5))
      have A9 := Lib.hid (two_arg hM0.out hM1.out (HA.out.below B9.out) (HB.out.below B9.out) L1.out L2.out (by decide) (by decide) G9.out)
      have C2 := pchk_any _ _ _ _ w9 (HV.out.go B9.out) A9.out
      rw [CH.out 2 (by decide), if_neg (fun h => absurd h.1 (by decide))] at C2
      have CD := Lib.hid C2
      clear C2 A9
      refine CD.out.mono ?_; rintro e w10 ⟨rfl, b10⟩
      have B10 := Lib.hid (belT B9.out b10)
      clear b10 CD
      go_wp2_with fail
      refine (Tre.alive_any w10 (HV.out.go B10.out)).mono ?_; rintro e w11 ⟨rfl, b11⟩
      have B11 := Lib.hid (belT B10.out b11)
      clear b11
      go_wp2_with fail
      go_ret
      exact ⟨rfl, B11.out⟩
    · have ns := bytes_neq hs
      have AG : Hid (¬ (M = M' ∧ xs = ys)) := fun h => hs (SE.out.mp h.2)
      clear hm hs SE
      go_enter Tryd.func9, Tryd.ntmps9
      go_wp2_with (first | (refine wpList_box_obj rfl 44 _ rfl [.int .u16 x0, .int .u16 x1] rfl ?_; intro w1 g1 b1; have G1 := Lib.hid g1; have B1 := Lib.hid b1; have m0 := g1.get 0 rfl; have m1 := g1.get 1 rfl; clear g1 b1) | (have q := G3.out; clear q; refine wpList_alloc_obj rfl 32 rfl (ndL 0 emp 0 emp none 0 0 0) NZ.out ?_; intro w4 g4 b4; have G4 := Lib.hid g4; have K4 := Lib.hid (G3.out.below b4 G3.out.lt); have L4 := Lib.hid G3.out.lt; have B4 := Lib.hid (belT B3.out b4); clear g4 b4 m1) | (refine wpList_alloc_obj rfl 32 rfl (ndL 0 emp 0 emp none 0 0 0) NZ.out ?_; intro w2 g2 b2; have G2 := Lib.hid g2; have K2 := Lib.hid (G1.out.below b2 G1.out.lt); have J2 := Lib.hid G1.out.lt; have B2 := Lib.hid (belT B1.out b2); clear g2 b2 m0 m1) | (have q := G4.out; clear q; refine wpList_store_obj rfl 32 _ _ rfl w3.heap.size rfl (ndL 1 ⟨#[121]⟩ M' emp b N' cap' 1) (ndL 0 emp 0 emp none 0 0 0) rfl 32 G4.out NO.out.2 rfl (nd_one _ _ _ _ _ _ _ _) ?_; intro w5 g5 t5; have G5 := Lib.hid g5; have K5 := Lib.hid (K4.out.turned t5 (Nat.ne_of_lt L4.out)); have B5 := Lib.hid (B4.out.trans (t5.below B3.out.size)); have c0 := K5.out.get 0 rfl; have c1 := K5.out.get 1 rfl; have c2 := K5.out.get 2 rfl; have c3 := K5.out.get 3 rfl; have c4 := K5.out.get 4 rfl; have c5 := K5.out.get 5 rfl; have d0 := g5.get 0 rfl; have d1 := g5.get 1 rfl; have d2 := g5.get 2 rfl; have d3 := g5.get 3 rfl; have d4 := g5.get 4 rfl; have d5 := g5.get 5 rfl; clear g5 t5) | (refine wpList_store_obj rfl 32 _ _ rfl w1.heap.size rfl (ndL 1 ⟨#[120]⟩ M emp a N cap 1) (ndL 0 emp 0 emp none 0 0 0) rfl 32 G2.out NO.out.2 rfl (nd_one _ _ _ _ _ _ _ _) ?_; intro w3 g3 t3; have G3 := Lib.hid g3; have K3 := Lib.hid (K2.out.turned t3 (Nat.ne_of_lt J2.out)); have B3 := Lib.hid (B2.out.trans (t3.below B1.out.size)); have m1 := K3.out.get 1 rfl; clear g3 t3) | (refine wpList_lit_nd2 rfl 22 32 _ _ rfl Tryd.underlying22 _ I6.out (twoY ⟨#[120]⟩ M xs a cap 1) (twoY ⟨#[121]⟩ M' ys b cap' 1) (by show _ = Value.agg (ndL 1 ⟨#[120]⟩ M emp a xs.length cap 1).toArray; rw [← QN.out]; rfl) (by show _ = Value.agg (ndL 1 ⟨#[121]⟩ M' emp b ys.length cap' 1).toArray; rw [← QN'.out]; rfl) ?_; intro w6 g6 b6; have G6 := Lib.hid g6; have X6 := Lib.hid (K5.out.below b6 K5.out.lt); have Y6 := Lib.hid (G5.out.below b6 G5.out.lt); have B6 := Lib.hid (belT B5.out b6); clear g6 b6 c0 c1 c2 c3 c4 c5 d0 d1 d2 d3 d4 d5))
      have A6 := Lib.hid (two_arg hM0.out hM1.out (HA.out.below B6.out) (HB.out.below B6.out) L1.out L2.out (by decide) (by decide) G6.out)
      have C1 := pchk_any _ _ _ _ w6 (HV.out.go B6.out) A6.out
      rw [CH.out 1 (by decide), if_pos ⟨rfl, AG.out⟩] at C1
      have CC := Lib.hid C1
      clear C1 A6
      refine CC.out.mono ?_; rintro e w7 ⟨rfl, b7⟩
      have X7 := Lib.hid (X6.out.below b7 X6.out.lt); have Y7 := Lib.hid (Y6.out.below b7 Y6.out.lt); have B7 := Lib.hid (belT B6.out b7)
      clear b7 CC
      have c0 := X7.out.get 0 rfl; have c1 := X7.out.get 1 rfl; have c2 := X7.out.get 2 rfl; have c3 := X7.out.get 3 rfl; have c4 := X7.out.get 4 rfl; have c5 := X7.out.get 5 rfl; have d2 := Y7.out.get 2 rfl
      have s1 := (SA.out w7 B7.out)
      have s2 := (SB.out w7 B7.out)
      go_wp2_with (first | (refine wpList_store_cell rfl 3 _ _ rfl w3.heap.size 5 rfl (.int .i64 2) rfl rfl S1.out 32 _ Y7.out (by simp) ?_; intro w8 g8 t8; have G8 := Lib.hid (show ObjAt w8 w3.heap.size 32 (ndL 1 ⟨#[121]⟩ M' emp b N' cap' 2) from g8); have X8 := Lib.hid (X7.out.turnB t8 (Nat.ne_of_lt L4.out)); have B8 := Lib.hid (B7.out.trans (t8.below B3.out.size)); clear g8 t8 c0 c1 c2 c3 c4 c5 d2 s1 s2; have c0 := X8.out.get 0 rfl; have c1 := X8.out.get 1 rfl; have c2 := X8.out.get 2 rfl; have c3 := X8.out.get 3 rfl; have c4 := X8.out.get 4 rfl; have c5 := X8.out.get 5 rfl; have d0 := G8.out.get 0 rfl; have d1 := G8.out.get 1 rfl; have d2 := G8.out.get 2 rfl; have d3 := G8.out.get 3 rfl; have d4 := G8.out.get 4 rfl; have d5 := G8.out.get 5 rfl) | (refine wpList_lit_nd2 rfl 22 32 _ _ rfl Tryd.underlying22 _ I6.out (twoY ⟨#[120]⟩ M xs a cap 1) (twoY ⟨#[121]⟩ M' ys b cap' 2) (by show _ = Value.agg (ndL 1 ⟨#[120]⟩ M emp a xs.length cap 1).toArray; rw [← QN.out]; rfl) (by show _ = Value.agg (ndL 1 ⟨#[121]⟩ M' emp b ys.length cap' 2).toArray; rw [← QN'.out]; rfl) ?_; intro w9 g9 b9; have G9 := Lib.hid g9; have B9 := Lib.hid (belT B8.out b9); clear g9 b9 c0 c1 c2 c3 c4 c5 d0 d1 d2 d3 d4 d5))
      have A9 := Lib.hid (two_arg hM0.out hM1.out (HA.out.below B9.out) (HB.out.below B9.out) L1.out L2.out (by decide) (by decide) G9.out)
      have C2 := pchk_any _ _ _ _ w9 (HV.out.go B9.out) A9.out
      rw [CH.out 2 (by decide), if_neg (fun h => absurd h.1 (by decide))] at C2
      have CD := Lib.hid C2
      clear C2 A9
      refine CD.out.mono ?_; rintro e w10 ⟨rfl, b10⟩
      have B10 := Lib.hid (belT B9.out b10)
      clear b10 CD
      go_wp2_with fail
      refine (Tre.alive_any w10 (HV.out.go B10.out)).mono ?_; rintro e w11 ⟨rfl, b11⟩
      have B11 := Lib.hid (belT B10.out b11)
      clear b11
      go_wp2_with fail
      go_ret
      exact ⟨rfl, B11.out⟩
  · have nm : (M == M') = false := by simpa using hm
    have AG : Hid (¬ (M = M' ∧ xs = ys)) := fun h => hm h.1
    clear hm SE
    go_enter Tryd.func9, Tryd.ntmps9
    go_wp2_with (first | (refine wpList_box_obj rfl 44 _ rfl [.int .u16 x0, .int .u16 x1] rfl ?_; intro w1 g1 b1; have G1 := Lib.hid g1; have B1 := Lib.hid b1; have m0 := g1.get 0 rfl; have m1 := g1.get 1 rfl; clear g1 b1) | (have q := G3.out; clear q; refine wpList_alloc_obj rfl 32 rfl (ndL 0 emp 0 emp none 0 0 0) NZ.out ?_; intro w4 g4 b4; have G4 := Lib.hid g4; have K4 := Lib.hid (G3.out.below b4 G3.out.lt); have L4 := Lib.hid G3.out.lt; have B4 := Lib.hid (belT B3.out b4); clear g4 b4 m1) | (refine wpList_alloc_obj rfl 32 rfl (ndL 0 emp 0 emp none 0 0 0) NZ.out ?_; intro w2 g2 b2; have G2 := Lib.hid g2; have K2 := Lib.hid (G1.out.below b2 G1.out.lt); have J2 := Lib.hid G1.out.lt; have B2 := Lib.hid (belT B1.out b2); clear g2 b2 m0 m1) | (have q := G4.out; clear q; refine wpList_store_obj rfl 32 _ _ rfl w3.heap.size rfl (ndL 1 ⟨#[121]⟩ M' emp b N' cap' 1) (ndL 0 emp 0 emp none 0 0 0) rfl 32 G4.out NO.out.2 rfl (nd_one _ _ _ _ _ _ _ _) ?_; intro w5 g5 t5; have G5 := Lib.hid g5; have K5 := Lib.hid (K4.out.turned t5 (Nat.ne_of_lt L4.out)); have B5 := Lib.hid (B4.out.trans (t5.below B3.out.size)); have c0 := K5.out.get 0 rfl; have c1 := K5.out.get 1 rfl; have c2 := K5.out.get 2 rfl; have c3 := K5.out.get 3 rfl; have c4 := K5.out.get 4 rfl; have c5 := K5.out.get 5 rfl; have d0 := g5.get 0 rfl; have d1 := g5.get 1 rfl; have d2 := g5.get 2 rfl; have d3 := g5.get 3 rfl; have d4 := g5.get 4 rfl; have d5 := g5.get 5 rfl; clear g5 t5) | (refine wpList_store_obj rfl 32 _ _ rfl w1.heap.size rfl (ndL 1 ⟨#[120]⟩ M emp a N cap 1) (ndL 0 emp 0 emp none 0 0 0) rfl 32 G2.out NO.out.2 rfl (nd_one _ _ _ _ _ _ _ _) ?_; intro w3 g3 t3; have G3 := Lib.hid g3; have K3 := Lib.hid (K2.out.turned t3 (Nat.ne_of_lt J2.out)); have B3 := Lib.hid (B2.out.trans (t3.below B1.out.size)); have m1 := K3.out.get 1 rfl; clear g3 t3) | (refine wpList_lit_nd2 rfl 22 32 _ _ rfl Tryd.underlying22 _ I6.out (twoY ⟨#[120]⟩ M xs a cap 1) (twoY ⟨#[121]⟩ M' ys b cap' 1) (by show _ = Value.agg (ndL 1 ⟨#[120]⟩ M emp a xs.length cap 1).toArray; rw [← QN.out]; rfl) (by show _ = Value.agg (ndL 1 ⟨#[121]⟩ M' emp b ys.length cap' 1).toArray; rw [← QN'.out]; rfl) ?_; intro w6 g6 b6; have G6 := Lib.hid g6; have X6 := Lib.hid (K5.out.below b6 K5.out.lt); have Y6 := Lib.hid (G5.out.below b6 G5.out.lt); have B6 := Lib.hid (belT B5.out b6); clear g6 b6 c0 c1 c2 c3 c4 c5 d0 d1 d2 d3 d4 d5))
    have A6 := Lib.hid (two_arg hM0.out hM1.out (HA.out.below B6.out) (HB.out.below B6.out) L1.out L2.out (by decide) (by decide) G6.out)
    have C1 := pchk_any _ _ _ _ w6 (HV.out.go B6.out) A6.out
    rw [CH.out 1 (by decide), if_pos ⟨rfl, AG.out⟩] at C1
    have CC := Lib.hid C1
    clear C1 A6
    refine CC.out.mono ?_; rintro e w7 ⟨rfl, b7⟩
    have X7 := Lib.hid (X6.out.below b7 X6.out.lt); have Y7 := Lib.hid (Y6.out.below b7 Y6.out.lt); have B7 := Lib.hid (belT B6.out b7)
    clear b7 CC
    have c0 := X7.out.get 0 rfl; have c1 := X7.out.get 1 rfl; have c2 := X7.out.get 2 rfl; have c3 := X7.out.get 3 rfl; have c4 := X7.out.get 4 rfl; have c5 := X7.out.get 5 rfl; have d2 := Y7.out.get 2 rfl
    have s1 := (SA.out w7 B7.out)
    have s2 := (SB.out w7 B7.out)
    go_wp2_with (first | (refine wpList_store_cell rfl 3 _ _ rfl w3.heap.size 5 rfl (.int .i64 2) rfl rfl S1.out 32 _ Y7.out (by simp) ?_; intro w8 g8 t8; have G8 := Lib.hid (show ObjAt w8 w3.heap.size 32 (ndL 1 ⟨#[121]⟩ M' emp b N' cap' 2) from g8); have X8 := Lib.hid (X7.out.turnB t8 (Nat.ne_of_lt L4.out)); have B8 := Lib.hid (B7.out.trans (t8.below B3.out.size)); clear g8 t8 c0 c1 c2 c3 c4 c5 d2 s1 s2; have c0 := X8.out.get 0 rfl; have c1 := X8.out.get 1 rfl; have c2 := X8.out.get 2 rfl; have c3 := X8.out.get 3 rfl; have c4 := X8.out.get 4 rfl; have c5 := X8.out.get 5 rfl; have d0 := G8.out.get 0 rfl; have d1 := G8.out.get 1 rfl; have d2 := G8.out.get 2 rfl; have d3 := G8.out.get 3 rfl; have d4 := G8.out.get 4 rfl; have d5 := G8.out.get 5 rfl) | (refine wpList_lit_nd2 rfl 22 32 _ _ rfl Tryd.underlying22 _ I6.out (twoY ⟨#[120]⟩ M xs a cap 1) (twoY ⟨#[121]⟩ M' ys b cap' 2) (by show _ = Value.agg (ndL 1 ⟨#[120]⟩ M emp a xs.length cap 1).toArray; rw [← QN.out]; rfl) (by show _ = Value.agg (ndL 1 ⟨#[121]⟩ M' emp b ys.length cap' 2).toArray; rw [← QN'.out]; rfl) ?_; intro w9 g9 b9; have G9 := Lib.hid g9; have B9 := Lib.hid (belT B8.out b9); clear g9 b9 c0 c1 c2 c3 c4 c5 d0 d1 d2 d3 d4 d5))
    have A9 := Lib.hid (two_arg hM0.out hM1.out (HA.out.below B9.out) (HB.out.below B9.out) L1.out L2.out (by decide) (by decide) G9.out)
    have C2 := pchk_any _ _ _ _ w9 (HV.out.go B9.out) A9.out
    rw [CH.out 2 (by decide), if_neg (fun h => absurd h.1 (by decide))] at C2
    have CD := Lib.hid C2
    clear C2 A9
    refine CD.out.mono ?_; rintro e w10 ⟨rfl, b10⟩
    have B10 := Lib.hid (belT B9.out b10)
    clear b10 CD
    go_wp2_with fail
    refine (Tre.alive_any w10 (HV.out.go B10.out)).mono ?_; rintro e w11 ⟨rfl, b11⟩
    have B11 := Lib.hid (belT B10.out b11)
    clear b11
    go_wp2_with fail
    go_ret
    exact ⟨rfl, B11.out⟩
end Go.Proofs.YtaobokboakkjjaaDoor
