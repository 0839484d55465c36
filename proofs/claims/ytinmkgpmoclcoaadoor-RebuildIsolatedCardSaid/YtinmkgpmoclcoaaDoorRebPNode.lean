/-
  Layer 15: the program's node of a member. (gen_RebPNode.py writes it.)
-/
import Derived.Test.YtinmkgpmoclcoaaDoorRebBd
import Derived.Test.YtinmkgpmoclcoaaDoorPz15
import Derived.Test.YtinmkgpmoclcoaaDoorPz05
import Derived.Test.YtinmkgpmoclcoaaDoorPz13
namespace Go.Proofs.YtinmkgpmoclcoaaDoor.Reb
open Go.RowKit Go.MapKept Go.Proofs.YtinmkgpmoclcoaaDoor.Fit Pnm Tre Flt

/-- the node of a new member -/
structure Nw (S : Nat → Prop) (w w' : World) (A : List Mb) (y : Mb) (u : NdS) : Prop where
  n : u.n = ndOf (A ++ [y]) A.length
  s : NdSt u
  f : Frs 0 w' u
  i : ∀ x, u.a = some x → S x.block ∨ (w.heap.size ≤ x.block ∧ x.block < w'.heap.size)
theorem clone_nw {A : List Mb} {y : MbS} {w : World} (hy : MbF w y) (hn : A.length ≤ 1000) (h3 : ¬ y.n.e.k = 3) {x : Option Addr} {c : Nat} :
    NdSt ⟨ndOf (A ++ [y.n]) A.length, x, c⟩ := by
  have e := ndOf_new (A := A) (x := y.n)
  rw [if_neg h3] at e
  rw [e]
  refine ⟨hy.k, hy.p, hy.m, hy.t, hy.d.2.2.2.1, hy.l, ?_⟩
  show (Lit.int .i64 (if y.n.e.k = 1 then (A.length : Int) + 1 else 0)).wf = true
  by_cases h : y.n.e.k = 1
  · rw [if_pos h]
    have e1 : IntKind.i64.min = -9223372036854775808 := by decide
    have e2 : IntKind.i64.max = 9223372036854775807 := by decide
    simp [Lit.wf]; omega
  · rw [if_neg h]; decide


section
variable {w : World} {g cap gd gf Nd Nf : Nat} {a : Option Addr} {Fd Ff : Value → Option Value} {us : List NdS} {A : List Mb} {S : Nat → Prop}

set_option maxRecDepth 100000 in
set_option maxHeartbeats 8000000 in
theorem node_lnk (hb : PB w g a cap gd gf Nd Nf Fd Ff us A) (hi : Inn S g a gd gf us) (y : MbS) (hy : MbF w y) (hA : A.length ≤ 1000) (hc : chR A y.n.e = 0) (h3 : y.n.e.k = 3) :
    Calls Tryd.prog 25 #[.pointer (some ⟨g, 0, none⟩), .agg (mbV y).toArray] w fun e w' => ∃ u, e = .returned (.agg (ndV u).toArray) ∧ Nw S w w' A y.n u ∧ Below w.heap.size w w' := by
  obtain ⟨⟨⟨k, p, m, t, s⟩, d⟩, x, xc⟩ := y
  obtain ⟨L, hL⟩ := named d.length
  have HL : Hid (d.length = L) := hL.out.symm
  obtain ⟨n, hn⟩ := named A.length
  have HB := Lib.hid hb
  have HI := Lib.hid hi
  have HY := Lib.hid hy
  have HN : Hid (A.length = n) := hn.out.symm
  have N40 : Hid (n ≤ 1000) := by show _ ≤ _; rw [hn.out]; exact hA
  have EO := Lib.hid enT
  have EZ := Lib.hid zEn
  have NZ := Lib.hid zNd
  have NO := Lib.hid ndT
  have S1 : Hid ((Tryd.prog.info? 3).map (·.size) = some 1) := by show _ = _; kernel_rfl
  have SS : Hid ((Tryd.prog.info? 9).map (·.size) = some 1) := by show _ = _; kernel_rfl
  have nc : (n : Int) ≤ cap := by have := hb.arg.c; rw [← hn.out] at this; omega
  show Calls _ _ #[_, .agg (mbC k p m t s x d.length xc).toArray] _ _
  rw [HL.out]
  obtain rfl : k = 3 := h3
  obtain ⟨r, hr, hrm⟩ : ∃ r, fnd A 1 t = some r ∧ (ma A r).e.m = m := by
    have h := (chR_zero.mp hc).2.2.2
    refine Classical.byContradiction fun hn => h ⟨rfl, fun r h1 h2 => hn ⟨r, h1, h2⟩⟩
  have HR := Lib.hid hr
  obtain ⟨r0, r1, _, _⟩ := fnd_some.mp hr
  obtain ⟨b, v, rfl, hbl, hv, hvn, hvs, hvf, hat⟩ := hb.at_ r0
  obtain ⟨⟨k', q1, m', t', d', c'⟩, xr, xrc⟩ := v
  have hk : (⟨k', q1, m', t', d', c'⟩ : Tre.Nd) = ⟨1, q1, m, emp, (ma A r).d, (r : Int) + 1⟩ := by
    have h1 : (⟨k', q1, m', t', d', c'⟩ : Tre.Nd) = ndOf A r := hvn
    rcases hb.good.kinds r0 with ⟨r', _, _, _, e, e3, _⟩ | ⟨hk, _⟩
    · obtain rfl := e3 r1
      rw [e] at h1
      injection h1 with a1 a2 a3 a4 a5 a6
      rw [a1, a3, a4, a5, a6, hrm]
    · omega
  injection hk with a1 _ a3 a4 a5 a6
  obtain rfl : m = m' := a3.symm
  subst a1; subst a4; subst a6
  obtain ⟨Lr, hLr⟩ := named d'.length
  have HLR : Hid (d'.length = Lr) := hLr.out.symm
  have ED : Hid (d' = (ma A r).d) := a5
  have VS := Lib.hid hvs; have VF := Lib.hid hvf; have HAT := Lib.hid hat; have HBL := Lib.hid hbl; have HV := Lib.hid hv
  have MEM : Hid (∀ x, xr = some x → S x.block) := fun x hx => hi.u _ (List.mem_of_getElem? hv) x hx
  have LK : Hid (∀ w', Below w.heap.size w w' → (Instr.lookup 58 (.map (some gf)) (.string t) false).run Tryd.prog w' = .ok (.int .i64 r) w') := fun w' h => by
    have lk := (run_lookF (P := Tryd.prog) (w := w') 58 9 3 Tryd.underlying58 .string Tryd.underlying9 (.int .i64 0) (by kernel_rfl) gf Nf (.string t) (show IsKey .string (.string t) from trivial) Ff (hb.below h).mf).2
    rw [hb.ff t, hr] at lk
    exact lk
  have i1 : (r : Int) < n := by rw [hn.out]; omega
  have i2 : (r : Int) < cap := by omega
  have i3 : (0 : Int) ≤ r := by omega
  clear hr r0 r1 hbl hv hvn hvs hvf hat a5 hLr hc hrm
  clear hb hi hy hn hL hA
  go_enter Tryd.func25, Tryd.ntmps25
  go_wp2_with (first | (refine wpList_box_obj rfl 30 _ rfl (mbC 3 p m t s x L xc) rfl ?_; intro w1 g1 b1; have G1 := Lib.hid g1; have B1 := Lib.hid b1; clear g1 b1) | (refine wpList_alloc_obj rfl 55 rfl (ndL 0 emp 0 emp none 0 0 0) NZ.out ?_; intro w2 g2 b2; have N2 := Lib.hid g2; have G2 := Lib.hid (G1.out.below b2 G1.out.lt); have L1 := Lib.hid (show w.heap.size < w1.heap.size from G1.out.lt); have B2 := Lib.hid (belT B1.out b2); clear g2 b2) | (refine wpList_load_part rfl 27 5 EO.out _ rfl w.heap.size 0 rfl (enV 3 p m t s) rfl (fun j u hj => by rw [Nat.zero_add, G2.out.cell]; match j, hj with | 0, hj => exact hj | 1, hj => exact hj | 2, hj => exact hj | 3, hj => exact hj | 4, hj => exact hj) ?_) | (refine wpList_alloc_obj rfl 27 rfl (enV 0 emp 0 emp 0) EZ.out ?_; intro w3 g3 b3; have E3 := Lib.hid g3; have N3 := Lib.hid (N2.out.below b3 N2.out.lt); have G3 := Lib.hid (G2.out.below b3 G2.out.lt); have L2 := Lib.hid (show w1.heap.size < w2.heap.size from N2.out.lt); have B3 := Lib.hid (belT B2.out b3); clear g3 b3) | (refine wpList_store_obj rfl 27 _ _ rfl w2.heap.size rfl (enV 3 p m t s) (enV 0 emp 0 emp 0) rfl 27 E3.out EO.out.2 rfl (en_one _ _ _ _ _) ?_; intro wz g4 t4; have EB := Lib.hid g4; have NB := Lib.hid (N3.out.turned t4 (Nat.ne_of_lt L2.out)); have MB := Lib.hid (G3.out.turned t4 (Nat.ne_of_lt (Nat.lt_trans L1.out L2.out))); have BZ := Lib.hid (B3.out.trans (t4.below B2.out.size)); have ZL := Lib.hid (show w2.heap.size < wz.heap.size from g4.lt); have e0 := g4.get 0 rfl; clear g4 t4))
  clear G1 G2 G3 N2 N3 E3 B1 B2 B3
  have D0 : Hid (Below wz.heap.size wz wz.drew) := (Below.refl _ _).drew
  clear e0
  have KS : Hid (∀ w', Below wz.heap.size wz w' → (fun w' : World => w'.cell? ⟨g, 0, none⟩ = some (.slice (some ⟨b, 0, none⟩) n cap) ∧ w'.cell? ⟨g, 2, none⟩ = some (.map (some gf)) ∧ (Instr.lookup 58 (.map (some gf)) (.string t) false).run Tryd.prog w' = .ok (.int .i64 r) w' ∧ w'.cell? ⟨w2.heap.size, 3, none⟩ = some (.string t) ∧ w'.cell? ⟨b, r * 6, none⟩ = some (.int .i64 1) ∧ w'.cell? ⟨b, r * 6 + 1, none⟩ = some (.string q1) ∧ w'.cell? ⟨b, r * 6 + 2, none⟩ = some (.int .i64 m) ∧ w'.cell? ⟨b, r * 6 + 3, none⟩ = some (.string emp) ∧ w'.cell? ⟨b, r * 6 + 4, none⟩ = some (.slice xr Lr xrc) ∧ w'.cell? ⟨b, r * 6 + 5, none⟩ = some (.int .i64 ((r : Int) + 1))) w') := fun w' h => by
    have hw := belT BZ.out h
    obtain ⟨c0, c1, c2, c3, c4, c5⟩ := (HAT.out.below hw HBL.out).c HV.out
    simp only [Nat.zero_add] at c0 c1 c2 c3 c4 c5
    refine ⟨?_, (HB.out.below hw).o.get 2 rfl, LK.out _ hw, (EB.out.below h EB.out.lt).get 3 rfl, c0, c1, c2, c3, ?_, c5⟩
    · rw [← HN.out]; exact (HB.out.below hw).o.get 0 rfl
    · rw [← HLR.out]; exact c4
  refine wp_region_held_drew (S := (fun w' : World => w'.cell? ⟨g, 0, none⟩ = some (.slice (some ⟨b, 0, none⟩) n cap) ∧ w'.cell? ⟨g, 2, none⟩ = some (.map (some gf)) ∧ (Instr.lookup 58 (.map (some gf)) (.string t) false).run Tryd.prog w' = .ok (.int .i64 r) w' ∧ w'.cell? ⟨w2.heap.size, 3, none⟩ = some (.string t) ∧ w'.cell? ⟨b, r * 6, none⟩ = some (.int .i64 1) ∧ w'.cell? ⟨b, r * 6 + 1, none⟩ = some (.string q1) ∧ w'.cell? ⟨b, r * 6 + 2, none⟩ = some (.int .i64 m) ∧ w'.cell? ⟨b, r * 6 + 3, none⟩ = some (.string emp) ∧ w'.cell? ⟨b, r * 6 + 4, none⟩ = some (.slice xr Lr xrc) ∧ w'.cell? ⟨b, r * 6 + 5, none⟩ = some (.int .i64 ((r : Int) + 1)))) (by kernel_rfl) (KS.out _ D0.out) (fun hHeld => ?_)
  refine wpAnyH_take (i := 0) (oi := { dst := some 13, op := Go.Op.move (Go.Operand.tmp 0), type := 23, pos := "rebuild.go:91", after := #[], guard := none }) (v := ?_) rfl (by kernel_rfl) (by kernel_rfl) (by kernel_rfl) (fun _ _ _ h => h) (Or.inl ⟨by rfl, ?_⟩) (by assumption) ?_
  rotate_left 1
  focus ((intro wS hSw; (try dsimp only at hSw); go_simp) <;> (try with_reducible rfl))
  simp only [Act.put, List.setIfInBounds_toArray, List.set_cons_zero, List.set_cons_succ]
  refine wpAnyH_take (i := 1) (oi := { dst := some 14, op := Go.Op.nilCheck (Go.Operand.tmp 13), type := 0, pos := "rebuild.go:91", after := #[{ on := 0, ground := Go.Ground.data }], guard := none }) (v := ?_) rfl (by kernel_rfl) (by kernel_rfl) (by kernel_rfl) (fun _ _ _ h => h) (Or.inl ⟨by rfl, ?_⟩) (by assumption) ?_
  rotate_left 1
  focus ((intro wS hSw; (try dsimp only at hSw); go_simp) <;> (try with_reducible rfl))
  simp only [Act.put, List.setIfInBounds_toArray, List.set_cons_zero, List.set_cons_succ]
  refine wpAnyH_take (i := 2) (oi := { dst := some 15, op := Go.Op.fieldAddr 60 (Go.Operand.tmp 14) 0, type := 0, pos := "rebuild.go:91", after := #[{ on := 1, ground := Go.Ground.data }], guard := none }) (v := ?_) rfl (by kernel_rfl) (by kernel_rfl) (by kernel_rfl) (fun _ _ _ h => h) (Or.inl ⟨by rfl, ?_⟩) (by assumption) ?_
  rotate_left 1
  focus ((intro wS hSw; (try dsimp only at hSw); go_simp) <;> (try with_reducible rfl))
  simp only [Act.put, List.setIfInBounds_toArray, List.set_cons_zero, List.set_cons_succ]
  refine wpAnyH_take (i := 3) (oi := { dst := some 16, op := Go.Op.load 32 (Go.Operand.tmp 15), type := 32, pos := "rebuild.go:91", after := #[{ on := 2, ground := Go.Ground.data }], guard := none }) (v := ?_) rfl (by kernel_rfl) (by kernel_rfl) (by kernel_rfl) (fun _ _ _ h => h) (Or.inl ⟨by rfl, ?_⟩) (by assumption) ?_
  rotate_left 1
  focus ((intro wS hSw; (try dsimp only at hSw); go_simp) <;> (try with_reducible rfl))
  simp only [Act.put, List.setIfInBounds_toArray, List.set_cons_zero, List.set_cons_succ]
  refine wpAnyH_take (i := 4) (oi := { dst := some 17, op := Go.Op.move (Go.Operand.tmp 0), type := 23, pos := "rebuild.go:91", after := #[], guard := none }) (v := ?_) rfl (by kernel_rfl) (by kernel_rfl) (by kernel_rfl) (fun _ _ _ h => h) (Or.inl ⟨by rfl, ?_⟩) (by assumption) ?_
  rotate_left 1
  focus ((intro wS hSw; (try dsimp only at hSw); go_simp) <;> (try with_reducible rfl))
  simp only [Act.put, List.setIfInBounds_toArray, List.set_cons_zero, List.set_cons_succ]
  refine wpAnyH_take (i := 5) (oi := { dst := some 18, op := Go.Op.nilCheck (Go.Operand.tmp 17), type := 0, pos := "rebuild.go:91", after := #[{ on := 4, ground := Go.Ground.data }], guard := none }) (v := ?_) rfl (by kernel_rfl) (by kernel_rfl) (by kernel_rfl) (fun _ _ _ h => h) (Or.inl ⟨by rfl, ?_⟩) (by assumption) ?_
  rotate_left 1
  focus ((intro wS hSw; (try dsimp only at hSw); go_simp) <;> (try with_reducible rfl))
  simp only [Act.put, List.setIfInBounds_toArray, List.set_cons_zero, List.set_cons_succ]
  refine wpAnyH_take (i := 6) (oi := { dst := some 19, op := Go.Op.fieldAddr 60 (Go.Operand.tmp 18) 2, type := 0, pos := "rebuild.go:91", after := #[{ on := 5, ground := Go.Ground.data }], guard := none }) (v := ?_) rfl (by kernel_rfl) (by kernel_rfl) (by kernel_rfl) (fun _ _ _ h => h) (Or.inl ⟨by rfl, ?_⟩) (by assumption) ?_
  rotate_left 1
  focus ((intro wS hSw; (try dsimp only at hSw); go_simp) <;> (try with_reducible rfl))
  simp only [Act.put, List.setIfInBounds_toArray, List.set_cons_zero, List.set_cons_succ]
  refine wpAnyH_take (i := 7) (oi := { dst := some 20, op := Go.Op.load 58 (Go.Operand.tmp 19), type := 58, pos := "rebuild.go:91", after := #[{ on := 6, ground := Go.Ground.data }], guard := none }) (v := ?_) rfl (by kernel_rfl) (by kernel_rfl) (by kernel_rfl) (fun _ _ _ h => h) (Or.inl ⟨by rfl, ?_⟩) (by assumption) ?_
  rotate_left 1
  focus ((intro wS hSw; (try dsimp only at hSw); go_simp) <;> (try with_reducible rfl))
  simp only [Act.put, List.setIfInBounds_toArray, List.set_cons_zero, List.set_cons_succ]
  refine wpAnyH_take (i := 8) (oi := { dst := some 21, op := Go.Op.fieldAddr 27 (Go.Operand.tmp 5) 3, type := 0, pos := "rebuild.go:91", after := #[], guard := none }) (v := ?_) rfl (by kernel_rfl) (by kernel_rfl) (by kernel_rfl) (fun _ _ _ h => h) (Or.inl ⟨by rfl, ?_⟩) (by assumption) ?_
  rotate_left 1
  focus ((intro wS hSw; (try dsimp only at hSw); go_simp) <;> (try with_reducible rfl))
  simp only [Act.put, List.setIfInBounds_toArray, List.set_cons_zero, List.set_cons_succ]
  refine wpAnyH_take (i := 9) (oi := { dst := some 22, op := Go.Op.load 9 (Go.Operand.tmp 21), type := 9, pos := "rebuild.go:91", after := #[{ on := 8, ground := Go.Ground.data }], guard := none }) (v := ?_) rfl (by kernel_rfl) (by kernel_rfl) (by kernel_rfl) (fun _ _ _ h => h) (Or.inl ⟨by rfl, ?_⟩) (by assumption) ?_
  rotate_left 1
  focus ((intro wS hSw; (try dsimp only at hSw); go_simp) <;> (try with_reducible rfl))
  simp only [Act.put, List.setIfInBounds_toArray, List.set_cons_zero, List.set_cons_succ]
  refine wpAnyH_take (i := 10) (oi := { dst := some 23, op := Go.Op.lookup 58 (Go.Operand.tmp 20) (Go.Operand.tmp 22) false, type := 3, pos := "rebuild.go:91", after := #[{ on := 7, ground := Go.Ground.data }, { on := 9, ground := Go.Ground.data }], guard := none }) (v := ?_) rfl (by kernel_rfl) (by kernel_rfl) (by kernel_rfl) (fun _ _ _ h => h) (Or.inl ⟨by rfl, ?_⟩) (by assumption) ?_
  rotate_left 1
  focus ((intro wS hSw; (try dsimp only at hSw); go_simp) <;> (try with_reducible rfl))
  simp only [Act.put, List.setIfInBounds_toArray, List.set_cons_zero, List.set_cons_succ]
  refine wpAnyH_take (i := 11) (oi := { dst := some 24, op := Go.Op.indexAddr 32 (Go.Operand.tmp 16) (Go.Operand.tmp 23), type := 0, pos := "rebuild.go:91", after := #[{ on := 3, ground := Go.Ground.data }, { on := 10, ground := Go.Ground.data }], guard := none }) (v := ?_) rfl (by kernel_rfl) (by kernel_rfl) (by kernel_rfl) (fun _ _ _ h => h) (Or.inl ⟨by rfl, ?_⟩) (by assumption) ?_
  rotate_left 1
  focus ((intro wS hSw; (try dsimp only at hSw); go_simp) <;> (try with_reducible rfl))
  simp only [Act.put, List.setIfInBounds_toArray, List.set_cons_zero, List.set_cons_succ]
  refine wpAnyH_take (i := 12) (oi := { dst := some 25, op := Go.Op.load 55 (Go.Operand.tmp 24), type := 55, pos := "rebuild.go:91", after := #[{ on := 11, ground := Go.Ground.data }], guard := none }) (v := ?_) rfl (by kernel_rfl) (by kernel_rfl) (by kernel_rfl) (fun _ _ _ h => h) (Or.inl ⟨by rfl, ?_⟩) (by assumption) ?_
  rotate_left 1
  focus ((intro wS hSw; (try dsimp only at hSw); go_simp) <;> (try with_reducible rfl))
  simp only [Act.put, List.setIfInBounds_toArray, List.set_cons_zero, List.set_cons_succ]
  refine wpAnyH_ready (rs := [13]) (by kernel_rfl) (by simp) ?_
  refine AllReadyH.cons (o := { dst := some 6, op := Go.Op.alloc 55, type := 0, pos := "rebuild.go:91", after := #[], guard := none }) rfl (fun K hK => ?_) AllReadyH.nil
  refine step_alloc_obj rfl 55 rfl (ndL 0 emp 0 emp none 0 0 0) NZ.out ?_
  intro z1 g1 b1
  have N1 : Hid (ObjAt z1 wz.heap.size 55 (ndL 0 emp 0 emp none 0 0 0)) := g1
  have D1 : Hid (Below wz.heap.size wz z1) := D0.out.trans (b1.mono (Nat.le_refl _))
  clear g1 b1
  refine hK.out _ _ (KS.out _ D1.out) (fun hHeld => ?_)
  clear hK K
  (try simp only [Act.put, List.setIfInBounds_toArray, List.set_cons_zero, List.set_cons_succ])
  refine wpAnyH_ready (rs := [14]) (by kernel_rfl) (by simp) ?_
  refine AllReadyH.cons (o := { dst := none, op := Go.Op.store 55 (Go.Operand.tmp 6) (Go.Operand.tmp 25), type := 0, pos := "rebuild.go:91", after := #[{ on := 13, ground := Go.Ground.data }, { on := 12, ground := Go.Ground.data }, { on := 0, ground := Go.Ground.phase }, { on := 1, ground := Go.Ground.phase }, { on := 2, ground := Go.Ground.phase }, { on := 3, ground := Go.Ground.phase }, { on := 4, ground := Go.Ground.phase }, { on := 5, ground := Go.Ground.phase }, { on := 6, ground := Go.Ground.phase }, { on := 7, ground := Go.Ground.phase }, { on := 8, ground := Go.Ground.phase }, { on := 9, ground := Go.Ground.phase }, { on := 10, ground := Go.Ground.phase }, { on := 11, ground := Go.Ground.phase }, { on := 12, ground := Go.Ground.phase }, { on := 13, ground := Go.Ground.phase }], guard := none }) rfl (fun K hK => ?_) AllReadyH.nil
  refine step_store_obj rfl 55 (.tmp 6) (.tmp 25) rfl wz.heap.size rfl (ndL 1 q1 m emp xr Lr xrc ((r : Int) + 1)) (ndL 0 emp 0 emp none 0 0 0) rfl 55 N1.out NO.out.2 rfl (nd_one _ _ _ _ _ _ _ _) ?_
  intro z2 g2 t2
  have N2 : Hid (ObjAt z2 wz.heap.size 55 (ndL 1 q1 m emp xr Lr xrc ((r : Int) + 1))) := g2
  have D2 : Hid (Below wz.heap.size wz z2) := D1.out.trans (t2.below (Nat.le_refl _))
  clear g2 t2
  refine hK.out _ _ (KS.out _ D2.out) (fun hHeld => ?_)
  clear hK K
  (try simp only [Act.put])
  refine wpAnyH_done (by kernel_rfl) ?_ _
  have NB2 := Lib.hid (NB.out.below D2.out NB.out.lt)
  have EB2 := Lib.hid (EB.out.below D2.out EB.out.lt)
  have e1 := EB2.out.get 1 rfl
  have B2 := Lib.hid (belT BZ.out D2.out)
  have RZ : Hid (w1.heap.size < wz.heap.size) := NB.out.lt
  have WZ : Hid (w.heap.size ≤ w1.heap.size) := Nat.le_of_lt L1.out
  clear KS hHeld N1 D1
  go_wp2_with (first | (refine wpList_store_cell rfl 9 _ _ rfl wz.heap.size 1 rfl (.string p) rfl rfl SS.out 55 _ N2.out (by show 1 < 6; decide) ?_; intro z3 g3 t3; have N4 : Hid (ObjAt z3 wz.heap.size 55 (ndL 1 p m emp xr Lr xrc ((r : Int) + 1))) := g3; have B4 := Lib.hid (B2.out.trans (t3.below BZ.out.size)); have NB4 := Lib.hid (NB2.out.turnB t3 (Nat.ne_of_lt RZ.out)); clear g3 t3) | (refine wpList_load_obj rfl 55 6 NO.out _ rfl wz.heap.size rfl 55 (ndL 1 p m emp xr Lr xrc ((r : Int) + 1)) N4.out rfl ?_) | (refine wpList_store_obj rfl 55 _ _ rfl w1.heap.size rfl (ndL 1 p m emp xr Lr xrc ((r : Int) + 1)) (ndL 0 emp 0 emp none 0 0 0) rfl 55 NB4.out NO.out.2 rfl (nd_one _ _ _ _ _ _ _ _) ?_; intro z5 g5 t5; have N5 := Lib.hid g5; have B5 := Lib.hid (B4.out.trans (t5.below WZ.out)); clear g5 t5))
  have FR : Hid (Frs 0 z5 ⟨⟨1, p, m, emp, d', (r : Int) + 1⟩, xr, xrc⟩) := own_stay' VF.out B5.out (Nat.le_refl _)
  have ST : Hid (NdSt ⟨⟨1, p, m, emp, d', (r : Int) + 1⟩, xr, xrc⟩) := ⟨VS.out.k, HY.out.p, VS.out.m, VS.out.t, VS.out.z, VS.out.l, VS.out.c⟩
  have EN : Hid ((⟨1, p, m, emp, d', (r : Int) + 1⟩ : Tre.Nd) = ndOf (A ++ [⟨⟨3, p, m, t, s⟩, d⟩]) A.length) := by
    show _ = _
    rw [ndOf_new, if_pos (show (3 : Int) = 3 from rfl), HR.out, ED.out]
  exact bodyPost_ret (results_obj Tryd.results25 NO.out _ w1.heap.size rfl _ _ N5.out rfl) rfl ⟨⟨⟨1, p, m, emp, d', (r : Int) + 1⟩, xr, xrc⟩, by rw [← HLR.out], ⟨EN.out, ST.out, FR.out, fun x hx => .inl (MEM.out x hx)⟩, B5.out⟩

theorem own_other2 {w w' : World} {base n size gn : Nat} {e T : TypeId} {v : Value} {xs vs : List Value} (h : w.ownsRow base e size v n xs) (ho : ObjAt w gn T vs) (t : Turned w w' gn) (hne : T ≠ e) : w'.ownsRow base e size v n xs := by
  obtain ⟨h1, h2⟩ := h
  refine ⟨h1, h2.imp id ?_⟩
  rintro ⟨b, cap, cur, hv, hb, hh, r⟩
  refine ⟨b, cap, cur, hv, hb, (t.other ?_).trans hh, r⟩
  rintro rfl
  have := ho
  unfold ObjAt at this
  rw [hh] at this
  injection this with this
  injection this with _ this _
  exact hne this.symm
theorem own_other3 {w w' : World} {base n size gn : Nat} {e T : TypeId} {v : Value} {xs vs : List Value} (h : w.ownsRow base e size v n xs) (ho : ObjAt w gn T vs) (t : TurnB w w' gn) (hne : T ≠ e) : w'.ownsRow base e size v n xs := by
  obtain ⟨h1, h2⟩ := h
  refine ⟨h1, h2.imp id ?_⟩
  rintro ⟨b, cap, cur, hv, hb, hh, r⟩
  refine ⟨b, cap, cur, hv, hb, (t.other ?_).trans hh, r⟩
  rintro rfl
  have := ho
  unfold ObjAt at this
  rw [hh] at this
  injection this with this
  injection this with _ this _
  exact hne this.symm

set_option maxRecDepth 100000 in
set_option maxHeartbeats 16000000 in
theorem node_own {vd vf : Value} (hb : ObjAt w g 60 [.slice a A.length cap, vd, vf]) (y : MbS) (hy : MbF w y) (hA : A.length ≤ 1000) (h3 : ¬ y.n.e.k = 3) :
    Calls Tryd.prog 25 #[.pointer (some ⟨g, 0, none⟩), .agg (mbV y).toArray] w fun e w' => ∃ u, e = .returned (.agg (ndV u).toArray) ∧ Nw S w w' A y.n u ∧ Below w.heap.size w w' := by
  obtain ⟨⟨⟨k, p, m, t, s⟩, d⟩, x, xc⟩ := y
  obtain ⟨L, hL⟩ := named d.length
  have HL : Hid (d.length = L) := hL.out.symm
  obtain ⟨n, hn⟩ := named A.length
  have HB := Lib.hid hb
  have HY := Lib.hid hy
  have HN : Hid (A.length = n) := hn.out.symm
  have N40 : Hid (n ≤ 1000) := by show _ ≤ _; rw [hn.out]; exact hA
  have EO := Lib.hid enT
  have EZ := Lib.hid zEn
  have NZ := Lib.hid zNd
  have NO := Lib.hid ndT
  have S1 : Hid ((Tryd.prog.info? 3).map (·.size) = some 1) := by show _ = _; kernel_rfl
  have SS : Hid ((Tryd.prog.info? 9).map (·.size) = some 1) := by show _ = _; kernel_rfl
  show Calls _ _ #[_, .agg (mbC k p m t s x d.length xc).toArray] _ _
  rw [HL.out]
  have K3 : Hid (¬ k = 3) := h3
  have n3 : (k == 3) = false := by simpa using h3
  clear h3
  clear hb hy hn hL hA
  go_enter Tryd.func25, Tryd.ntmps25
  go_wp2_with (first | (refine wpList_box_obj rfl 30 _ rfl (mbC k p m t s x L xc) rfl ?_; intro w1 g1 b1; have G1 := Lib.hid g1; have B1 := Lib.hid b1; clear g1 b1) | (refine wpList_alloc_obj rfl 55 rfl (ndL 0 emp 0 emp none 0 0 0) NZ.out ?_; intro w2 g2 b2; have N2 := Lib.hid g2; have G2 := Lib.hid (G1.out.below b2 G1.out.lt); have L1 := Lib.hid (show w.heap.size < w1.heap.size from G1.out.lt); have B2 := Lib.hid (belT B1.out b2); clear g2 b2) | (refine wpList_load_part rfl 27 5 EO.out _ rfl w.heap.size 0 rfl (enV k p m t s) rfl (fun j u hj => by rw [Nat.zero_add, G2.out.cell]; match j, hj with | 0, hj => exact hj | 1, hj => exact hj | 2, hj => exact hj | 3, hj => exact hj | 4, hj => exact hj) ?_) | (refine wpList_alloc_obj rfl 27 rfl (enV 0 emp 0 emp 0) EZ.out ?_; intro w3 g3 b3; have E3 := Lib.hid g3; have N3 := Lib.hid (N2.out.below b3 N2.out.lt); have G3 := Lib.hid (G2.out.below b3 G2.out.lt); have L2 := Lib.hid (show w1.heap.size < w2.heap.size from N2.out.lt); have B3 := Lib.hid (belT B2.out b3); clear g3 b3) | (refine wpList_store_obj rfl 27 _ _ rfl w2.heap.size rfl (enV k p m t s) (enV 0 emp 0 emp 0) rfl 27 E3.out EO.out.2 rfl (en_one _ _ _ _ _) ?_; intro wz g4 t4; have EB := Lib.hid g4; have NB := Lib.hid (N3.out.turned t4 (Nat.ne_of_lt L2.out)); have MB := Lib.hid (G3.out.turned t4 (Nat.ne_of_lt (Nat.lt_trans L1.out L2.out))); have BZ := Lib.hid (B3.out.trans (t4.below B2.out.size)); have ZL := Lib.hid (show w2.heap.size < wz.heap.size from g4.lt); have e0 := g4.get 0 rfl; clear g4 t4))
  clear G1 G2 G3 N2 N3 E3 B1 B2 B3
  have BC : Hid (∀ w', Below wz.heap.size wz w' → Calls Tryd.prog 44 #[.slice x L xc] w' fun e w'' => ∃ v, e = .returned v ∧ w''.ownsRow w'.heap.size 5 1 v L (d.map (.int .u8)) ∧ Below w'.heap.size w' w'') := fun w' hb => bclone _ _ _ _ _ ((HY.out.below (belT BZ.out hb)).d.inK) HL.out (by rw [← HL.out]; exact HY.out.l)
  have KS : Hid (∀ w', Below wz.heap.size wz w' → (fun w' : World => w'.cell? ⟨w2.heap.size, 0, none⟩ = some (.int .i64 k) ∧ w'.cell? ⟨w2.heap.size, 1, none⟩ = some (.string p) ∧ w'.cell? ⟨w2.heap.size, 2, none⟩ = some (.int .i64 m) ∧ w'.cell? ⟨w2.heap.size, 3, none⟩ = some (.string t) ∧ w'.cell? ⟨w.heap.size, 5, none⟩ = some (.slice x L xc)) w') := fun w' h =>
    ⟨(EB.out.below h EB.out.lt).get 0 rfl, (EB.out.below h EB.out.lt).get 1 rfl, (EB.out.below h EB.out.lt).get 2 rfl, (EB.out.below h EB.out.lt).get 3 rfl, (MB.out.below h MB.out.lt).get 5 rfl⟩
  have D0 : Hid (Below wz.heap.size wz wz.drew) := (Below.refl _ _).drew
  clear e0
  refine wp_region_held_drew (S := (fun w' : World => w'.cell? ⟨w2.heap.size, 0, none⟩ = some (.int .i64 k) ∧ w'.cell? ⟨w2.heap.size, 1, none⟩ = some (.string p) ∧ w'.cell? ⟨w2.heap.size, 2, none⟩ = some (.int .i64 m) ∧ w'.cell? ⟨w2.heap.size, 3, none⟩ = some (.string t) ∧ w'.cell? ⟨w.heap.size, 5, none⟩ = some (.slice x L xc))) (by kernel_rfl) (KS.out _ D0.out) (fun hHeld => ?_)
  refine wpAnyH_take (i := 0) (oi := { dst := some 30, op := Go.Op.fieldAddr 27 (Go.Operand.tmp 5) 0, type := 0, pos := "rebuild.go:95", after := #[], guard := none }) (v := ?_) rfl (by kernel_rfl) (by kernel_rfl) (by kernel_rfl) (fun _ _ _ h => h) (Or.inl ⟨by rfl, ?_⟩) (by assumption) ?_
  rotate_left 1
  focus ((intro wS hSw; (try dsimp only at hSw); go_simp) <;> (try with_reducible rfl))
  simp only [Act.put, List.setIfInBounds_toArray, List.set_cons_zero, List.set_cons_succ]
  refine wpAnyH_take (i := 1) (oi := { dst := some 31, op := Go.Op.load 3 (Go.Operand.tmp 30), type := 3, pos := "rebuild.go:95", after := #[{ on := 0, ground := Go.Ground.data }], guard := none }) (v := ?_) rfl (by kernel_rfl) (by kernel_rfl) (by kernel_rfl) (fun _ _ _ h => h) (Or.inl ⟨by rfl, ?_⟩) (by assumption) ?_
  rotate_left 1
  focus ((intro wS hSw; (try dsimp only at hSw); go_simp) <;> (try with_reducible rfl))
  simp only [Act.put, List.setIfInBounds_toArray, List.set_cons_zero, List.set_cons_succ]
  refine wpAnyH_take (i := 2) (oi := { dst := some 32, op := Go.Op.fieldAddr 27 (Go.Operand.tmp 5) 1, type := 0, pos := "rebuild.go:95", after := #[], guard := none }) (v := ?_) rfl (by kernel_rfl) (by kernel_rfl) (by kernel_rfl) (fun _ _ _ h => h) (Or.inl ⟨by rfl, ?_⟩) (by assumption) ?_
  rotate_left 1
  focus ((intro wS hSw; (try dsimp only at hSw); go_simp) <;> (try with_reducible rfl))
  simp only [Act.put, List.setIfInBounds_toArray, List.set_cons_zero, List.set_cons_succ]
  refine wpAnyH_take (i := 3) (oi := { dst := some 33, op := Go.Op.load 9 (Go.Operand.tmp 32), type := 9, pos := "rebuild.go:95", after := #[{ on := 2, ground := Go.Ground.data }], guard := none }) (v := ?_) rfl (by kernel_rfl) (by kernel_rfl) (by kernel_rfl) (fun _ _ _ h => h) (Or.inl ⟨by rfl, ?_⟩) (by assumption) ?_
  rotate_left 1
  focus ((intro wS hSw; (try dsimp only at hSw); go_simp) <;> (try with_reducible rfl))
  simp only [Act.put, List.setIfInBounds_toArray, List.set_cons_zero, List.set_cons_succ]
  refine wpAnyH_take (i := 4) (oi := { dst := some 34, op := Go.Op.fieldAddr 27 (Go.Operand.tmp 5) 2, type := 0, pos := "rebuild.go:95", after := #[], guard := none }) (v := ?_) rfl (by kernel_rfl) (by kernel_rfl) (by kernel_rfl) (fun _ _ _ h => h) (Or.inl ⟨by rfl, ?_⟩) (by assumption) ?_
  rotate_left 1
  focus ((intro wS hSw; (try dsimp only at hSw); go_simp) <;> (try with_reducible rfl))
  simp only [Act.put, List.setIfInBounds_toArray, List.set_cons_zero, List.set_cons_succ]
  refine wpAnyH_take (i := 5) (oi := { dst := some 35, op := Go.Op.load 3 (Go.Operand.tmp 34), type := 3, pos := "rebuild.go:95", after := #[{ on := 4, ground := Go.Ground.data }], guard := none }) (v := ?_) rfl (by kernel_rfl) (by kernel_rfl) (by kernel_rfl) (fun _ _ _ h => h) (Or.inl ⟨by rfl, ?_⟩) (by assumption) ?_
  rotate_left 1
  focus ((intro wS hSw; (try dsimp only at hSw); go_simp) <;> (try with_reducible rfl))
  simp only [Act.put, List.setIfInBounds_toArray, List.set_cons_zero, List.set_cons_succ]
  refine wpAnyH_take (i := 6) (oi := { dst := some 36, op := Go.Op.fieldAddr 27 (Go.Operand.tmp 5) 3, type := 0, pos := "rebuild.go:95", after := #[], guard := none }) (v := ?_) rfl (by kernel_rfl) (by kernel_rfl) (by kernel_rfl) (fun _ _ _ h => h) (Or.inl ⟨by rfl, ?_⟩) (by assumption) ?_
  rotate_left 1
  focus ((intro wS hSw; (try dsimp only at hSw); go_simp) <;> (try with_reducible rfl))
  simp only [Act.put, List.setIfInBounds_toArray, List.set_cons_zero, List.set_cons_succ]
  refine wpAnyH_take (i := 7) (oi := { dst := some 37, op := Go.Op.load 9 (Go.Operand.tmp 36), type := 9, pos := "rebuild.go:95", after := #[{ on := 6, ground := Go.Ground.data }], guard := none }) (v := ?_) rfl (by kernel_rfl) (by kernel_rfl) (by kernel_rfl) (fun _ _ _ h => h) (Or.inl ⟨by rfl, ?_⟩) (by assumption) ?_
  rotate_left 1
  focus ((intro wS hSw; (try dsimp only at hSw); go_simp) <;> (try with_reducible rfl))
  simp only [Act.put, List.setIfInBounds_toArray, List.set_cons_zero, List.set_cons_succ]
  refine wpAnyH_take (i := 8) (oi := { dst := some 38, op := Go.Op.fieldAddr 30 (Go.Operand.tmp 3) 1, type := 0, pos := "rebuild.go:95", after := #[], guard := none }) (v := ?_) rfl (by kernel_rfl) (by kernel_rfl) (by kernel_rfl) (fun _ _ _ h => h) (Or.inl ⟨by rfl, ?_⟩) (by assumption) ?_
  rotate_left 1
  focus ((intro wS hSw; (try dsimp only at hSw); go_simp) <;> (try with_reducible rfl))
  simp only [Act.put, List.setIfInBounds_toArray, List.set_cons_zero, List.set_cons_succ]
  refine wpAnyH_take (i := 9) (oi := { dst := some 39, op := Go.Op.load 28 (Go.Operand.tmp 38), type := 28, pos := "rebuild.go:95", after := #[{ on := 8, ground := Go.Ground.data }], guard := none }) (v := ?_) rfl (by kernel_rfl) (by kernel_rfl) (by kernel_rfl) (fun _ _ _ h => h) (Or.inl ⟨by rfl, ?_⟩) (by assumption) ?_
  rotate_left 1
  focus ((intro wS hSw; (try dsimp only at hSw); go_simp) <;> (try with_reducible rfl))
  simp only [Act.put, List.setIfInBounds_toArray, List.set_cons_zero, List.set_cons_succ]
  refine wpAnyH_ready (rs := [10, 12]) (by kernel_rfl) (by simp) ?_
  refine AllReadyH.cons (o := { dst := some 40, op := Go.Op.call { callee := Go.Callee.value (Go.Operand.func 44), args := #[Go.Operand.tmp 39], argTypes := #[28] }, type := 28, pos := "rebuild.go:95", after := #[{ on := 9, ground := Go.Ground.data }], guard := none }) rfl (fun K hK => ?_) (AllReadyH.cons (o := { dst := some 7, op := Go.Op.alloc 55, type := 0, pos := "rebuild.go:95", after := #[], guard := none }) rfl (fun K hK => ?_) AllReadyH.nil)
  · go_simp
    refine (BC.out _ D0.out).mono ?_
    rintro e z1 ⟨v, rfl, o1, b1⟩
    obtain ⟨x1, xc1, rfl, F1⟩ : ∃ x1 xc1, v = .slice x1 L xc1 ∧ Hid (z1.ownsRow w.heap.size 5 1 (.slice x1 L xc1) L (d.map (.int .u8))) := by
      obtain ⟨x1, xc1, hv, _⟩ := own_any o1
      subst hv
      exact ⟨x1, xc1, rfl, own_base o1 BZ.out.size⟩
    have D1 : Hid (Below wz.heap.size wz z1) := D0.out.trans (b1.mono (Nat.le_refl _))
    clear o1 b1
    refine hK.out _ _ (KS.out _ D1.out) (fun hHeld => ?_)
    clear hK K
    (try simp only [Act.put, List.setIfInBounds_toArray, List.set_cons_zero, List.set_cons_succ])
    refine wpAnyH_take (i := 11) (oi := { dst := some 41, op := Go.Op.build 55 #[(0, Go.Operand.tmp 31), (1, Go.Operand.tmp 33), (2, Go.Operand.tmp 35), (3, Go.Operand.tmp 37), (4, Go.Operand.tmp 40)], type := 55, pos := "rebuild.go:95", after := #[{ on := 1, ground := Go.Ground.data }, { on := 3, ground := Go.Ground.data }, { on := 5, ground := Go.Ground.data }, { on := 7, ground := Go.Ground.data }, { on := 10, ground := Go.Ground.data }], guard := none }) (v := ?_) rfl (by kernel_rfl) (by kernel_rfl) (by kernel_rfl) (fun _ _ _ h => h) (Or.inl ⟨by rfl, ?_⟩) (by assumption) ?_
    rotate_left 1
    focus ((intro wS hSw; (try dsimp only at hSw); go_simp) <;> (try with_reducible rfl))
    simp only [Act.put, List.setIfInBounds_toArray, List.set_cons_zero, List.set_cons_succ]
    refine wpAnyH_ready (rs := [12]) (by kernel_rfl) (by simp) ?_
    refine AllReadyH.cons (o := { dst := some 7, op := Go.Op.alloc 55, type := 0, pos := "rebuild.go:95", after := #[], guard := none }) rfl (fun K hK => ?_) AllReadyH.nil
    refine step_alloc_obj rfl 55 rfl (ndL 0 emp 0 emp none 0 0 0) NZ.out ?_
    intro z2 g2 b2
    obtain ⟨gn, hgn⟩ := named z1.heap.size
    have GN : Hid (wz.heap.size ≤ gn) := by show _ ≤ _; rw [hgn.out]; exact D1.out.size
    have N2 : Hid (ObjAt z2 gn 55 (ndL 0 emp 0 emp none 0 0 0)) := by show ObjAt _ _ _ _; rw [hgn.out]; exact g2
    have D2 : Hid (Below wz.heap.size wz z2) := D1.out.trans (b2.mono D1.out.size)
    have F2 := Lib.hid (own_stay' F1.out b2 (Nat.le_refl _))
    rw [← hgn.out]
    clear g2 b2 hgn
    refine hK.out _ _ (KS.out _ D2.out) (fun hHeld => ?_)
    clear hK K
    (try simp only [Act.put, List.setIfInBounds_toArray, List.set_cons_zero, List.set_cons_succ])
    refine wpAnyH_ready (rs := [13]) (by kernel_rfl) (by simp) ?_
    refine AllReadyH.cons (o := { dst := none, op := Go.Op.store 55 (Go.Operand.tmp 7) (Go.Operand.tmp 41), type := 0, pos := "rebuild.go:95", after := #[{ on := 12, ground := Go.Ground.data }, { on := 11, ground := Go.Ground.data }, { on := 10, ground := Go.Ground.chain }, { on := 0, ground := Go.Ground.phase }, { on := 1, ground := Go.Ground.phase }, { on := 2, ground := Go.Ground.phase }, { on := 3, ground := Go.Ground.phase }, { on := 4, ground := Go.Ground.phase }, { on := 5, ground := Go.Ground.phase }, { on := 6, ground := Go.Ground.phase }, { on := 7, ground := Go.Ground.phase }, { on := 8, ground := Go.Ground.phase }, { on := 9, ground := Go.Ground.phase }, { on := 10, ground := Go.Ground.phase }, { on := 11, ground := Go.Ground.phase }, { on := 12, ground := Go.Ground.phase }], guard := none }) rfl (fun K hK => ?_) AllReadyH.nil
    refine step_store_obj rfl 55 (.tmp 7) (.tmp 41) rfl gn rfl (ndL k p m t x1 L xc1 0) (ndL 0 emp 0 emp none 0 0 0) rfl 55 N2.out NO.out.2 rfl (nd_one _ _ _ _ _ _ _ _) ?_
    intro z3 g3 t3
    have N3 := Lib.hid g3
    have D3 : Hid (Below wz.heap.size wz z3) := D2.out.trans (t3.below GN.out)
    have F3 : Hid (z3.ownsRow w.heap.size 5 1 (.slice x1 L xc1) L (d.map (.int .u8))) := own_other2 F2.out N2.out t3 (by decide)
    clear g3 t3
    refine hK.out _ _ (KS.out _ D3.out) (fun hHeld => ?_)
    clear hK K
    (try simp only [Act.put])
    refine wpAnyH_done (by kernel_rfl) ?_ _
    have NB3 := Lib.hid (NB.out.below D3.out NB.out.lt)
    have EB3 := Lib.hid (EB.out.below D3.out EB.out.lt)
    have HB3 := Lib.hid (HB.out.below (belT BZ.out D3.out) HB.out.lt)
    have e0 := EB3.out.get 0 rfl
    have g0 : z3.cell? ⟨g, 0, none⟩ = some (.slice a n cap) := by rw [← HN.out]; exact HB3.out.get 0 rfl
    have B3 := Lib.hid (belT BZ.out D3.out)
    have RZ : Hid (w1.heap.size < gn) := Nat.lt_of_lt_of_le NB.out.lt GN.out
    have WZ : Hid (w.heap.size ≤ w1.heap.size) := Nat.le_of_lt L1.out
    have WG : Hid (w.heap.size ≤ gn) := Nat.le_trans BZ.out.size GN.out
    clear KS hHeld D2 F2 N2 D1
    by_cases k1 : k = 1
    · subst k1
      have e5 : IntKind.i64.wrap ((n : Int) + 1) = (n : Int) + 1 := wrapI (by omega) (by have := N40.out; omega)
      go_wp2_with (first | (refine wpList_store_cell rfl 3 _ _ rfl gn 5 rfl (.int .i64 ((n : Int) + 1)) rfl rfl S1.out 55 _ N3.out (by show 5 < 6; decide) ?_; intro z4 g4 t4; have N4 : Hid (ObjAt z4 gn 55 (ndL 1 p m t x1 L xc1 ((n : Int) + 1))) := g4; have B4 := Lib.hid (B3.out.trans (t4.below WG.out)); have F4 := Lib.hid (own_other3 F3.out N3.out t4 (by decide)); have NB4 := Lib.hid (NB3.out.turnB t4 (Nat.ne_of_lt RZ.out)); clear g4 t4) | (refine wpList_load_obj rfl 55 6 NO.out _ rfl gn rfl 55 (ndL 1 p m t x1 L xc1 ((n : Int) + 1)) N4.out rfl ?_) | (refine wpList_store_obj rfl 55 _ _ rfl w1.heap.size rfl (ndL 1 p m t x1 L xc1 ((n : Int) + 1)) (ndL 0 emp 0 emp none 0 0 0) rfl 55 NB4.out NO.out.2 rfl (nd_one _ _ _ _ _ _ _ _) ?_; intro z5 g5 t5; have N5 := Lib.hid g5; have B5 := Lib.hid (B4.out.trans (t5.below WZ.out)); have F5 := Lib.hid (own_other2 F4.out NB4.out t5 (by decide)); clear g5 t5))
      have EN : Hid ((⟨1, p, m, t, d, (n : Int) + 1⟩ : Tre.Nd) = ndOf (A ++ [⟨⟨1, p, m, t, s⟩, d⟩]) A.length) := by
        show _ = _
        rw [ndOf_new, if_neg (show ¬ (1 : Int) = 3 from by decide), if_pos (show (1 : Int) = 1 from rfl), HN.out]
      have ST : Hid (NdSt ⟨⟨1, p, m, t, d, (n : Int) + 1⟩, x1, xc1⟩) := by
        have := clone_nw (A := A) HY.out (by rw [HN.out]; exact N40.out) (show ¬ (1 : Int) = 3 from by decide) (x := x1) (c := xc1)
        rw [← show ndOf (A ++ [⟨⟨1, p, m, t, s⟩, d⟩]) A.length = ⟨1, p, m, t, d, (n : Int) + 1⟩ from EN.out.symm]
        exact this
      have FR : Hid (Frs 0 z5 ⟨⟨1, p, m, t, d, (n : Int) + 1⟩, x1, xc1⟩ ∧ ∀ q, x1 = some q → w.heap.size ≤ q.block ∧ q.block < z5.heap.size) := by
        refine ⟨?_, fun q hq => ?_⟩
        · show z5.ownsRow 0 _ 1 (.slice x1 d.length xc1) d.length (d.map (.int .u8))
          rw [HL.out]; exact own_base F5.out (Nat.zero_le _)
        · obtain ⟨b', c', hv, _, _, _, _, hx⟩ := own_any F5.out
          injection hv with hv1 _ _
          subst hv1
          obtain ⟨h1, h2, _⟩ := hx q hq
          exact ⟨h1, h2⟩
      exact bodyPost_ret (results_obj Tryd.results25 NO.out _ w1.heap.size rfl _ _ N5.out rfl) rfl ⟨⟨⟨1, p, m, t, d, (n : Int) + 1⟩, x1, xc1⟩, by rw [← HL.out], ⟨EN.out, ST.out, FR.out.1, fun q hq => .inr (FR.out.2 q hq)⟩, B5.out⟩
    · have n1 : (k == 1) = false := by simpa using k1
      go_wp2_with (first | (refine wpList_load_obj rfl 55 6 NO.out _ rfl gn rfl 55 (ndL k p m t x1 L xc1 (0)) N3.out rfl ?_) | (refine wpList_store_obj rfl 55 _ _ rfl w1.heap.size rfl (ndL k p m t x1 L xc1 (0)) (ndL 0 emp 0 emp none 0 0 0) rfl 55 NB3.out NO.out.2 rfl (nd_one _ _ _ _ _ _ _ _) ?_; intro z5 g5 t5; have N5 := Lib.hid g5; have B5 := Lib.hid (B3.out.trans (t5.below WZ.out)); have F5 := Lib.hid (own_other2 F3.out NB3.out t5 (by decide)); clear g5 t5))
      have EN : Hid ((⟨k, p, m, t, d, 0⟩ : Tre.Nd) = ndOf (A ++ [⟨⟨k, p, m, t, s⟩, d⟩]) A.length) := by
        show _ = _
        rw [ndOf_new, if_neg (show ¬ (k : Int) = 3 from K3.out), if_neg (show ¬ (k : Int) = 1 from k1)]
      have ST : Hid (NdSt ⟨⟨k, p, m, t, d, 0⟩, x1, xc1⟩) := by
        have := clone_nw (A := A) HY.out (by rw [HN.out]; exact N40.out) (show ¬ (k : Int) = 3 from K3.out) (x := x1) (c := xc1)
        rw [← show ndOf (A ++ [⟨⟨k, p, m, t, s⟩, d⟩]) A.length = ⟨k, p, m, t, d, 0⟩ from EN.out.symm]
        exact this
      have FR : Hid (Frs 0 z5 ⟨⟨k, p, m, t, d, 0⟩, x1, xc1⟩ ∧ ∀ q, x1 = some q → w.heap.size ≤ q.block ∧ q.block < z5.heap.size) := by
        refine ⟨?_, fun q hq => ?_⟩
        · show z5.ownsRow 0 _ 1 (.slice x1 d.length xc1) d.length (d.map (.int .u8))
          rw [HL.out]; exact own_base F5.out (Nat.zero_le _)
        · obtain ⟨b', c', hv, _, _, _, _, hx⟩ := own_any F5.out
          injection hv with hv1 _ _
          subst hv1
          obtain ⟨h1, h2, _⟩ := hx q hq
          exact ⟨h1, h2⟩
      exact bodyPost_ret (results_obj Tryd.results25 NO.out _ w1.heap.size rfl _ _ N5.out rfl) rfl ⟨⟨⟨k, p, m, t, d, 0⟩, x1, xc1⟩, by rw [← HL.out], ⟨EN.out, ST.out, FR.out.1, fun q hq => .inr (FR.out.2 q hq)⟩, B5.out⟩
  · refine step_alloc_obj rfl 55 rfl (ndL 0 emp 0 emp none 0 0 0) NZ.out ?_
    intro z1 g1 b1
    obtain ⟨gn, hgn⟩ := named wz.heap.size
    have GN : Hid (wz.heap.size ≤ gn) := by show _ ≤ _; rw [hgn.out]; exact Nat.le_refl _
    have N1 : Hid (ObjAt z1 gn 55 (ndL 0 emp 0 emp none 0 0 0)) := by show ObjAt _ _ _ _; rw [hgn.out]; exact g1
    have D1 : Hid (Below wz.heap.size wz z1) := D0.out.trans (b1.mono (Nat.le_refl _))
    have EG : wz.drew.heap.size = gn := hgn.out.symm
    rw [EG]
    clear g1 b1 hgn EG
    refine hK.out _ _ (KS.out _ D1.out) (fun hHeld => ?_)
    clear hK K
    (try simp only [Act.put, List.setIfInBounds_toArray, List.set_cons_zero, List.set_cons_succ])
    refine wpAnyH_ready (rs := [10]) (by kernel_rfl) (by simp) ?_
    refine AllReadyH.cons (o := { dst := some 40, op := Go.Op.call { callee := Go.Callee.value (Go.Operand.func 44), args := #[Go.Operand.tmp 39], argTypes := #[28] }, type := 28, pos := "rebuild.go:95", after := #[{ on := 9, ground := Go.Ground.data }], guard := none }) rfl (fun K hK => ?_) AllReadyH.nil
    go_simp
    refine (BC.out _ D1.out).mono ?_
    rintro e z2 ⟨v, rfl, o1, b1⟩
    obtain ⟨x1, xc1, rfl, F2⟩ : ∃ x1 xc1, v = .slice x1 L xc1 ∧ Hid (z2.ownsRow w.heap.size 5 1 (.slice x1 L xc1) L (d.map (.int .u8))) := by
      obtain ⟨x1, xc1, hv, _⟩ := own_any o1
      subst hv
      exact ⟨x1, xc1, rfl, own_base o1 (Nat.le_trans BZ.out.size D1.out.size)⟩
    have N2 := Lib.hid (N1.out.below b1 N1.out.lt)
    have D2 : Hid (Below wz.heap.size wz z2) := D1.out.trans (b1.mono D1.out.size)
    clear o1 b1
    refine hK.out _ _ (KS.out _ D2.out) (fun hHeld => ?_)
    clear hK K
    (try simp only [Act.put, List.setIfInBounds_toArray, List.set_cons_zero, List.set_cons_succ])
    refine wpAnyH_take (i := 11) (oi := { dst := some 41, op := Go.Op.build 55 #[(0, Go.Operand.tmp 31), (1, Go.Operand.tmp 33), (2, Go.Operand.tmp 35), (3, Go.Operand.tmp 37), (4, Go.Operand.tmp 40)], type := 55, pos := "rebuild.go:95", after := #[{ on := 1, ground := Go.Ground.data }, { on := 3, ground := Go.Ground.data }, { on := 5, ground := Go.Ground.data }, { on := 7, ground := Go.Ground.data }, { on := 10, ground := Go.Ground.data }], guard := none }) (v := ?_) rfl (by kernel_rfl) (by kernel_rfl) (by kernel_rfl) (fun _ _ _ h => h) (Or.inl ⟨by rfl, ?_⟩) (by assumption) ?_
    rotate_left 1
    focus ((intro wS hSw; (try dsimp only at hSw); go_simp) <;> (try with_reducible rfl))
    simp only [Act.put, List.setIfInBounds_toArray, List.set_cons_zero, List.set_cons_succ]
    refine wpAnyH_ready (rs := [13]) (by kernel_rfl) (by simp) ?_
    refine AllReadyH.cons (o := { dst := none, op := Go.Op.store 55 (Go.Operand.tmp 7) (Go.Operand.tmp 41), type := 0, pos := "rebuild.go:95", after := #[{ on := 12, ground := Go.Ground.data }, { on := 11, ground := Go.Ground.data }, { on := 10, ground := Go.Ground.chain }, { on := 0, ground := Go.Ground.phase }, { on := 1, ground := Go.Ground.phase }, { on := 2, ground := Go.Ground.phase }, { on := 3, ground := Go.Ground.phase }, { on := 4, ground := Go.Ground.phase }, { on := 5, ground := Go.Ground.phase }, { on := 6, ground := Go.Ground.phase }, { on := 7, ground := Go.Ground.phase }, { on := 8, ground := Go.Ground.phase }, { on := 9, ground := Go.Ground.phase }, { on := 10, ground := Go.Ground.phase }, { on := 11, ground := Go.Ground.phase }, { on := 12, ground := Go.Ground.phase }], guard := none }) rfl (fun K hK => ?_) AllReadyH.nil
    refine step_store_obj rfl 55 (.tmp 7) (.tmp 41) rfl gn rfl (ndL k p m t x1 L xc1 0) (ndL 0 emp 0 emp none 0 0 0) rfl 55 N2.out NO.out.2 rfl (nd_one _ _ _ _ _ _ _ _) ?_
    intro z3 g3 t3
    have N3 := Lib.hid g3
    have D3 : Hid (Below wz.heap.size wz z3) := D2.out.trans (t3.below GN.out)
    have F3 : Hid (z3.ownsRow w.heap.size 5 1 (.slice x1 L xc1) L (d.map (.int .u8))) := own_other2 F2.out N2.out t3 (by decide)
    clear g3 t3
    refine hK.out _ _ (KS.out _ D3.out) (fun hHeld => ?_)
    clear hK K
    (try simp only [Act.put])
    refine wpAnyH_done (by kernel_rfl) ?_ _
    have NB3 := Lib.hid (NB.out.below D3.out NB.out.lt)
    have EB3 := Lib.hid (EB.out.below D3.out EB.out.lt)
    have HB3 := Lib.hid (HB.out.below (belT BZ.out D3.out) HB.out.lt)
    have e0 := EB3.out.get 0 rfl
    have g0 : z3.cell? ⟨g, 0, none⟩ = some (.slice a n cap) := by rw [← HN.out]; exact HB3.out.get 0 rfl
    have B3 := Lib.hid (belT BZ.out D3.out)
    have RZ : Hid (w1.heap.size < gn) := Nat.lt_of_lt_of_le NB.out.lt GN.out
    have WZ : Hid (w.heap.size ≤ w1.heap.size) := Nat.le_of_lt L1.out
    have WG : Hid (w.heap.size ≤ gn) := Nat.le_trans BZ.out.size GN.out
    clear KS hHeld D2 F2 N2 D1
    by_cases k1 : k = 1
    · subst k1
      have e5 : IntKind.i64.wrap ((n : Int) + 1) = (n : Int) + 1 := wrapI (by omega) (by have := N40.out; omega)
      go_wp2_with (first | (refine wpList_store_cell rfl 3 _ _ rfl gn 5 rfl (.int .i64 ((n : Int) + 1)) rfl rfl S1.out 55 _ N3.out (by show 5 < 6; decide) ?_; intro z4 g4 t4; have N4 : Hid (ObjAt z4 gn 55 (ndL 1 p m t x1 L xc1 ((n : Int) + 1))) := g4; have B4 := Lib.hid (B3.out.trans (t4.below WG.out)); have F4 := Lib.hid (own_other3 F3.out N3.out t4 (by decide)); have NB4 := Lib.hid (NB3.out.turnB t4 (Nat.ne_of_lt RZ.out)); clear g4 t4) | (refine wpList_load_obj rfl 55 6 NO.out _ rfl gn rfl 55 (ndL 1 p m t x1 L xc1 ((n : Int) + 1)) N4.out rfl ?_) | (refine wpList_store_obj rfl 55 _ _ rfl w1.heap.size rfl (ndL 1 p m t x1 L xc1 ((n : Int) + 1)) (ndL 0 emp 0 emp none 0 0 0) rfl 55 NB4.out NO.out.2 rfl (nd_one _ _ _ _ _ _ _ _) ?_; intro z5 g5 t5; have N5 := Lib.hid g5; have B5 := Lib.hid (B4.out.trans (t5.below WZ.out)); have F5 := Lib.hid (own_other2 F4.out NB4.out t5 (by decide)); clear g5 t5))
      have EN : Hid ((⟨1, p, m, t, d, (n : Int) + 1⟩ : Tre.Nd) = ndOf (A ++ [⟨⟨1, p, m, t, s⟩, d⟩]) A.length) := by
        show _ = _
        rw [ndOf_new, if_neg (show ¬ (1 : Int) = 3 from by decide), if_pos (show (1 : Int) = 1 from rfl), HN.out]
      have ST : Hid (NdSt ⟨⟨1, p, m, t, d, (n : Int) + 1⟩, x1, xc1⟩) := by
        have := clone_nw (A := A) HY.out (by rw [HN.out]; exact N40.out) (show ¬ (1 : Int) = 3 from by decide) (x := x1) (c := xc1)
        rw [← show ndOf (A ++ [⟨⟨1, p, m, t, s⟩, d⟩]) A.length = ⟨1, p, m, t, d, (n : Int) + 1⟩ from EN.out.symm]
        exact this
      have FR : Hid (Frs 0 z5 ⟨⟨1, p, m, t, d, (n : Int) + 1⟩, x1, xc1⟩ ∧ ∀ q, x1 = some q → w.heap.size ≤ q.block ∧ q.block < z5.heap.size) := by
        refine ⟨?_, fun q hq => ?_⟩
        · show z5.ownsRow 0 _ 1 (.slice x1 d.length xc1) d.length (d.map (.int .u8))
          rw [HL.out]; exact own_base F5.out (Nat.zero_le _)
        · obtain ⟨b', c', hv, _, _, _, _, hx⟩ := own_any F5.out
          injection hv with hv1 _ _
          subst hv1
          obtain ⟨h1, h2, _⟩ := hx q hq
          exact ⟨h1, h2⟩
      exact bodyPost_ret (results_obj Tryd.results25 NO.out _ w1.heap.size rfl _ _ N5.out rfl) rfl ⟨⟨⟨1, p, m, t, d, (n : Int) + 1⟩, x1, xc1⟩, by rw [← HL.out], ⟨EN.out, ST.out, FR.out.1, fun q hq => .inr (FR.out.2 q hq)⟩, B5.out⟩
    · have n1 : (k == 1) = false := by simpa using k1
      go_wp2_with (first | (refine wpList_load_obj rfl 55 6 NO.out _ rfl gn rfl 55 (ndL k p m t x1 L xc1 (0)) N3.out rfl ?_) | (refine wpList_store_obj rfl 55 _ _ rfl w1.heap.size rfl (ndL k p m t x1 L xc1 (0)) (ndL 0 emp 0 emp none 0 0 0) rfl 55 NB3.out NO.out.2 rfl (nd_one _ _ _ _ _ _ _ _) ?_; intro z5 g5 t5; have N5 := Lib.hid g5; have B5 := Lib.hid (B3.out.trans (t5.below WZ.out)); have F5 := Lib.hid (own_other2 F3.out NB3.out t5 (by decide)); clear g5 t5))
      have EN : Hid ((⟨k, p, m, t, d, 0⟩ : Tre.Nd) = ndOf (A ++ [⟨⟨k, p, m, t, s⟩, d⟩]) A.length) := by
        show _ = _
        rw [ndOf_new, if_neg (show ¬ (k : Int) = 3 from K3.out), if_neg (show ¬ (k : Int) = 1 from k1)]
      have ST : Hid (NdSt ⟨⟨k, p, m, t, d, 0⟩, x1, xc1⟩) := by
        have := clone_nw (A := A) HY.out (by rw [HN.out]; exact N40.out) (show ¬ (k : Int) = 3 from K3.out) (x := x1) (c := xc1)
        rw [← show ndOf (A ++ [⟨⟨k, p, m, t, s⟩, d⟩]) A.length = ⟨k, p, m, t, d, 0⟩ from EN.out.symm]
        exact this
      have FR : Hid (Frs 0 z5 ⟨⟨k, p, m, t, d, 0⟩, x1, xc1⟩ ∧ ∀ q, x1 = some q → w.heap.size ≤ q.block ∧ q.block < z5.heap.size) := by
        refine ⟨?_, fun q hq => ?_⟩
        · show z5.ownsRow 0 _ 1 (.slice x1 d.length xc1) d.length (d.map (.int .u8))
          rw [HL.out]; exact own_base F5.out (Nat.zero_le _)
        · obtain ⟨b', c', hv, _, _, _, _, hx⟩ := own_any F5.out
          injection hv with hv1 _ _
          subst hv1
          obtain ⟨h1, h2, _⟩ := hx q hq
          exact ⟨h1, h2⟩
      exact bodyPost_ret (results_obj Tryd.results25 NO.out _ w1.heap.size rfl _ _ N5.out rfl) rfl ⟨⟨⟨k, p, m, t, d, 0⟩, x1, xc1⟩, by rw [← HL.out], ⟨EN.out, ST.out, FR.out.1, fun q hq => .inr (FR.out.2 q hq)⟩, B5.out⟩

theorem node_any (hb : PB w g a cap gd gf Nd Nf Fd Ff us A) (hi : Inn S g a gd gf us) (y : MbS) (hy : MbF w y) (hA : A.length ≤ 1000) (hc : chR A y.n.e = 0) :
    Calls Tryd.prog 25 #[.pointer (some ⟨g, 0, none⟩), .agg (mbV y).toArray] w fun e w' => ∃ u, e = .returned (.agg (ndV u).toArray) ∧ Nw S w w' A y.n u ∧ Below w.heap.size w w' := by
  by_cases h3 : y.n.e.k = 3
  · exact node_lnk hb hi y hy hA hc h3
  · exact node_own hb.o y hy hA h3
end
end Go.Proofs.YtinmkgpmoclcoaaDoor.Reb
