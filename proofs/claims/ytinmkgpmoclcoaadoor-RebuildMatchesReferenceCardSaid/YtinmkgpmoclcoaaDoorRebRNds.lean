/-
  Layer 15: the reference's builder: Nodes. (gen_RebRNds.py writes it.)
-/
import Derived.Test.YtinmkgpmoclcoaaDoorPz13
import Derived.Test.YtinmkgpmoclcoaaDoorPz12
import Derived.Test.YtinmkgpmoclcoaaDoorPz14
import Derived.Test.YtinmkgpmoclcoaaDoorPz05
namespace Go.Proofs.YtinmkgpmoclcoaaDoor.Reb
open Go.RowKit Go.Proofs.YtinmkgpmoclcoaaDoor.Fit Pnm Tre Flt

theorem el_next {w0 w : World} {B j : Nat} {A : List Mb} {us : List NdS} {v : Value} {u : NdS} (h : ∀ i u, us[i]? = some u → u.n = ndOf A i ∧ NdF w0 u) (ho : w.ownsRow B 55 6 v j (ndCells us)) (hu : u.n = ndOf A j) (hf : NdF w0 u) :
    ∀ i z, (us ++ [u])[i]? = some z → z.n = ndOf A i ∧ NdF w0 z := by
  have hl : us.length = j := by have := ho.1; rw [ndCells_len] at this; omega
  intro i z hz
  by_cases hi : i < us.length
  · rw [List.getElem?_append_left hi] at hz; exact h i z hz
  · rw [List.getElem?_append_right (by omega)] at hz
    have : i - us.length = 0 := by
      have := (List.getElem?_eq_some_iff.mp hz).1
      simp at this; omega
    rw [this] at hz
    obtain rfl : u = z := by simpa using hz
    obtain rfl : i = j := by omega
    exact ⟨hu, hf⟩
theorem el_done {w0 w : World} {B n : Nat} {A : List Mb} {us : List NdS} {v : Value} (h : ∀ i u, us[i]? = some u → u.n = ndOf A i ∧ NdF w0 u) (ho : w.ownsRow B 55 6 v n (ndCells us)) (hn : A.length = n) : nds us = ndsOf A := by
  have hl : us.length = n := by have := ho.1; rw [ndCells_len] at this; omega
  refine List.ext_getElem? fun i => ?_
  by_cases hi : i < n
  · have e : us[i]? = some us[i] := List.getElem?_eq_getElem (by omega)
    rw [nds_at e, (h i _ e).1]
    unfold ndsOf
    rw [List.getElem?_map, List.getElem?_range (by omega)]; rfl
  · rw [List.getElem?_eq_none (by rw [nds_len]; omega), List.getElem?_eq_none (by rw [ndsOf_len]; omega)]

set_option maxRecDepth 100000 in
set_option maxHeartbeats 16000000 in
theorem rbnds_any (Post : World → Nat → List NdS → Ending → World → Prop) (HC : ∀ a n cap zs w, ArgNds w a n cap zs → n ≤ 40 → Calls Tryd.prog 21 #[.slice a n cap] w (Post w n zs)) (HR : ∀ w n zs e w', Post w n zs e w' → ∃ v, e = .returned v)
    (g : Nat) (a : Option Addr) (n cap : Nat) (ys : List MbS) (w : World) (hb : RBd w g a n cap ys) (hG : Gd (mms ys)) (h40 : n ≤ 40) :
    Calls Tryd.prog 18 #[.pointer (some ⟨g, 0, none⟩)] w fun e w' => ∃ us w1, nds us = ndsOf (mms ys) ∧ Below w.heap.size w w1 ∧ Post w1 n us e w' := by
  have HB := Lib.hid hb
  have GD := Lib.hid hG
  have H40 := Lib.hid h40
  have HCH : Hid (∀ a n cap zs w, ArgNds w a n cap zs → n ≤ 40 → Calls Tryd.prog 21 #[.slice a n cap] w (Post w n zs)) := HC
  have HRH : Hid (∀ w n zs e w', Post w n zs e w' → ∃ v, e = .returned v) := HR
  have HN : Hid ((mms ys).length = n) := by show _ = _; rw [mms_len]; exact hb.r.n
  have EO := Lib.hid enT
  have EZ := Lib.hid zEn
  have NZ := Lib.hid zNd
  have NO := Lib.hid ndT
  have IN : Hid ((Tryd.prog.info? 55).map (fun i => (i.zero, i.size)) = some (some (.agg (ndL 0 emp 0 emp none 0 0 0).toArray), 6)) := by show _ = _; kernel_rfl
  obtain ⟨i0, HI0⟩ := info_of (P := Tryd.prog) (e := 55) (z := .agg (ndL 0 emp 0 emp none 0 0 0).toArray) (s := 6) (b := 80) (by kernel_rfl)
  have S1 : Hid ((Tryd.prog.info? 3).map (·.size) = some 1) := by show _ = _; kernel_rfl
  have nc : (n : Int) ≤ cap := by have := hb.r.c; omega
  have n40 : (n : Int) ≤ 40 := by omega
  clear hb hG HC HR
  go_enter Tryd.func18, Tryd.ntmps18
  go_wp2_with fail
  go_loopw [4, 3] (fun i v wr => ∃ (j : Nat) (us : List NdS) (va : Option Addr) (vc : Nat), i = .int .i64 j ∧ v = .slice va j vc ∧ j ≤ n ∧ wr.ownsRow w.heap.size 55 6 (.slice va j vc) j (ndCells us) ∧ (∀ i u, us[i]? = some u → u.n = ndOf (mms ys) i ∧ NdF w u) ∧ Below w.heap.size w wr) (fun i _ _ => n - (intOf i).toNat)
  case atStart => exact ⟨0, [], none, 0, rfl, rfl, Nat.zero_le _, ⟨rfl, .inl ⟨rfl, rfl⟩⟩, (fun i u h => by simp at h), Below.refl _ _⟩
  case round =>
    obtain ⟨j, us, va, vc, rfl, rfl, hj, hro, hel, hW⟩ := hrel
    have RO := Lib.hid hro; have EL := Lib.hid hel; have HW := Lib.hid hW
    clear hro hel hW
    have HBR := Lib.hid (HB.out.below HW.out)
    have g0 := HBR.out.o.get 0 rfl
    by_cases hjn : j < n
    · obtain ⟨b, off, y, rfl, hbl, hy, hf, hat⟩ := HBR.out.r.get j hjn
      have JN := Lib.hid hjn; have AT := Lib.hid hat; have BL := Lib.hid hbl; have HY := Lib.hid hy
      have BW : Hid (w.heap.size ≤ wr.heap.size) := HW.out.size
      have EJ : Hid (ma (mms ys) j = y.n) := ma_some (mms_at hy)
      have FY : Hid (MbF w y) := HB.out.r.s _ (List.mem_of_getElem? hy)
      have j1 : (j : Int) < n := by omega
      have j2 : (j : Int) < cap := by omega
      clear hbl hy hf hat hjn hj
      obtain ⟨⟨⟨k, p, m, t, s⟩, d⟩, x, xc⟩ := y
      obtain ⟨L, hL⟩ := named d.length
      have HL : Hid (d.length = L) := hL.out.symm
      clear hL
      go_wp2_with (first | (refine wpList_load_part rfl 27 5 EO.out _ rfl b (off + j * 6) rfl (enV k p m t s) rfl (fun q u hu => AT.out j _ HY.out q u (by match q, hu with | 0, hu => exact hu | 1, hu => exact hu | 2, hu => exact hu | 3, hu => exact hu | 4, hu => exact hu)) ?_) | (refine wpList_alloc_obj rfl 27 rfl (enV 0 emp 0 emp 0) EZ.out ?_; intro w5 g5 b5; have G5 := Lib.hid g5; have B5 := Lib.hid b5; clear g5 b5) | (refine wpList_store_obj rfl 27 _ _ rfl wr.heap.size rfl (enV k p m t s) (enV 0 emp 0 emp 0) rfl 27 G5.out EO.out.2 rfl (en_one _ _ _ _ _) ?_; intro wz g6 t6; have G6 := Lib.hid g6; have B6 := Lib.hid (B5.out.trans (t6.below (Nat.le_refl _))); clear g6 t6))
      clear G5 B5 g0
      have ZW : Hid (wr.heap.size ≤ wz.heap.size) := B6.out.size
      have KS : Hid (∀ w', Below wz.heap.size wz w' → (fun w' : World => w'.cell? ⟨wr.heap.size, 0, none⟩ = some (.int .i64 k) ∧ w'.cell? ⟨wr.heap.size, 1, none⟩ = some (.string p) ∧ w'.cell? ⟨wr.heap.size, 2, none⟩ = some (.int .i64 m) ∧ w'.cell? ⟨wr.heap.size, 3, none⟩ = some (.string t) ∧ w'.cell? ⟨g, 0, none⟩ = some (.slice (some ⟨b, off, none⟩) n cap) ∧ w'.cell? ⟨b, off + j * 6 + 5, none⟩ = some (.slice x L xc)) w') := fun w' h =>
        ⟨(G6.out.below h G6.out.lt).get 0 rfl, (G6.out.below h G6.out.lt).get 1 rfl, (G6.out.below h G6.out.lt).get 2 rfl, (G6.out.below h G6.out.lt).get 3 rfl, (HBR.out.below (belT B6.out h)).o.get 0 rfl, by
          have := ((AT.out.below (belT B6.out h) BL.out).c HY.out).2.2.2.2.2
          rw [← HL.out]; exact this⟩
      have D0 : Hid (Below wz.heap.size wz wz.drew) := (Below.refl _ _).drew
      refine wp_region_held_drew (S := (fun w' : World => w'.cell? ⟨wr.heap.size, 0, none⟩ = some (.int .i64 k) ∧ w'.cell? ⟨wr.heap.size, 1, none⟩ = some (.string p) ∧ w'.cell? ⟨wr.heap.size, 2, none⟩ = some (.int .i64 m) ∧ w'.cell? ⟨wr.heap.size, 3, none⟩ = some (.string t) ∧ w'.cell? ⟨g, 0, none⟩ = some (.slice (some ⟨b, off, none⟩) n cap) ∧ w'.cell? ⟨b, off + j * 6 + 5, none⟩ = some (.slice x L xc))) (by kernel_rfl) (KS.out _ D0.out) (fun hHeld => ?_)
      refine wpAnyH_take (i := 0) (oi := { dst := some 25, op := Go.Op.fieldAddr 27 (Go.Operand.tmp 5) 0, type := 0, pos := "ref.go:66", after := #[], guard := none }) (v := ?_) rfl (by kernel_rfl) (by kernel_rfl) (by kernel_rfl) (fun _ _ _ h => h) (Or.inl ⟨by rfl, ?_⟩) (by assumption) ?_
      rotate_left 1
      focus ((intro wS hSw; (try dsimp only at hSw); go_simp) <;> (try with_reducible rfl))
      simp only [Act.put, List.setIfInBounds_toArray, List.set_cons_zero, List.set_cons_succ]
      refine wpAnyH_take (i := 1) (oi := { dst := some 26, op := Go.Op.load 3 (Go.Operand.tmp 25), type := 3, pos := "ref.go:66", after := #[{ on := 0, ground := Go.Ground.data }], guard := none }) (v := ?_) rfl (by kernel_rfl) (by kernel_rfl) (by kernel_rfl) (fun _ _ _ h => h) (Or.inl ⟨by rfl, ?_⟩) (by assumption) ?_
      rotate_left 1
      focus ((intro wS hSw; (try dsimp only at hSw); go_simp) <;> (try with_reducible rfl))
      simp only [Act.put, List.setIfInBounds_toArray, List.set_cons_zero, List.set_cons_succ]
      refine wpAnyH_take (i := 2) (oi := { dst := some 27, op := Go.Op.fieldAddr 27 (Go.Operand.tmp 5) 1, type := 0, pos := "ref.go:66", after := #[], guard := none }) (v := ?_) rfl (by kernel_rfl) (by kernel_rfl) (by kernel_rfl) (fun _ _ _ h => h) (Or.inl ⟨by rfl, ?_⟩) (by assumption) ?_
      rotate_left 1
      focus ((intro wS hSw; (try dsimp only at hSw); go_simp) <;> (try with_reducible rfl))
      simp only [Act.put, List.setIfInBounds_toArray, List.set_cons_zero, List.set_cons_succ]
      refine wpAnyH_take (i := 3) (oi := { dst := some 28, op := Go.Op.load 9 (Go.Operand.tmp 27), type := 9, pos := "ref.go:66", after := #[{ on := 2, ground := Go.Ground.data }], guard := none }) (v := ?_) rfl (by kernel_rfl) (by kernel_rfl) (by kernel_rfl) (fun _ _ _ h => h) (Or.inl ⟨by rfl, ?_⟩) (by assumption) ?_
      rotate_left 1
      focus ((intro wS hSw; (try dsimp only at hSw); go_simp) <;> (try with_reducible rfl))
      simp only [Act.put, List.setIfInBounds_toArray, List.set_cons_zero, List.set_cons_succ]
      refine wpAnyH_take (i := 4) (oi := { dst := some 29, op := Go.Op.fieldAddr 27 (Go.Operand.tmp 5) 2, type := 0, pos := "ref.go:66", after := #[], guard := none }) (v := ?_) rfl (by kernel_rfl) (by kernel_rfl) (by kernel_rfl) (fun _ _ _ h => h) (Or.inl ⟨by rfl, ?_⟩) (by assumption) ?_
      rotate_left 1
      focus ((intro wS hSw; (try dsimp only at hSw); go_simp) <;> (try with_reducible rfl))
      simp only [Act.put, List.setIfInBounds_toArray, List.set_cons_zero, List.set_cons_succ]
      refine wpAnyH_take (i := 5) (oi := { dst := some 30, op := Go.Op.load 3 (Go.Operand.tmp 29), type := 3, pos := "ref.go:66", after := #[{ on := 4, ground := Go.Ground.data }], guard := none }) (v := ?_) rfl (by kernel_rfl) (by kernel_rfl) (by kernel_rfl) (fun _ _ _ h => h) (Or.inl ⟨by rfl, ?_⟩) (by assumption) ?_
      rotate_left 1
      focus ((intro wS hSw; (try dsimp only at hSw); go_simp) <;> (try with_reducible rfl))
      simp only [Act.put, List.setIfInBounds_toArray, List.set_cons_zero, List.set_cons_succ]
      refine wpAnyH_take (i := 6) (oi := { dst := some 31, op := Go.Op.fieldAddr 27 (Go.Operand.tmp 5) 3, type := 0, pos := "ref.go:66", after := #[], guard := none }) (v := ?_) rfl (by kernel_rfl) (by kernel_rfl) (by kernel_rfl) (fun _ _ _ h => h) (Or.inl ⟨by rfl, ?_⟩) (by assumption) ?_
      rotate_left 1
      focus ((intro wS hSw; (try dsimp only at hSw); go_simp) <;> (try with_reducible rfl))
      simp only [Act.put, List.setIfInBounds_toArray, List.set_cons_zero, List.set_cons_succ]
      refine wpAnyH_take (i := 7) (oi := { dst := some 32, op := Go.Op.load 9 (Go.Operand.tmp 31), type := 9, pos := "ref.go:66", after := #[{ on := 6, ground := Go.Ground.data }], guard := none }) (v := ?_) rfl (by kernel_rfl) (by kernel_rfl) (by kernel_rfl) (fun _ _ _ h => h) (Or.inl ⟨by rfl, ?_⟩) (by assumption) ?_
      rotate_left 1
      focus ((intro wS hSw; (try dsimp only at hSw); go_simp) <;> (try with_reducible rfl))
      simp only [Act.put, List.setIfInBounds_toArray, List.set_cons_zero, List.set_cons_succ]
      refine wpAnyH_take (i := 8) (oi := { dst := some 33, op := Go.Op.move (Go.Operand.tmp 0), type := 37, pos := "ref.go:66", after := #[], guard := none }) (v := ?_) rfl (by kernel_rfl) (by kernel_rfl) (by kernel_rfl) (fun _ _ _ h => h) (Or.inl ⟨by rfl, ?_⟩) (by assumption) ?_
      rotate_left 1
      focus ((intro wS hSw; (try dsimp only at hSw); go_simp) <;> (try with_reducible rfl))
      simp only [Act.put, List.setIfInBounds_toArray, List.set_cons_zero, List.set_cons_succ]
      refine wpAnyH_take (i := 9) (oi := { dst := some 34, op := Go.Op.nilCheck (Go.Operand.tmp 33), type := 0, pos := "ref.go:66", after := #[{ on := 8, ground := Go.Ground.data }], guard := none }) (v := ?_) rfl (by kernel_rfl) (by kernel_rfl) (by kernel_rfl) (fun _ _ _ h => h) (Or.inl ⟨by rfl, ?_⟩) (by assumption) ?_
      rotate_left 1
      focus ((intro wS hSw; (try dsimp only at hSw); go_simp) <;> (try with_reducible rfl))
      simp only [Act.put, List.setIfInBounds_toArray, List.set_cons_zero, List.set_cons_succ]
      refine wpAnyH_take (i := 10) (oi := { dst := some 35, op := Go.Op.fieldAddr 39 (Go.Operand.tmp 34) 0, type := 0, pos := "ref.go:66", after := #[{ on := 9, ground := Go.Ground.data }], guard := none }) (v := ?_) rfl (by kernel_rfl) (by kernel_rfl) (by kernel_rfl) (fun _ _ _ h => h) (Or.inl ⟨by rfl, ?_⟩) (by assumption) ?_
      rotate_left 1
      focus ((intro wS hSw; (try dsimp only at hSw); go_simp) <;> (try with_reducible rfl))
      simp only [Act.put, List.setIfInBounds_toArray, List.set_cons_zero, List.set_cons_succ]
      refine wpAnyH_take (i := 11) (oi := { dst := some 36, op := Go.Op.load 22 (Go.Operand.tmp 35), type := 22, pos := "ref.go:66", after := #[{ on := 10, ground := Go.Ground.data }], guard := none }) (v := ?_) rfl (by kernel_rfl) (by kernel_rfl) (by kernel_rfl) (fun _ _ _ h => h) (Or.inl ⟨by rfl, ?_⟩) (by assumption) ?_
      rotate_left 1
      focus ((intro wS hSw; (try dsimp only at hSw); go_simp) <;> (try with_reducible rfl))
      simp only [Act.put, List.setIfInBounds_toArray, List.set_cons_zero, List.set_cons_succ]
      refine wpAnyH_take (i := 12) (oi := { dst := some 37, op := Go.Op.move (Go.Operand.tmp 4), type := 3, pos := "ref.go:66", after := #[], guard := none }) (v := ?_) rfl (by kernel_rfl) (by kernel_rfl) (by kernel_rfl) (fun _ _ _ h => h) (Or.inl ⟨by rfl, ?_⟩) (by assumption) ?_
      rotate_left 1
      focus ((intro wS hSw; (try dsimp only at hSw); go_simp) <;> (try with_reducible rfl))
      simp only [Act.put, List.setIfInBounds_toArray, List.set_cons_zero, List.set_cons_succ]
      refine wpAnyH_take (i := 13) (oi := { dst := some 38, op := Go.Op.indexAddr 22 (Go.Operand.tmp 36) (Go.Operand.tmp 37), type := 0, pos := "ref.go:66", after := #[{ on := 11, ground := Go.Ground.data }, { on := 12, ground := Go.Ground.data }], guard := none }) (v := ?_) rfl (by kernel_rfl) (by kernel_rfl) (by kernel_rfl) (fun _ _ _ h => h) (Or.inl ⟨by rfl, ?_⟩) (by assumption) ?_
      rotate_left 1
      focus ((intro wS hSw; (try dsimp only at hSw); go_simp) <;> (try with_reducible rfl))
      simp only [Act.put, List.setIfInBounds_toArray, List.set_cons_zero, List.set_cons_succ]
      refine wpAnyH_take (i := 14) (oi := { dst := some 39, op := Go.Op.fieldAddr 30 (Go.Operand.tmp 38) 1, type := 0, pos := "ref.go:66", after := #[{ on := 13, ground := Go.Ground.data }], guard := none }) (v := ?_) rfl (by kernel_rfl) (by kernel_rfl) (by kernel_rfl) (fun _ _ _ h => h) (Or.inl ⟨by rfl, ?_⟩) (by assumption) ?_
      rotate_left 1
      focus ((intro wS hSw; (try dsimp only at hSw); go_simp) <;> (try with_reducible rfl))
      simp only [Act.put, List.setIfInBounds_toArray, List.set_cons_zero, List.set_cons_succ]
      refine wpAnyH_take (i := 15) (oi := { dst := some 40, op := Go.Op.load 28 (Go.Operand.tmp 39), type := 28, pos := "ref.go:66", after := #[{ on := 14, ground := Go.Ground.data }], guard := none }) (v := ?_) rfl (by kernel_rfl) (by kernel_rfl) (by kernel_rfl) (fun _ _ _ h => h) (Or.inl ⟨by rfl, ?_⟩) (by assumption) ?_
      rotate_left 1
      focus ((intro wS hSw; (try dsimp only at hSw); go_simp) <;> (try with_reducible rfl))
      simp only [Act.put, List.setIfInBounds_toArray, List.set_cons_zero, List.set_cons_succ]
      refine wpAnyH_take (i := 16) (oi := { dst := some 41, op := Go.Op.build 55 #[(0, Go.Operand.tmp 26), (1, Go.Operand.tmp 28), (2, Go.Operand.tmp 30), (3, Go.Operand.tmp 32), (4, Go.Operand.tmp 40)], type := 55, pos := "ref.go:66", after := #[{ on := 1, ground := Go.Ground.data }, { on := 3, ground := Go.Ground.data }, { on := 5, ground := Go.Ground.data }, { on := 7, ground := Go.Ground.data }, { on := 15, ground := Go.Ground.data }], guard := none }) (v := ?_) rfl (by kernel_rfl) (by kernel_rfl) (by kernel_rfl) (fun _ _ _ h => h) (Or.inl ⟨by rfl, ?_⟩) (by assumption) ?_
      rotate_left 1
      focus ((intro wS hSw; (try dsimp only at hSw); go_simp) <;> (try with_reducible rfl))
      simp only [Act.put, List.setIfInBounds_toArray, List.set_cons_zero, List.set_cons_succ]
      refine wpAnyH_ready (rs := [17]) (by kernel_rfl) (by simp) ?_
      refine AllReadyH.cons (o := { dst := some 6, op := Go.Op.alloc 55, type := 0, pos := "ref.go:66", after := #[], guard := none }) rfl (fun K hK => ?_) AllReadyH.nil
      refine step_alloc_obj rfl 55 rfl (ndL 0 emp 0 emp none 0 0 0) NZ.out ?_
      intro z1 g1 b1
      have N1 : Hid (ObjAt z1 wz.heap.size 55 (ndL 0 emp 0 emp none 0 0 0)) := g1
      have D1 : Hid (Below wz.heap.size wz z1) := D0.out.trans (b1.mono (Nat.le_refl _))
      clear g1 b1
      refine hK.out _ _ (KS.out _ D1.out) (fun hHeld => ?_)
      clear hK K
      (try simp only [Act.put, List.setIfInBounds_toArray, List.set_cons_zero, List.set_cons_succ])
      refine wpAnyH_ready (rs := [18]) (by kernel_rfl) (by simp) ?_
      refine AllReadyH.cons (o := { dst := none, op := Go.Op.store 55 (Go.Operand.tmp 6) (Go.Operand.tmp 41), type := 0, pos := "ref.go:66", after := #[{ on := 17, ground := Go.Ground.data }, { on := 16, ground := Go.Ground.data }, { on := 0, ground := Go.Ground.phase }, { on := 1, ground := Go.Ground.phase }, { on := 2, ground := Go.Ground.phase }, { on := 3, ground := Go.Ground.phase }, { on := 4, ground := Go.Ground.phase }, { on := 5, ground := Go.Ground.phase }, { on := 6, ground := Go.Ground.phase }, { on := 7, ground := Go.Ground.phase }, { on := 8, ground := Go.Ground.phase }, { on := 9, ground := Go.Ground.phase }, { on := 10, ground := Go.Ground.phase }, { on := 11, ground := Go.Ground.phase }, { on := 12, ground := Go.Ground.phase }, { on := 13, ground := Go.Ground.phase }, { on := 14, ground := Go.Ground.phase }, { on := 15, ground := Go.Ground.phase }, { on := 16, ground := Go.Ground.phase }, { on := 17, ground := Go.Ground.phase }], guard := none }) rfl (fun K hK => ?_) AllReadyH.nil
      refine step_store_obj rfl 55 (.tmp 6) (.tmp 41) rfl wz.heap.size rfl (ndL k p m t x L xc 0) (ndL 0 emp 0 emp none 0 0 0) rfl 55 N1.out NO.out.2 rfl (nd_one _ _ _ _ _ _ _ _) ?_
      intro z2 g2 t2
      have N2 : Hid (ObjAt z2 wz.heap.size 55 (ndL k p m t x L xc 0)) := g2
      have D2 : Hid (Below wz.heap.size wz z2) := D1.out.trans (t2.below (Nat.le_refl _))
      clear g2 t2
      refine hK.out _ _ (KS.out _ D2.out) (fun hHeld => ?_)
      clear hK K
      (try simp only [Act.put])
      refine wpAnyH_done (by kernel_rfl) ?_ _
      have B2 := Lib.hid (belT B6.out D2.out)
      have G2 := Lib.hid (G6.out.below D2.out G6.out.lt)
      have e0 := G2.out.get 0 rfl; have e3 := G2.out.get 3 rfl
      clear KS hHeld N1 D1
      by_cases k1 : k = 1
      · subst k1
        have n1 : ((1 : Int) == 1) = true := by simp
        have EU : Hid ((⟨1, p, m, t, d, (j : Int) + 1⟩ : Nd) = ndOf (mms ys) j) := by
          show _ = _
          unfold ndOf
          rw [EJ.out, if_neg (show ¬ (1 : Int) = 3 by decide), if_pos rfl]
        have FU : Hid (NdF w ⟨⟨1, p, m, t, d, (j : Int) + 1⟩, x, xc⟩) := ⟨FY.out.k, FY.out.p, FY.out.m, FY.out.t, FY.out.d, FY.out.l, (show (Lit.int .i64 ((j : Int) + 1)).wf = true from wf1 (by omega) (by have := JN.out; have := H40.out; omega))⟩
        go_wp2_with (first | (refine wpList_store_cell rfl 3 _ _ rfl wz.heap.size 5 rfl (.int .i64 ((j : Int) + 1)) rfl rfl S1.out 55 _ N2.out (by show 5 < 6; decide) ?_; intro z3 g3 t3; have N4 : Hid (ObjAt z3 wz.heap.size 55 (ndL 1 p m t x L xc ((j : Int) + 1))) := g3; have B4 : Hid (Below wr.heap.size wr z3) := B2.out.trans (t3.below ZW.out); have G4 := Lib.hid (G2.out.turnB t3 (Nat.ne_of_lt G6.out.lt)); have e0 := G4.out.get 0 rfl; have RZ := Lib.hid (own_stay' RO.out B4.out (Nat.le_refl _)); clear g3 t3) | (refine wpList_load_obj rfl 55 6 NO.out _ rfl wz.heap.size rfl 55 (ndL 1 p m t x L xc ((j : Int) + 1)) N4.out rfl ?_) | (refine wpList_lit_nd1 rfl 32 55 _ rfl Tryd.underlying32 _ IN.out ⟨⟨1, p, m, t, d, (j : Int) + 1⟩, x, xc⟩ (by show _ = Value.agg (ndL 1 p m t x d.length xc ((j : Int) + 1)).toArray; rw [HL.out]; rfl) ?_; intro z8 g8 b8; have G8 := Lib.hid g8; have B8 := Lib.hid (belT B4.out b8); have RY := Lib.hid (own_stay' RZ.out b8 (Nat.le_refl _)); clear g8 b8) | (at_builtin; refine wpList_append_nds rfl _ _ 32 rfl 55 w.heap.size i0 _ Tryd.underlying32 HI0 rfl (.slice va j vc) j us rfl RY.out _ 1 1 [⟨⟨1, p, m, t, d, (j : Int) + 1⟩, x, xc⟩] rfl (.inr ⟨_, 0, rfl, G8.out.lt, .of_cells G8.out⟩) rfl (by have := JN.out; have := H40.out; omega) (Nat.le_trans BW.out B8.out.size) ?_; intro v9 z9 g9 b9 _ _; obtain ⟨va', vc', rfl, R9⟩ : ∃ va' vc', v9 = .slice va' (j + 1) vc' ∧ Hid (z9.ownsRow w.heap.size 55 6 v9 (j + 1) (ndCells (us ++ [⟨⟨1, p, m, t, d, (j : Int) + 1⟩, x, xc⟩]))) := (by obtain ⟨q1, q2, hq, _⟩ := NdsIn.of_own g9; exact ⟨q1, q2, hq, g9⟩); have B9 := Lib.hid ((HW.out.trans (B8.out.mono BW.out)).trans b9); clear g9 b9))
        go_round
        case rel => exact ⟨j + 1, us ++ [⟨⟨1, p, m, t, d, (j : Int) + 1⟩, x, xc⟩], va', vc', by go_num, rfl, by have := JN.out; omega, R9.out, el_next EL.out RO.out EU.out FU.out, B9.out⟩
        case measure => simp [intOf]; have := JN.out; omega
      · have n1 : (k == 1) = false := by simpa using k1
        by_cases k3 : k = 3
        · subst k3
          obtain ⟨r, hr, hr1, hr2, hr3, hr4⟩ := GD.out.file (by rw [HN.out]; exact JN.out) (by rw [EJ.out])
          rw [EJ.out] at hr4
          have hrn : r < n := by have := JN.out; omega
          obtain ⟨yr, hyr⟩ : ∃ yr, ys[r]? = some yr := ⟨_, List.getElem?_eq_getElem (by rw [HB.out.r.n]; exact hrn)⟩
          have FR : Hid (MbF w yr) := HB.out.r.s _ (List.mem_of_getElem? hyr)
          have ER : Hid (ma (mms ys) r = yr.n) := ma_some (mms_at hyr)
          have HYR := Lib.hid hyr
          have r1 : (r : Int) < n := by omega
          have r2 : (r : Int) < cap := by omega
          have r3 : (r : Int) ≤ 40 := by omega
          obtain ⟨⟨⟨kr, pr, mr, tr, sr⟩, dr⟩, xr, xrc⟩ := yr
          obtain ⟨Lr, hLr⟩ := named dr.length
          have HLR : Hid (dr.length = Lr) := hLr.out.symm
          have EU : Hid ((⟨1, p, m, emp, dr, (r : Int) + 1⟩ : Nd) = ndOf (mms ys) j) := by
            show _ = _
            unfold ndOf
            rw [EJ.out, if_pos rfl]
            dsimp only
            rw [show fnd (mms ys) 1 t = some r from hr4]
            dsimp only
            rw [ER.out]
          have FU : Hid (NdF w ⟨⟨1, p, m, emp, dr, (r : Int) + 1⟩, xr, xrc⟩) := ⟨(show (Lit.int .i64 1).wf = true by decide), FY.out.p, FY.out.m, (by show emp.size ≤ _; decide), FR.out.d, FR.out.l, (show (Lit.int .i64 ((r : Int) + 1)).wf = true from wf1 (by omega) (by omega))⟩
          have FZ : Hid (fz (mms ys) 1 t = (r : Int)) := by show _ = _; unfold fz; rw [show fnd (mms ys) 1 t = some r from hr4]
          have FT := Lib.hid (rfind_any g _ n cap ys 1 t z2 (HBR.out.below B2.out))
          rw [FZ.out] at FT
          have KT : Hid (∀ w', Below wz.heap.size wz w' → (fun w' : World => w'.cell? ⟨wr.heap.size, 1, none⟩ = some (.string p) ∧ w'.cell? ⟨wr.heap.size, 2, none⟩ = some (.int .i64 m) ∧ w'.cell? ⟨g, 0, none⟩ = some (.slice (some ⟨b, off, none⟩) n cap) ∧ w'.cell? ⟨b, off + r * 6 + 5, none⟩ = some (.slice xr Lr xrc)) w') := fun w' h =>
            ⟨(G6.out.below h G6.out.lt).get 1 rfl, (G6.out.below h G6.out.lt).get 2 rfl, (HBR.out.below (belT B6.out h)).o.get 0 rfl, by
              have := ((AT.out.below (belT B6.out h) BL.out).c HYR.out).2.2.2.2.2
              rw [← HLR.out]; exact this⟩
          have N3 := Lib.hid N2.out
          have D3 : Hid (Below wz.heap.size wz z2.drew) := D2.out.drew
          have B3 : Hid (Below wr.heap.size wr z2.drew) := B2.out.drew
          have WR : IntKind.i64.wrap ((r : Int) + 1) = (r : Int) + 1 := by rw [show (r : Int) + 1 = ((r + 1 : Nat) : Int) by omega]; exact wrapI (by omega) (by omega)
          clear hr hr1 hr2 hr3 hr4 hrn hyr hLr n1
          go_wp2_with fail
          refine FT.out.mono ?_; rintro e w4 ⟨rfl, rfl⟩
          clear FT
          go_wp2_with fail
          refine wp_region_held_drew (S := (fun w' : World => w'.cell? ⟨wr.heap.size, 1, none⟩ = some (.string p) ∧ w'.cell? ⟨wr.heap.size, 2, none⟩ = some (.int .i64 m) ∧ w'.cell? ⟨g, 0, none⟩ = some (.slice (some ⟨b, off, none⟩) n cap) ∧ w'.cell? ⟨b, off + r * 6 + 5, none⟩ = some (.slice xr Lr xrc))) (by kernel_rfl) (KT.out _ D2.out.drew) (fun hHeld => ?_)
          refine wpAnyH_take (i := 0) (oi := { dst := some 55, op := Go.Op.fieldAddr 27 (Go.Operand.tmp 5) 1, type := 0, pos := "ref.go:72", after := #[], guard := none }) (v := ?_) rfl (by kernel_rfl) (by kernel_rfl) (by kernel_rfl) (fun _ _ _ h => h) (Or.inl ⟨by rfl, ?_⟩) (by assumption) ?_
          rotate_left 1
          focus ((intro wS hSw; (try dsimp only at hSw); go_simp) <;> (try with_reducible rfl))
          simp only [Act.put, List.setIfInBounds_toArray, List.set_cons_zero, List.set_cons_succ]
          refine wpAnyH_take (i := 1) (oi := { dst := some 56, op := Go.Op.load 9 (Go.Operand.tmp 55), type := 9, pos := "ref.go:72", after := #[{ on := 0, ground := Go.Ground.data }], guard := none }) (v := ?_) rfl (by kernel_rfl) (by kernel_rfl) (by kernel_rfl) (fun _ _ _ h => h) (Or.inl ⟨by rfl, ?_⟩) (by assumption) ?_
          rotate_left 1
          focus ((intro wS hSw; (try dsimp only at hSw); go_simp) <;> (try with_reducible rfl))
          simp only [Act.put, List.setIfInBounds_toArray, List.set_cons_zero, List.set_cons_succ]
          refine wpAnyH_take (i := 2) (oi := { dst := some 57, op := Go.Op.fieldAddr 27 (Go.Operand.tmp 5) 2, type := 0, pos := "ref.go:72", after := #[], guard := none }) (v := ?_) rfl (by kernel_rfl) (by kernel_rfl) (by kernel_rfl) (fun _ _ _ h => h) (Or.inl ⟨by rfl, ?_⟩) (by assumption) ?_
          rotate_left 1
          focus ((intro wS hSw; (try dsimp only at hSw); go_simp) <;> (try with_reducible rfl))
          simp only [Act.put, List.setIfInBounds_toArray, List.set_cons_zero, List.set_cons_succ]
          refine wpAnyH_take (i := 3) (oi := { dst := some 58, op := Go.Op.load 3 (Go.Operand.tmp 57), type := 3, pos := "ref.go:72", after := #[{ on := 2, ground := Go.Ground.data }], guard := none }) (v := ?_) rfl (by kernel_rfl) (by kernel_rfl) (by kernel_rfl) (fun _ _ _ h => h) (Or.inl ⟨by rfl, ?_⟩) (by assumption) ?_
          rotate_left 1
          focus ((intro wS hSw; (try dsimp only at hSw); go_simp) <;> (try with_reducible rfl))
          simp only [Act.put, List.setIfInBounds_toArray, List.set_cons_zero, List.set_cons_succ]
          refine wpAnyH_take (i := 4) (oi := { dst := some 59, op := Go.Op.move (Go.Operand.tmp 0), type := 37, pos := "ref.go:72", after := #[], guard := none }) (v := ?_) rfl (by kernel_rfl) (by kernel_rfl) (by kernel_rfl) (fun _ _ _ h => h) (Or.inl ⟨by rfl, ?_⟩) (by assumption) ?_
          rotate_left 1
          focus ((intro wS hSw; (try dsimp only at hSw); go_simp) <;> (try with_reducible rfl))
          simp only [Act.put, List.setIfInBounds_toArray, List.set_cons_zero, List.set_cons_succ]
          refine wpAnyH_take (i := 5) (oi := { dst := some 60, op := Go.Op.nilCheck (Go.Operand.tmp 59), type := 0, pos := "ref.go:72", after := #[{ on := 4, ground := Go.Ground.data }], guard := none }) (v := ?_) rfl (by kernel_rfl) (by kernel_rfl) (by kernel_rfl) (fun _ _ _ h => h) (Or.inl ⟨by rfl, ?_⟩) (by assumption) ?_
          rotate_left 1
          focus ((intro wS hSw; (try dsimp only at hSw); go_simp) <;> (try with_reducible rfl))
          simp only [Act.put, List.setIfInBounds_toArray, List.set_cons_zero, List.set_cons_succ]
          refine wpAnyH_take (i := 6) (oi := { dst := some 61, op := Go.Op.fieldAddr 39 (Go.Operand.tmp 60) 0, type := 0, pos := "ref.go:72", after := #[{ on := 5, ground := Go.Ground.data }], guard := none }) (v := ?_) rfl (by kernel_rfl) (by kernel_rfl) (by kernel_rfl) (fun _ _ _ h => h) (Or.inl ⟨by rfl, ?_⟩) (by assumption) ?_
          rotate_left 1
          focus ((intro wS hSw; (try dsimp only at hSw); go_simp) <;> (try with_reducible rfl))
          simp only [Act.put, List.setIfInBounds_toArray, List.set_cons_zero, List.set_cons_succ]
          refine wpAnyH_take (i := 7) (oi := { dst := some 62, op := Go.Op.load 22 (Go.Operand.tmp 61), type := 22, pos := "ref.go:72", after := #[{ on := 6, ground := Go.Ground.data }], guard := none }) (v := ?_) rfl (by kernel_rfl) (by kernel_rfl) (by kernel_rfl) (fun _ _ _ h => h) (Or.inl ⟨by rfl, ?_⟩) (by assumption) ?_
          rotate_left 1
          focus ((intro wS hSw; (try dsimp only at hSw); go_simp) <;> (try with_reducible rfl))
          simp only [Act.put, List.setIfInBounds_toArray, List.set_cons_zero, List.set_cons_succ]
          refine wpAnyH_take (i := 8) (oi := { dst := some 63, op := Go.Op.move (Go.Operand.tmp 7), type := 3, pos := "ref.go:72", after := #[], guard := none }) (v := ?_) rfl (by kernel_rfl) (by kernel_rfl) (by kernel_rfl) (fun _ _ _ h => h) (Or.inl ⟨by rfl, ?_⟩) (by assumption) ?_
          rotate_left 1
          focus ((intro wS hSw; (try dsimp only at hSw); go_simp) <;> (try with_reducible rfl))
          simp only [Act.put, List.setIfInBounds_toArray, List.set_cons_zero, List.set_cons_succ]
          refine wpAnyH_take (i := 9) (oi := { dst := some 64, op := Go.Op.indexAddr 22 (Go.Operand.tmp 62) (Go.Operand.tmp 63), type := 0, pos := "ref.go:72", after := #[{ on := 7, ground := Go.Ground.data }, { on := 8, ground := Go.Ground.data }], guard := none }) (v := ?_) rfl (by kernel_rfl) (by kernel_rfl) (by kernel_rfl) (fun _ _ _ h => h) (Or.inl ⟨by rfl, ?_⟩) (by assumption) ?_
          rotate_left 1
          focus ((intro wS hSw; (try dsimp only at hSw); go_simp) <;> (try with_reducible rfl))
          simp only [Act.put, List.setIfInBounds_toArray, List.set_cons_zero, List.set_cons_succ]
          refine wpAnyH_take (i := 10) (oi := { dst := some 65, op := Go.Op.fieldAddr 30 (Go.Operand.tmp 64) 1, type := 0, pos := "ref.go:72", after := #[{ on := 9, ground := Go.Ground.data }], guard := none }) (v := ?_) rfl (by kernel_rfl) (by kernel_rfl) (by kernel_rfl) (fun _ _ _ h => h) (Or.inl ⟨by rfl, ?_⟩) (by assumption) ?_
          rotate_left 1
          focus ((intro wS hSw; (try dsimp only at hSw); go_simp) <;> (try with_reducible rfl))
          simp only [Act.put, List.setIfInBounds_toArray, List.set_cons_zero, List.set_cons_succ]
          refine wpAnyH_take (i := 11) (oi := { dst := some 66, op := Go.Op.load 28 (Go.Operand.tmp 65), type := 28, pos := "ref.go:72", after := #[{ on := 10, ground := Go.Ground.data }], guard := none }) (v := ?_) rfl (by kernel_rfl) (by kernel_rfl) (by kernel_rfl) (fun _ _ _ h => h) (Or.inl ⟨by rfl, ?_⟩) (by assumption) ?_
          rotate_left 1
          focus ((intro wS hSw; (try dsimp only at hSw); go_simp) <;> (try with_reducible rfl))
          simp only [Act.put, List.setIfInBounds_toArray, List.set_cons_zero, List.set_cons_succ]
          refine wpAnyH_take (i := 12) (oi := { dst := some 67, op := Go.Op.move (Go.Operand.tmp 7), type := 3, pos := "ref.go:72", after := #[], guard := none }) (v := ?_) rfl (by kernel_rfl) (by kernel_rfl) (by kernel_rfl) (fun _ _ _ h => h) (Or.inl ⟨by rfl, ?_⟩) (by assumption) ?_
          rotate_left 1
          focus ((intro wS hSw; (try dsimp only at hSw); go_simp) <;> (try with_reducible rfl))
          simp only [Act.put, List.setIfInBounds_toArray, List.set_cons_zero, List.set_cons_succ]
          refine wpAnyH_take (i := 13) (oi := { dst := some 68, op := Go.Op.binOp Go.BinOp.add 3 (Go.Operand.tmp 67) (Go.Operand.const (Go.Value.int Go.IntKind.i64 1)) 3, type := 3, pos := "ref.go:72", after := #[{ on := 12, ground := Go.Ground.data }], guard := none }) (v := ?_) rfl (by kernel_rfl) (by kernel_rfl) (by kernel_rfl) (fun _ _ _ h => h) (Or.inl ⟨by rfl, ?_⟩) (by assumption) ?_
          rotate_left 1
          focus ((intro wS hSw; (try dsimp only at hSw); go_simp) <;> (try with_reducible rfl))
          simp only [Act.put, List.setIfInBounds_toArray, List.set_cons_zero, List.set_cons_succ]
          refine wpAnyH_take (i := 14) (oi := { dst := some 69, op := Go.Op.build 55 #[(0, Go.Operand.const (Go.Value.int Go.IntKind.i64 1)), (1, Go.Operand.tmp 56), (2, Go.Operand.tmp 58), (4, Go.Operand.tmp 66), (5, Go.Operand.tmp 68)], type := 55, pos := "ref.go:72", after := #[{ on := 1, ground := Go.Ground.data }, { on := 3, ground := Go.Ground.data }, { on := 11, ground := Go.Ground.data }, { on := 13, ground := Go.Ground.data }], guard := none }) (v := ?_) rfl (by kernel_rfl) (by kernel_rfl) (by kernel_rfl) (fun _ _ _ h => h) (Or.inl ⟨by rfl, ?_⟩) (by assumption) ?_
          rotate_left 1
          focus ((intro wS hSw; (try dsimp only at hSw); go_simp) <;> (try with_reducible rfl))
          simp only [Act.put, List.setIfInBounds_toArray, List.set_cons_zero, List.set_cons_succ]
          refine wpAnyH_ready (rs := [15]) (by kernel_rfl) (by simp) ?_
          refine AllReadyH.cons (o := { dst := none, op := Go.Op.store 55 (Go.Operand.tmp 6) (Go.Operand.tmp 69), type := 0, pos := "ref.go:72", after := #[{ on := 14, ground := Go.Ground.data }, { on := 0, ground := Go.Ground.phase }, { on := 1, ground := Go.Ground.phase }, { on := 2, ground := Go.Ground.phase }, { on := 3, ground := Go.Ground.phase }, { on := 4, ground := Go.Ground.phase }, { on := 5, ground := Go.Ground.phase }, { on := 6, ground := Go.Ground.phase }, { on := 7, ground := Go.Ground.phase }, { on := 8, ground := Go.Ground.phase }, { on := 9, ground := Go.Ground.phase }, { on := 10, ground := Go.Ground.phase }, { on := 11, ground := Go.Ground.phase }, { on := 12, ground := Go.Ground.phase }, { on := 13, ground := Go.Ground.phase }, { on := 14, ground := Go.Ground.phase }], guard := none }) rfl (fun K hK => ?_) AllReadyH.nil
          refine step_store_obj rfl 55 (.tmp 6) (.tmp 69) rfl wz.heap.size rfl (ndL 1 p m emp xr Lr xrc ((r : Int) + 1)) (ndL 3 p m t x L xc 0) rfl 55 N3.out NO.out.2 rfl (nd_one _ _ _ _ _ _ _ _) ?_
          intro z3 g3 t3
          have N4 : Hid (ObjAt z3 wz.heap.size 55 (ndL 1 p m emp xr Lr xrc ((r : Int) + 1))) := g3
          have B4 : Hid (Below wr.heap.size wr z3) := B3.out.trans (Below.mono (t3.below (Nat.le_refl _)) ZW.out)
          have ks3 : (fun w' : World => w'.cell? ⟨wr.heap.size, 1, none⟩ = some (.string p) ∧ w'.cell? ⟨wr.heap.size, 2, none⟩ = some (.int .i64 m) ∧ w'.cell? ⟨g, 0, none⟩ = some (.slice (some ⟨b, off, none⟩) n cap) ∧ w'.cell? ⟨b, off + r * 6 + 5, none⟩ = some (.slice xr Lr xrc)) z3 := KT.out _ (D3.out.trans (t3.below (Nat.le_refl _)))
          clear g3 t3
          refine hK.out _ _ (ks3) (fun hHeld => ?_)
          clear hK K
          (try simp only [Act.put])
          refine wpAnyH_done (by kernel_rfl) ?_ _
          have RZ := Lib.hid (own_stay' RO.out B4.out (Nat.le_refl _))
          go_wp2_with (first | (refine wpList_load_obj rfl 55 6 NO.out _ rfl wz.heap.size rfl 55 (ndL 1 p m emp xr Lr xrc ((r : Int) + 1)) N4.out rfl ?_) | (refine wpList_lit_nd1 rfl 32 55 _ rfl Tryd.underlying32 _ IN.out ⟨⟨1, p, m, emp, dr, (r : Int) + 1⟩, xr, xrc⟩ (by show _ = Value.agg (ndL 1 p m emp xr dr.length xrc ((r : Int) + 1)).toArray; rw [HLR.out]; rfl) ?_; intro z8 g8 b8; have G8 := Lib.hid g8; have B8 := Lib.hid (belT B4.out b8); have RY := Lib.hid (own_stay' RZ.out b8 (Nat.le_refl _)); clear g8 b8) | (at_builtin; refine wpList_append_nds rfl _ _ 32 rfl 55 w.heap.size i0 _ Tryd.underlying32 HI0 rfl (.slice va j vc) j us rfl RY.out _ 1 1 [⟨⟨1, p, m, emp, dr, (r : Int) + 1⟩, xr, xrc⟩] rfl (.inr ⟨_, 0, rfl, G8.out.lt, .of_cells G8.out⟩) rfl (by have := JN.out; have := H40.out; omega) (Nat.le_trans BW.out B8.out.size) ?_; intro v9 z9 g9 b9 _ _; obtain ⟨va', vc', rfl, R9⟩ : ∃ va' vc', v9 = .slice va' (j + 1) vc' ∧ Hid (z9.ownsRow w.heap.size 55 6 v9 (j + 1) (ndCells (us ++ [⟨⟨1, p, m, emp, dr, (r : Int) + 1⟩, xr, xrc⟩]))) := (by obtain ⟨q1, q2, hq, _⟩ := NdsIn.of_own g9; exact ⟨q1, q2, hq, g9⟩); have B9 := Lib.hid ((HW.out.trans (B8.out.mono BW.out)).trans b9); clear g9 b9))
          go_round
          case rel => exact ⟨j + 1, us ++ [⟨⟨1, p, m, emp, dr, (r : Int) + 1⟩, xr, xrc⟩], va', vc', by go_num, rfl, by have := JN.out; omega, R9.out, el_next EL.out RO.out EU.out FU.out, B9.out⟩
          case measure => simp [intOf]; have := JN.out; omega
        · have n3 : (k == 3) = false := by simpa using k3
          have EU : Hid ((⟨k, p, m, t, d, 0⟩ : Nd) = ndOf (mms ys) j) := by
            show _ = _
            unfold ndOf
            rw [EJ.out, if_neg k3, if_neg k1]
          have FU : Hid (NdF w ⟨⟨k, p, m, t, d, 0⟩, x, xc⟩) := ⟨FY.out.k, FY.out.p, FY.out.m, FY.out.t, FY.out.d, FY.out.l, (show (Lit.int .i64 0).wf = true by decide)⟩
          clear k1 k3
          have RZ := Lib.hid (own_stay' RO.out B2.out (Nat.le_refl _))
          go_wp2_with (first | (refine wpList_load_obj rfl 55 6 NO.out _ rfl wz.heap.size rfl 55 (ndL k p m t x L xc 0) N2.out rfl ?_) | (refine wpList_lit_nd1 rfl 32 55 _ rfl Tryd.underlying32 _ IN.out ⟨⟨k, p, m, t, d, 0⟩, x, xc⟩ (by show _ = Value.agg (ndL k p m t x d.length xc 0).toArray; rw [HL.out]; rfl) ?_; intro z8 g8 b8; have G8 := Lib.hid g8; have B8 := Lib.hid (belT B2.out b8); have RY := Lib.hid (own_stay' RZ.out b8 (Nat.le_refl _)); clear g8 b8) | (at_builtin; refine wpList_append_nds rfl _ _ 32 rfl 55 w.heap.size i0 _ Tryd.underlying32 HI0 rfl (.slice va j vc) j us rfl RY.out _ 1 1 [⟨⟨k, p, m, t, d, 0⟩, x, xc⟩] rfl (.inr ⟨_, 0, rfl, G8.out.lt, .of_cells G8.out⟩) rfl (by have := JN.out; have := H40.out; omega) (Nat.le_trans BW.out B8.out.size) ?_; intro v9 z9 g9 b9 _ _; obtain ⟨va', vc', rfl, R9⟩ : ∃ va' vc', v9 = .slice va' (j + 1) vc' ∧ Hid (z9.ownsRow w.heap.size 55 6 v9 (j + 1) (ndCells (us ++ [⟨⟨k, p, m, t, d, 0⟩, x, xc⟩]))) := (by obtain ⟨q1, q2, hq, _⟩ := NdsIn.of_own g9; exact ⟨q1, q2, hq, g9⟩); have B9 := Lib.hid ((HW.out.trans (B8.out.mono BW.out)).trans b9); clear g9 b9))
          go_round
          case rel => exact ⟨j + 1, us ++ [⟨⟨k, p, m, t, d, 0⟩, x, xc⟩], va', vc', by go_num, rfl, by have := JN.out; omega, R9.out, el_next EL.out RO.out EU.out FU.out, B9.out⟩
          case measure => simp [intOf]; have := JN.out; omega
    · obtain rfl : j = n := by omega
      obtain ⟨va', vc', e, hA⟩ := ArgNds.of_own RO.out (fun u hu => by
        obtain ⟨i, hi, rfl⟩ := List.getElem_of_mem hu
        exact (EL.out i _ (List.getElem?_eq_getElem hi)).2.below HW.out)
      injection e with e1 _ e3
      subst e1; subst e3
      have EN : Hid (nds us = ndsOf (mms ys)) := el_done EL.out RO.out HN.out
      have CC := Lib.hid (HCH.out _ _ _ _ wr hA H40.out)
      clear hA hj hjn
      go_wp2_with fail
      refine CC.out.mono ?_
      intro e w4 hp
      obtain ⟨v, rfl⟩ := HRH.out _ _ _ _ _ hp
      have HP := Lib.hid hp
      clear hp
      go_wp2_with fail
      go_ret
      exact ⟨us, _, EN.out, HW.out, HP.out⟩
end Go.Proofs.YtinmkgpmoclcoaaDoor.Reb
