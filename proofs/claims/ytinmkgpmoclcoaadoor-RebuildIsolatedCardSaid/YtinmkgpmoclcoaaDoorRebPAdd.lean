/-
  Layer 15: the program's Add. (gen_RebPAdd.py writes it.)
-/
import Derived.Test.YtinmkgpmoclcoaaDoorRebPM
import Derived.Test.YtinmkgpmoclcoaaDoorRebPChk
import Derived.Test.YtinmkgpmoclcoaaDoorRebRAdd
import Derived.Test.YtinmkgpmoclcoaaDoorMapStep
import Derived.Test.YtinmkgpmoclcoaaDoorPz14
namespace Go.Proofs.YtinmkgpmoclcoaaDoor.Reb
open Go.RowKit Go.MapKept Go.Proofs.YtinmkgpmoclcoaaDoor.Fit Pnm Tre Flt

/-- what the program's Add leaves -/
def AddQ (w : World) (S : Nat → Prop) (g : Nat) (A : List Mb) (y : Mb) (e : Ending) (w' : World) : Prop :=
  ∃ X, e = .returned (.int .i64 X) ∧ X = adR A y ∧ Only S w w' ∧ PBd w' (Grow S w w') g (if X = 0 then A ++ [y] else A)
theorem PBd.mono {w : World} {S T : Nat → Prop} {g : Nat} {A : List Mb} (h : PBd w S g A) (hST : ∀ k, S k → T k) (hT : ∀ k, T k → k < w.heap.size) : PBd w T g A := by
  obtain ⟨a, cap, gd, gf, n1, n2, Fd, Ff, us, h1, h2, h3⟩ := h
  exact ⟨a, cap, gd, gf, n1, n2, Fd, Ff, us, h1, h2.mono hST, hT⟩
theorem PBd.grow {w w' : World} {S : Nat → Prop} {g : Nat} {A : List Mb} (h : PBd w S g A) (hb : Below w.heap.size w w') : PBd w' (Grow S w w') g A :=
  (h.below hb).mono (fun _ hk => .inl hk) fun k hk => hk.elim (fun h1 => Nat.lt_of_lt_of_le (h.lt k h1) hb.size) fun h1 => h1.2

set_option maxHeartbeats 1000000 in
theorem pbadd_nil (y : MbS) (w : World) : Calls Tryd.prog 9 #[.pointer none, .agg (mbV y).toArray] w fun e w' => e = .returned (.int .i64 1) ∧ Below w.heap.size w w' := by
  obtain ⟨⟨⟨k, p, m, t, s⟩, d⟩, x, xc⟩ := y
  obtain ⟨L, hL⟩ := named d.length
  have EO := Lib.hid enT
  show Calls _ _ #[_, .agg (mbC k p m t s x d.length xc).toArray] _ _
  rw [← hL.out]
  go_enter Tryd.func9, Tryd.ntmps9
  go_wp2_with (first | (refine wpList_box_obj rfl 30 _ rfl (mbC k p m t s x L xc) rfl ?_; intro w1 g1 b1; have G1 := Lib.hid g1; have B1 := Lib.hid b1; clear g1 b1) | (refine wpList_load_part rfl 27 5 EO.out _ rfl w.heap.size 0 rfl (enV k p m t s) rfl (fun j u hj => by rw [Nat.zero_add, G1.out.cell]; match j, hj with | 0, hj => exact hj | 1, hj => exact hj | 2, hj => exact hj | 3, hj => exact hj | 4, hj => exact hj) ?_))
  refine (pbchk_nil k p m t s w1).mono ?_; rintro e w2 ⟨rfl, b2⟩
  have B2 := Lib.hid (belT B1.out b2)
  clear b2
  go_wp2_with fail
  go_ret
  exact ⟨rfl, B2.out⟩

set_option maxRecDepth 100000 in
set_option maxHeartbeats 16000000 in
theorem pbadd_any {w : World} {S : Nat → Prop} {g : Nat} {A : List Mb} (hb : PBd w S g A) (V : FVars w) (y : MbS) (hy : MbF w y) (hys : y.n.d = [] ∨ ∀ x, y.a = some x → ¬ S x.block) (hA : A.length ≤ 1000) :
    Calls Tryd.prog 9 #[.pointer (some ⟨g, 0, none⟩), .agg (mbV y).toArray] w (AddQ w S g A y.n) := by
  obtain ⟨⟨⟨k, p, m, t, s⟩, d⟩, x, xc⟩ := y
  obtain ⟨L, hL⟩ := named d.length
  have HL : Hid (d.length = L) := hL.out.symm
  have HBD := Lib.hid hb
  obtain ⟨a, cap, gd, gf, nd1, nf1, Fd, Ff, us, h1, h2, h3⟩ := hb
  obtain ⟨n, hn⟩ := named A.length
  obtain ⟨X, hX⟩ := named (chR A ⟨k, p, m, t, s⟩)
  have HB := Lib.hid h1
  have HI := Lib.hid h2
  have HL3 := Lib.hid h3
  have HY := Lib.hid hy
  have HYS := Lib.hid hys
  have HN : Hid (A.length = n) := hn.out.symm
  have N40 : Hid (n ≤ 1000) := by show _ ≤ _; rw [hn.out]; exact hA
  have EO := Lib.hid enT
  have IN : Hid ((Tryd.prog.info? 55).map (fun i => (i.zero, i.size)) = some (some (.agg (ndL 0 emp 0 emp none 0 0 0).toArray), 6)) := by show _ = _; kernel_rfl
  obtain ⟨i0, HI0⟩ := info_of (P := Tryd.prog) (e := 55) (z := .agg (ndL 0 emp 0 emp none 0 0 0).toArray) (s := 6) (b := 80) (by kernel_rfl)
  have S22 : Hid ((Tryd.prog.info? 32).map (·.size) = some 1) := by show _ = _; kernel_rfl
  have LG : Hid (∀ w', w'.cell? ⟨g, 0, none⟩ = some (.slice a n cap) → (loadVar 32 ⟨g, 0, none⟩).run Tryd.prog w' = .ok (.slice a n cap) w') := fun w' hc => by go_simp
  have CC : Hid (∀ w', Below w.heap.size w w' → Calls Tryd.prog 10 #[.pointer (some ⟨g, 0, none⟩), .agg (enV k p m t s).toArray] w' fun e w'' => e = .returned (.int .i64 X) ∧ Below w'.heap.size w' w'') := fun w' h => by
    rw [hX.out]
    exact pbchk_any (h1.below h) (V.go h) k p m t s (Nat.le_trans hy.p (by unfold maxLen; omega)) (Nat.le_trans hy.t (by unfold maxLen; omega))
  have GW : Hid (g ≠ w.heap.size) := Nat.ne_of_lt (h3 _ h2.g)
  have GDW : Hid (gd ≠ w.heap.size) := Nat.ne_of_lt (h3 _ h2.d)
  have GFW : Hid (gf ≠ w.heap.size) := Nat.ne_of_lt (h3 _ h2.f)
  show Calls _ _ #[_, .agg (mbC k p m t s x d.length xc).toArray] _ _
  rw [HL.out]
  clear h1 h2 h3 hy hys hA hL V hn
  go_enter Tryd.func9, Tryd.ntmps9
  go_wp2_with (first | (refine wpList_box_obj rfl 30 _ rfl (mbC k p m t s x L xc) rfl ?_; intro w1 g1 b1; have G1 := Lib.hid g1; have B1 := Lib.hid b1; clear g1 b1) | (refine wpList_load_part rfl 27 5 EO.out _ rfl w.heap.size 0 rfl (enV k p m t s) rfl (fun j u hj => by rw [Nat.zero_add, G1.out.cell]; match j, hj with | 0, hj => exact hj | 1, hj => exact hj | 2, hj => exact hj | 3, hj => exact hj | 4, hj => exact hj) ?_))
  refine (CC.out w1 B1.out).mono ?_; rintro e wz ⟨rfl, b2⟩
  have G2 := Lib.hid (G1.out.below b2 G1.out.lt)
  have B2 := Lib.hid (belT B1.out b2)
  clear b2 G1 B1 CC
  by_cases x0 : ¬ X = 0
  · have nx : (X != 0) = true := by simpa using x0
    have RES : Hid (AddQ w S g A ⟨⟨k, p, m, t, s⟩, d⟩ (.returned (.int .i64 X)) wz) := ⟨X, rfl, by rw [adR_ck (by rw [← hX.out]; exact x0), hX.out], Only.of_below B2.out (Nat.le_refl _), by rw [if_neg x0]; exact HBD.out.grow B2.out⟩
    go_wp2_with fail
    go_ret
    exact RES.out
  obtain rfl : X = 0 := Decidable.not_not.mp x0
  clear x0
  have c0 := G2.out.get 0 rfl; have c4 := G2.out.get 4 rfl; have c5 := G2.out.get 5 rfl
  by_cases hs : ¬ (L : Int) = s
  · have ns : ((L : Int) != s) = true := by simpa using hs
    have RES : Hid (AddQ w S g A ⟨⟨k, p, m, t, s⟩, d⟩ (.returned (.int .i64 2)) wz) := ⟨2, rfl, (adR_sz hX.out.symm (by show ¬ (d.length : Int) = s; rw [HL.out]; exact hs)).symm, Only.of_below B2.out (Nat.le_refl _), by rw [if_neg (by decide)]; exact HBD.out.grow B2.out⟩
    go_wp2_with fail
    go_ret
    exact RES.out
  obtain rfl : (L : Int) = s := Decidable.not_not.mp hs
  have ns : ((L : Int) != (L : Int)) = false := by simp
  clear hs
  have ADR : Hid (0 = adR A ⟨⟨k, p, m, t, (L : Int)⟩, d⟩) := (adR_ok hX.out.symm (by show (d.length : Int) = L; rw [HL.out])).symm
  have CHR : Hid (chR A ⟨k, p, m, t, (L : Int)⟩ = 0) := hX.out.symm
  clear hX HBD
  have PM0 : Hid (PM wz g a cap gd gf nd1 nf1 Fd Ff us A) := (HB.out.below B2.out).mid
  have D0 : Hid (Below wz.heap.size wz wz.drew) := (Below.refl _ _).drew
  have g0 : wz.cell? ⟨g, 0, none⟩ = some (.slice a n cap) := by rw [← HN.out]; exact PM0.out.o.get 0 rfl
  by_cases k0 : k = 0
  · subst k0
    have FD : Hid (Fm (upd Fd (.string p) (.bool true)) (A ++ [⟨⟨0, p, m, t, (L : Int)⟩, d⟩]) 0 (fun _ => .bool true)) := HB.out.fd.set (x := ⟨⟨0, p, m, t, (L : Int)⟩, d⟩) rfl
    have FF : Hid (Fm Ff (A ++ [⟨⟨0, p, m, t, (L : Int)⟩, d⟩]) 1 (fun r => .int .i64 (r : Int))) := HB.out.ff.stay (x := ⟨⟨0, p, m, t, (L : Int)⟩, d⟩) (by show ¬ (0 : Int) = 1; decide)
    go_wp2_with fail
    refine wp_region_held_drew (S := (fun w' : World => w'.cell? ⟨g, 1, none⟩ = some (.map (some gd)) ∧ w'.cell? ⟨w.heap.size, 1, none⟩ = some (.string p))) (by kernel_rfl) (⟨(PM0.out.below D0.out).o.get 1 rfl, (G2.out.below D0.out G2.out.lt).get 1 rfl⟩) (fun hHeld => ?_)
    refine wpAnyH_take (i := 0) (oi := { dst := some 25, op := Go.Op.move (Go.Operand.tmp 0), type := 23, pos := "rebuild.go:55", after := #[], guard := none }) (v := ?_) rfl (by kernel_rfl) (by kernel_rfl) (by kernel_rfl) (fun _ _ _ h => h) (Or.inl ⟨by rfl, ?_⟩) (by assumption) ?_
    rotate_left 1
    focus ((intro wS hSw; (try dsimp only at hSw); go_simp) <;> (try with_reducible rfl))
    simp only [Act.put, List.setIfInBounds_toArray, List.set_cons_zero, List.set_cons_succ]
    refine wpAnyH_take (i := 1) (oi := { dst := some 26, op := Go.Op.nilCheck (Go.Operand.tmp 25), type := 0, pos := "rebuild.go:55", after := #[{ on := 0, ground := Go.Ground.data }], guard := none }) (v := ?_) rfl (by kernel_rfl) (by kernel_rfl) (by kernel_rfl) (fun _ _ _ h => h) (Or.inl ⟨by rfl, ?_⟩) (by assumption) ?_
    rotate_left 1
    focus ((intro wS hSw; (try dsimp only at hSw); go_simp) <;> (try with_reducible rfl))
    simp only [Act.put, List.setIfInBounds_toArray, List.set_cons_zero, List.set_cons_succ]
    refine wpAnyH_take (i := 2) (oi := { dst := some 27, op := Go.Op.fieldAddr 60 (Go.Operand.tmp 26) 1, type := 0, pos := "rebuild.go:55", after := #[{ on := 1, ground := Go.Ground.data }], guard := none }) (v := ?_) rfl (by kernel_rfl) (by kernel_rfl) (by kernel_rfl) (fun _ _ _ h => h) (Or.inl ⟨by rfl, ?_⟩) (by assumption) ?_
    rotate_left 1
    focus ((intro wS hSw; (try dsimp only at hSw); go_simp) <;> (try with_reducible rfl))
    simp only [Act.put, List.setIfInBounds_toArray, List.set_cons_zero, List.set_cons_succ]
    refine wpAnyH_take (i := 3) (oi := { dst := some 28, op := Go.Op.load 57 (Go.Operand.tmp 27), type := 57, pos := "rebuild.go:55", after := #[{ on := 2, ground := Go.Ground.data }], guard := none }) (v := ?_) rfl (by kernel_rfl) (by kernel_rfl) (by kernel_rfl) (fun _ _ _ h => h) (Or.inl ⟨by rfl, ?_⟩) (by assumption) ?_
    rotate_left 1
    focus ((intro wS hSw; (try dsimp only at hSw); go_simp) <;> (try with_reducible rfl))
    simp only [Act.put, List.setIfInBounds_toArray, List.set_cons_zero, List.set_cons_succ]
    refine wpAnyH_take (i := 4) (oi := { dst := some 29, op := Go.Op.fieldAddr 30 (Go.Operand.tmp 3) 0, type := 0, pos := "rebuild.go:55", after := #[], guard := none }) (v := ?_) rfl (by kernel_rfl) (by kernel_rfl) (by kernel_rfl) (fun _ _ _ h => h) (Or.inl ⟨by rfl, ?_⟩) (by assumption) ?_
    rotate_left 1
    focus ((intro wS hSw; (try dsimp only at hSw); go_simp) <;> (try with_reducible rfl))
    simp only [Act.put, List.setIfInBounds_toArray, List.set_cons_zero, List.set_cons_succ]
    refine wpAnyH_take (i := 5) (oi := { dst := some 30, op := Go.Op.fieldAddr 27 (Go.Operand.tmp 29) 1, type := 0, pos := "rebuild.go:55", after := #[{ on := 4, ground := Go.Ground.data }], guard := none }) (v := ?_) rfl (by kernel_rfl) (by kernel_rfl) (by kernel_rfl) (fun _ _ _ h => h) (Or.inl ⟨by rfl, ?_⟩) (by assumption) ?_
    rotate_left 1
    focus ((intro wS hSw; (try dsimp only at hSw); go_simp) <;> (try with_reducible rfl))
    simp only [Act.put, List.setIfInBounds_toArray, List.set_cons_zero, List.set_cons_succ]
    refine wpAnyH_take (i := 6) (oi := { dst := some 31, op := Go.Op.load 9 (Go.Operand.tmp 30), type := 9, pos := "rebuild.go:55", after := #[{ on := 5, ground := Go.Ground.data }], guard := none }) (v := ?_) rfl (by kernel_rfl) (by kernel_rfl) (by kernel_rfl) (fun _ _ _ h => h) (Or.inl ⟨by rfl, ?_⟩) (by assumption) ?_
    rotate_left 1
    focus ((intro wS hSw; (try dsimp only at hSw); go_simp) <;> (try with_reducible rfl))
    simp only [Act.put, List.setIfInBounds_toArray, List.set_cons_zero, List.set_cons_succ]
    refine wpAnyH_ready (rs := [7]) (by kernel_rfl) (by simp) ?_
    refine AllReadyH.cons (o := { dst := none, op := Go.Op.mapUpdate 57 (Go.Operand.tmp 28) (Go.Operand.tmp 31) (Go.Operand.const (Go.Value.bool true)), type := 0, pos := "rebuild.go:55", after := #[{ on := 3, ground := Go.Ground.data }, { on := 6, ground := Go.Ground.data }, { on := 0, ground := Go.Ground.phase }, { on := 1, ground := Go.Ground.phase }, { on := 2, ground := Go.Ground.phase }, { on := 3, ground := Go.Ground.phase }, { on := 4, ground := Go.Ground.phase }, { on := 5, ground := Go.Ground.phase }, { on := 6, ground := Go.Ground.phase }], guard := none }) rfl (fun K hK => ?_) AllReadyH.nil
    refine step_update_map rfl 57 _ _ _ rfl 9 4 Tryd.underlying57 .string Tryd.underlying9 gd rfl (.string p) rfl (show IsKey .string (.string p) from trivial) (.bool true) rfl nd1 Fd (PM0.out.below D0.out).md ?_
    intro wm m8 t8
    have PMm := Lib.hid ((PM0.out.below D0.out).dir m8 t8)
    have MBm := Lib.hid (((G2.out.below D0.out G2.out.lt)).turnB t8 (Ne.symm GDW.out))
    have ONm : Hid (Only S w wm) := (Only.of_below (B2.out.trans (D0.out.mono B2.out.size)) (Nat.le_refl _)).trans (TurnB.only t8 HI.out.d)
    clear m8 t8
    refine hK.out _ _ (⟨PMm.out.o.get 1 rfl, MBm.out.get 1 rfl⟩) (fun hHeld => ?_)
    clear hK K
    (try simp only [Act.put])
    refine wpAnyH_done (by kernel_rfl) ?_ _
    clear hHeld c0 c4 c5 g0
    have NC : Hid (∀ w', Below wm.heap.size wm w' → Calls Tryd.prog 25 #[.pointer (some ⟨g, 0, none⟩), .agg (mbC 0 p m t (L : Int) x L xc).toArray] w' fun e w'' => ∃ u, e = .returned (.agg (ndV u).toArray) ∧ Nw S w' w'' A ⟨⟨0, p, m, t, (L : Int)⟩, d⟩ u ∧ Below w'.heap.size w' w'') := fun w' h => by
      have := node_own (S := S) (PMm.out.below h).o ⟨⟨⟨0, p, m, t, (L : Int)⟩, d⟩, x, xc⟩ (MbF.onlyE HY.out (ONm.out.trans (Only.of_below h (Nat.le_refl _))) HYS.out) (by rw [HN.out]; exact N40.out) (by show ¬ (0 : Int) = 3; decide)
      dsimp only [mbV] at this
      rw [HL.out] at this
      exact this
    go_wp2_with fail
    have E0 : Hid (Below wm.heap.size wm wm.drew) := (Below.refl _ _).drew
    have GO : Hid (∀ w', Below wm.heap.size wm w' → w'.cell? ⟨g, 0, none⟩ = some (.slice a n cap)) := fun w' h => by rw [← HN.out]; exact (PMm.out.below h).o.get 0 rfl
    have KO : Hid (∀ w', ObjAt w' w.heap.size 30 (mbC 0 p m t (L : Int) x L xc) → (fun w' : World => w'.cell? ⟨w.heap.size, 0, none⟩ = some (.int .i64 0) ∧ w'.cell? ⟨w.heap.size, 1, none⟩ = some (.string p) ∧ w'.cell? ⟨w.heap.size, 2, none⟩ = some (.int .i64 m) ∧ w'.cell? ⟨w.heap.size, 3, none⟩ = some (.string t) ∧ w'.cell? ⟨w.heap.size, 4, none⟩ = some (.int .i64 (L : Int)) ∧ w'.cell? ⟨w.heap.size, 5, none⟩ = some (.slice x L xc)) w') := fun w' h => ⟨h.get 0 rfl, h.get 1 rfl, h.get 2 rfl, h.get 3 rfl, h.get 4 rfl, h.get 5 rfl⟩
    have KB : Hid (∀ w', Only S wm w' → ObjAt w' w.heap.size 30 (mbC 0 p m t (L : Int) x L xc)) := fun w' h => MBm.out.only h fun hs => Nat.lt_irrefl _ (HL3.out _ hs)
    have KS : Hid (∀ w', Only S wm w' → (fun w' : World => w'.cell? ⟨w.heap.size, 0, none⟩ = some (.int .i64 0) ∧ w'.cell? ⟨w.heap.size, 1, none⟩ = some (.string p) ∧ w'.cell? ⟨w.heap.size, 2, none⟩ = some (.int .i64 m) ∧ w'.cell? ⟨w.heap.size, 3, none⟩ = some (.string t) ∧ w'.cell? ⟨w.heap.size, 4, none⟩ = some (.int .i64 (L : Int)) ∧ w'.cell? ⟨w.heap.size, 5, none⟩ = some (.slice x L xc)) w') := fun w' h => KO.out _ (KB.out _ h)
    refine wp_region_held_drew (S := (fun w' : World => w'.cell? ⟨w.heap.size, 0, none⟩ = some (.int .i64 0) ∧ w'.cell? ⟨w.heap.size, 1, none⟩ = some (.string p) ∧ w'.cell? ⟨w.heap.size, 2, none⟩ = some (.int .i64 m) ∧ w'.cell? ⟨w.heap.size, 3, none⟩ = some (.string t) ∧ w'.cell? ⟨w.heap.size, 4, none⟩ = some (.int .i64 (L : Int)) ∧ w'.cell? ⟨w.heap.size, 5, none⟩ = some (.slice x L xc))) (by kernel_rfl) (KS.out _ (Only.of_below E0.out (Nat.le_refl _))) (fun hHeld => ?_)
    refine wpAnyH_take (i := 0) (oi := { dst := some 46, op := Go.Op.move (Go.Operand.tmp 0), type := 23, pos := "rebuild.go:59", after := #[], guard := none }) (v := ?_) rfl (by kernel_rfl) (by kernel_rfl) (by kernel_rfl) (fun _ _ _ h => h) (Or.inl ⟨by rfl, ?_⟩) (by assumption) ?_
    rotate_left 1
    focus ((intro wS hSw; (try dsimp only at hSw); go_simp) <;> (try with_reducible rfl))
    simp only [Act.put, List.setIfInBounds_toArray, List.set_cons_zero, List.set_cons_succ]
    refine wpAnyH_take (i := 1) (oi := { dst := some 47, op := Go.Op.move (Go.Operand.tmp 0), type := 23, pos := "rebuild.go:59", after := #[], guard := none }) (v := ?_) rfl (by kernel_rfl) (by kernel_rfl) (by kernel_rfl) (fun _ _ _ h => h) (Or.inl ⟨by rfl, ?_⟩) (by assumption) ?_
    rotate_left 1
    focus ((intro wS hSw; (try dsimp only at hSw); go_simp) <;> (try with_reducible rfl))
    simp only [Act.put, List.setIfInBounds_toArray, List.set_cons_zero, List.set_cons_succ]
    refine wpAnyH_take (i := 2) (oi := { dst := some 48, op := Go.Op.nilCheck (Go.Operand.tmp 47), type := 0, pos := "rebuild.go:59", after := #[{ on := 1, ground := Go.Ground.data }], guard := none }) (v := ?_) rfl (by kernel_rfl) (by kernel_rfl) (by kernel_rfl) (fun _ _ _ h => h) (Or.inl ⟨by rfl, ?_⟩) (by assumption) ?_
    rotate_left 1
    focus ((intro wS hSw; (try dsimp only at hSw); go_simp) <;> (try with_reducible rfl))
    simp only [Act.put, List.setIfInBounds_toArray, List.set_cons_zero, List.set_cons_succ]
    refine wpAnyH_take (i := 3) (oi := { dst := some 49, op := Go.Op.fieldAddr 60 (Go.Operand.tmp 48) 0, type := 0, pos := "rebuild.go:59", after := #[{ on := 2, ground := Go.Ground.data }], guard := none }) (v := ?_) rfl (by kernel_rfl) (by kernel_rfl) (by kernel_rfl) (fun _ _ _ h => h) (Or.inl ⟨by rfl, ?_⟩) (by assumption) ?_
    rotate_left 1
    focus ((intro wS hSw; (try dsimp only at hSw); go_simp) <;> (try with_reducible rfl))
    simp only [Act.put, List.setIfInBounds_toArray, List.set_cons_zero, List.set_cons_succ]
    refine wpAnyH_take (i := 5) (oi := { dst := some 51, op := Go.Op.move (Go.Operand.tmp 0), type := 23, pos := "rebuild.go:59", after := #[], guard := none }) (v := ?_) rfl (by kernel_rfl) (by kernel_rfl) (by kernel_rfl) (fun _ _ _ h => h) (Or.inl ⟨by rfl, ?_⟩) (by assumption) ?_
    rotate_left 1
    focus ((intro wS hSw; (try dsimp only at hSw); go_simp) <;> (try with_reducible rfl))
    simp only [Act.put, List.setIfInBounds_toArray, List.set_cons_zero, List.set_cons_succ]
    refine wpAnyH_take (i := 6) (oi := { dst := some 52, op := Go.Op.load 30 (Go.Operand.tmp 3), type := 30, pos := "rebuild.go:59", after := #[], guard := none }) (v := ?_) rfl (by kernel_rfl) (by kernel_rfl) (by kernel_rfl) (fun _ _ _ h => h) (Or.inl ⟨by rfl, ?_⟩) (by assumption) ?_
    rotate_left 1
    focus ((intro wS hSw; (try dsimp only at hSw); go_simp) <;> (try with_reducible rfl))
    simp only [Act.put, List.setIfInBounds_toArray, List.set_cons_zero, List.set_cons_succ]
    refine wpAnyH_ready (rs := [4, 7]) (by kernel_rfl) (by simp) ?_
    refine AllReadyH.cons (o := { dst := some 50, op := Go.Op.load 32 (Go.Operand.tmp 49), type := 32, pos := "rebuild.go:59", after := #[{ on := 3, ground := Go.Ground.data }], guard := none }) rfl (fun K hK => ?_) (AllReadyH.cons (o := { dst := some 53, op := Go.Op.call { callee := Go.Callee.value (Go.Operand.func 25), args := #[Go.Operand.tmp 51, Go.Operand.tmp 52], argTypes := #[23, 30] }, type := 55, pos := "rebuild.go:59", after := #[{ on := 5, ground := Go.Ground.data }, { on := 6, ground := Go.Ground.data }], guard := none }) rfl (fun K hK => ?_) AllReadyH.nil)
    · refine step_load_run rfl 32 (.tmp 49) rfl ⟨g, 0, none⟩ rfl (.slice a n cap) (LG.out _ (GO.out _ E0.out)) ?_
      refine hK.out _ _ (KS.out _ (Only.of_below E0.out (Nat.le_refl _))) (fun hHeld => ?_)
      clear hK K
      (try simp only [Act.put, List.setIfInBounds_toArray, List.set_cons_zero, List.set_cons_succ])
      refine wpAnyH_ready (rs := [7]) (by kernel_rfl) (by simp) ?_
      refine AllReadyH.cons (o := { dst := some 53, op := Go.Op.call { callee := Go.Callee.value (Go.Operand.func 25), args := #[Go.Operand.tmp 51, Go.Operand.tmp 52], argTypes := #[23, 30] }, type := 55, pos := "rebuild.go:59", after := #[{ on := 5, ground := Go.Ground.data }, { on := 6, ground := Go.Ground.data }], guard := none }) rfl (fun K hK => ?_) AllReadyH.nil
      go_simp
      refine (NC.out _ E0.out).mono ?_
      rintro e z1 ⟨u, rfl, hu, b1⟩
      have NW : Hid (Nw S wm z1 A ⟨⟨0, p, m, t, (L : Int)⟩, d⟩ u) := ⟨hu.n, hu.s, hu.f, hu.i⟩
      have E1 : Hid (Below wm.heap.size wm z1) := E0.out.trans (b1.mono (Nat.le_refl _))
      clear hu b1
      refine hK.out _ _ (KS.out _ (Only.of_below E1.out (Nat.le_refl _))) (fun hHeld => ?_)
      clear hK K
      (try simp only [Act.put, List.setIfInBounds_toArray, List.set_cons_zero, List.set_cons_succ])
      refine wpAnyH_ready (rs := [8]) (by kernel_rfl) (by simp) ?_
      refine AllReadyH.cons (o := { dst := some 54, op := Go.Op.buildSlice 32 1 #[(0, Go.Operand.tmp 53)], type := 32, pos := "rebuild.go:59", after := #[{ on := 7, ground := Go.Ground.data }], guard := none }) rfl (fun K hK => ?_) AllReadyH.nil
      refine step_lit_nd1 rfl 32 55 (.tmp 53) rfl Tryd.underlying32 _ IN.out u rfl ?_
      intro z2 g2 b2
      have L2 : Hid (ObjAt z2 z1.heap.size 55 (ndCells [u])) := g2
      have BB2 : Hid (Below z1.heap.size z1 z2) := b2
      have E2 : Hid (Below wm.heap.size wm z2) := E1.out.trans (b2.mono E1.out.size)
      have RW2 : Hid (z2.ownsRow 0 55 6 (.slice a n cap) n (ndCells us)) := by
        show World.ownsRow _ _ _ _ _ _ _
        rw [← HN.out]; exact (PMm.out.below E2.out).r
      clear g2 b2
      refine hK.out _ _ (KS.out _ (Only.of_below E2.out (Nat.le_refl _))) (fun hHeld => ?_)
      clear hK K
      (try simp only [Act.put, List.setIfInBounds_toArray, List.set_cons_zero, List.set_cons_succ])
      refine wpAnyH_ready (rs := [9]) (by kernel_rfl) (by simp) ?_
      refine AllReadyH.cons (o := { dst := some 55, op := Go.Op.call { callee := Go.Callee.builtin Go.Builtin.append, args := #[Go.Operand.tmp 50, Go.Operand.tmp 54], argTypes := #[32, 32] }, type := 32, pos := "rebuild.go:59", after := #[{ on := 4, ground := Go.Ground.data }, { on := 8, ground := Go.Ground.data }, { on := 7, ground := Go.Ground.chain }], guard := none }) rfl (fun K hK => ?_) AllReadyH.nil
      refine step_append_ndx rfl (.tmp 50) (.tmp 54) 32 rfl 0 55 i0 _ Tryd.underlying32 HI0 rfl (.slice a n cap) n us rfl RW2.out (some ⟨z1.heap.size, 0, none⟩) 1 1 [u] rfl (.inr ⟨_, 0, rfl, L2.out.lt, .of_cells L2.out⟩) rfl (by have := N40.out; omega) (Nat.zero_le _) ?_
      intro v3 z3 o3 b3 k3 x3
      have X3 : Hid (v3.ownBlock = (Value.slice a n cap).ownBlock ∨ v3.ownBlock = some z2.heap.size) := x3
      obtain ⟨va, vc, rfl, O3⟩ : ∃ va vc, v3 = .slice va (n + 1) vc ∧ Hid (z3.ownsRow 0 55 6 v3 (n + 1) (ndCells (us ++ [u]))) := by
        obtain ⟨va, vc, hv, _⟩ := NdsIn.of_own o3
        exact ⟨va, vc, hv, o3⟩
      have B3 := Lib.hid b3
      have KK3 := Lib.hid k3
      have ON3 : Hid (Only S wm z3) := (Only.of_below E2.out (Nat.le_refl _)).trans ⟨b3.os, b3.tape, b3.output, b3.size, fun k h1 h2 => k3 k h1 fun e => h2 (own_blk RW2.out HI.out.r k e.symm)⟩
      have GB3 : Hid (ObjAt z3 g 60 [.slice a n cap, .map (some gd), .map (some gf)]) := by
        have h := (PMm.out.below E2.out).o
        rw [HN.out] at h
        exact (k3 g h.lt (own_ne_obj RW2.out h (by decide))).trans h
      clear o3 b3 k3
      refine hK.out _ _ (KS.out _ ON3.out) (fun hHeld => ?_)
      clear hK K
      (try simp only [Act.put, List.setIfInBounds_toArray, List.set_cons_zero, List.set_cons_succ])
      refine wpAnyH_take (i := 10) (oi := { dst := some 56, op := Go.Op.nilCheck (Go.Operand.tmp 46), type := 0, pos := "rebuild.go:59", after := #[{ on := 0, ground := Go.Ground.data }, { on := 0, ground := Go.Ground.phase }, { on := 1, ground := Go.Ground.phase }, { on := 2, ground := Go.Ground.phase }, { on := 3, ground := Go.Ground.phase }, { on := 4, ground := Go.Ground.phase }, { on := 5, ground := Go.Ground.phase }, { on := 6, ground := Go.Ground.phase }, { on := 7, ground := Go.Ground.phase }, { on := 8, ground := Go.Ground.phase }, { on := 9, ground := Go.Ground.phase }], guard := none }) (v := ?_) rfl (by kernel_rfl) (by kernel_rfl) (by kernel_rfl) (fun _ _ _ h => h) (Or.inl ⟨by rfl, ?_⟩) (by assumption) ?_
      rotate_left 1
      focus ((intro wS hSw; (try dsimp only at hSw); go_simp) <;> (try with_reducible rfl))
      simp only [Act.put, List.setIfInBounds_toArray, List.set_cons_zero, List.set_cons_succ]
      refine wpAnyH_take (i := 11) (oi := { dst := some 57, op := Go.Op.fieldAddr 60 (Go.Operand.tmp 56) 0, type := 0, pos := "rebuild.go:59", after := #[{ on := 10, ground := Go.Ground.data }, { on := 0, ground := Go.Ground.phase }, { on := 1, ground := Go.Ground.phase }, { on := 2, ground := Go.Ground.phase }, { on := 3, ground := Go.Ground.phase }, { on := 4, ground := Go.Ground.phase }, { on := 5, ground := Go.Ground.phase }, { on := 6, ground := Go.Ground.phase }, { on := 7, ground := Go.Ground.phase }, { on := 8, ground := Go.Ground.phase }, { on := 9, ground := Go.Ground.phase }], guard := none }) (v := ?_) rfl (by kernel_rfl) (by kernel_rfl) (by kernel_rfl) (fun _ _ _ h => h) (Or.inl ⟨by rfl, ?_⟩) (by assumption) ?_
      rotate_left 1
      focus ((intro wS hSw; (try dsimp only at hSw); go_simp) <;> (try with_reducible rfl))
      simp only [Act.put, List.setIfInBounds_toArray, List.set_cons_zero, List.set_cons_succ]
      refine wpAnyH_ready (rs := [12]) (by kernel_rfl) (by simp) ?_
      refine AllReadyH.cons (o := { dst := none, op := Go.Op.store 32 (Go.Operand.tmp 57) (Go.Operand.tmp 55), type := 0, pos := "rebuild.go:59", after := #[{ on := 11, ground := Go.Ground.data }, { on := 9, ground := Go.Ground.data }, { on := 9, ground := Go.Ground.chain }, { on := 0, ground := Go.Ground.phase }, { on := 1, ground := Go.Ground.phase }, { on := 2, ground := Go.Ground.phase }, { on := 3, ground := Go.Ground.phase }, { on := 4, ground := Go.Ground.phase }, { on := 5, ground := Go.Ground.phase }, { on := 6, ground := Go.Ground.phase }, { on := 7, ground := Go.Ground.phase }, { on := 8, ground := Go.Ground.phase }, { on := 9, ground := Go.Ground.phase }], guard := none }) rfl (fun K hK => ?_) AllReadyH.nil
      refine step_store_one rfl 32 (.tmp 57) (.tmp 55) rfl g 0 rfl (.slice va (n + 1) vc) rfl rfl S22.out 60 [.slice a n cap, .map (some gd), .map (some gf)] GB3.out (by show 0 < 3; decide) ?_
      intro z4 o4 t4
      have RES : Hid (AddQ w S g A ⟨⟨0, p, m, t, (L : Int)⟩, d⟩ (.returned (.int .i64 0)) z4) := by
        obtain ⟨q1, q2⟩ := PMm.out.fin HI.out ONm.out HL3.out ADR.out.symm FD.out FF.out NW.out E1.out BB2.out (by rw [HN.out]; exact O3.out) B3.out (by rw [HN.out]; exact KK3.out) (by rw [HN.out]; exact X3.out) (by rw [HN.out]; exact o4) t4
        exact ⟨0, rfl, ADR.out, q1, by rw [if_pos rfl]; exact q2⟩
      have ks4 : (fun w' : World => w'.cell? ⟨w.heap.size, 0, none⟩ = some (.int .i64 0) ∧ w'.cell? ⟨w.heap.size, 1, none⟩ = some (.string p) ∧ w'.cell? ⟨w.heap.size, 2, none⟩ = some (.int .i64 m) ∧ w'.cell? ⟨w.heap.size, 3, none⟩ = some (.string t) ∧ w'.cell? ⟨w.heap.size, 4, none⟩ = some (.int .i64 (L : Int)) ∧ w'.cell? ⟨w.heap.size, 5, none⟩ = some (.slice x L xc)) z4 := KO.out _ ((KB.out _ ON3.out).turnB t4 (Ne.symm GW.out))
      clear o4 t4
      refine hK.out _ _ (ks4) (fun hHeld => ?_)
      clear hK K
      (try simp only [Act.put])
      refine wpAnyH_done (by kernel_rfl) ?_ _
      go_wp2_with fail
      go_ret
      exact RES.out
    · go_simp
      refine (NC.out _ E0.out).mono ?_
      rintro e z1 ⟨u, rfl, hu, b1⟩
      have NW : Hid (Nw S wm z1 A ⟨⟨0, p, m, t, (L : Int)⟩, d⟩ u) := ⟨hu.n, hu.s, hu.f, hu.i⟩
      have E1 : Hid (Below wm.heap.size wm z1) := E0.out.trans (b1.mono (Nat.le_refl _))
      clear hu b1
      refine hK.out _ _ (KS.out _ (Only.of_below E1.out (Nat.le_refl _))) (fun hHeld => ?_)
      clear hK K
      (try simp only [Act.put, List.setIfInBounds_toArray, List.set_cons_zero, List.set_cons_succ])
      refine wpAnyH_ready (rs := [4, 8]) (by kernel_rfl) (by simp) ?_
      refine AllReadyH.cons (o := { dst := some 50, op := Go.Op.load 32 (Go.Operand.tmp 49), type := 32, pos := "rebuild.go:59", after := #[{ on := 3, ground := Go.Ground.data }], guard := none }) rfl (fun K hK => ?_) (AllReadyH.cons (o := { dst := some 54, op := Go.Op.buildSlice 32 1 #[(0, Go.Operand.tmp 53)], type := 32, pos := "rebuild.go:59", after := #[{ on := 7, ground := Go.Ground.data }], guard := none }) rfl (fun K hK => ?_) AllReadyH.nil)
      · refine step_load_run rfl 32 (.tmp 49) rfl ⟨g, 0, none⟩ rfl (.slice a n cap) (LG.out _ (GO.out _ E1.out)) ?_
        refine hK.out _ _ (KS.out _ (Only.of_below E1.out (Nat.le_refl _))) (fun hHeld => ?_)
        clear hK K
        (try simp only [Act.put, List.setIfInBounds_toArray, List.set_cons_zero, List.set_cons_succ])
        refine wpAnyH_ready (rs := [8]) (by kernel_rfl) (by simp) ?_
        refine AllReadyH.cons (o := { dst := some 54, op := Go.Op.buildSlice 32 1 #[(0, Go.Operand.tmp 53)], type := 32, pos := "rebuild.go:59", after := #[{ on := 7, ground := Go.Ground.data }], guard := none }) rfl (fun K hK => ?_) AllReadyH.nil
        refine step_lit_nd1 rfl 32 55 (.tmp 53) rfl Tryd.underlying32 _ IN.out u rfl ?_
        intro z2 g2 b2
        have L2 : Hid (ObjAt z2 z1.heap.size 55 (ndCells [u])) := g2
        have BB2 : Hid (Below z1.heap.size z1 z2) := b2
        have E2 : Hid (Below wm.heap.size wm z2) := E1.out.trans (b2.mono E1.out.size)
        have RW2 : Hid (z2.ownsRow 0 55 6 (.slice a n cap) n (ndCells us)) := by
          show World.ownsRow _ _ _ _ _ _ _
          rw [← HN.out]; exact (PMm.out.below E2.out).r
        clear g2 b2
        refine hK.out _ _ (KS.out _ (Only.of_below E2.out (Nat.le_refl _))) (fun hHeld => ?_)
        clear hK K
        (try simp only [Act.put, List.setIfInBounds_toArray, List.set_cons_zero, List.set_cons_succ])
        refine wpAnyH_ready (rs := [9]) (by kernel_rfl) (by simp) ?_
        refine AllReadyH.cons (o := { dst := some 55, op := Go.Op.call { callee := Go.Callee.builtin Go.Builtin.append, args := #[Go.Operand.tmp 50, Go.Operand.tmp 54], argTypes := #[32, 32] }, type := 32, pos := "rebuild.go:59", after := #[{ on := 4, ground := Go.Ground.data }, { on := 8, ground := Go.Ground.data }, { on := 7, ground := Go.Ground.chain }], guard := none }) rfl (fun K hK => ?_) AllReadyH.nil
        refine step_append_ndx rfl (.tmp 50) (.tmp 54) 32 rfl 0 55 i0 _ Tryd.underlying32 HI0 rfl (.slice a n cap) n us rfl RW2.out (some ⟨z1.heap.size, 0, none⟩) 1 1 [u] rfl (.inr ⟨_, 0, rfl, L2.out.lt, .of_cells L2.out⟩) rfl (by have := N40.out; omega) (Nat.zero_le _) ?_
        intro v3 z3 o3 b3 k3 x3
        have X3 : Hid (v3.ownBlock = (Value.slice a n cap).ownBlock ∨ v3.ownBlock = some z2.heap.size) := x3
        obtain ⟨va, vc, rfl, O3⟩ : ∃ va vc, v3 = .slice va (n + 1) vc ∧ Hid (z3.ownsRow 0 55 6 v3 (n + 1) (ndCells (us ++ [u]))) := by
          obtain ⟨va, vc, hv, _⟩ := NdsIn.of_own o3
          exact ⟨va, vc, hv, o3⟩
        have B3 := Lib.hid b3
        have KK3 := Lib.hid k3
        have ON3 : Hid (Only S wm z3) := (Only.of_below E2.out (Nat.le_refl _)).trans ⟨b3.os, b3.tape, b3.output, b3.size, fun k h1 h2 => k3 k h1 fun e => h2 (own_blk RW2.out HI.out.r k e.symm)⟩
        have GB3 : Hid (ObjAt z3 g 60 [.slice a n cap, .map (some gd), .map (some gf)]) := by
          have h := (PMm.out.below E2.out).o
          rw [HN.out] at h
          exact (k3 g h.lt (own_ne_obj RW2.out h (by decide))).trans h
        clear o3 b3 k3
        refine hK.out _ _ (KS.out _ ON3.out) (fun hHeld => ?_)
        clear hK K
        (try simp only [Act.put, List.setIfInBounds_toArray, List.set_cons_zero, List.set_cons_succ])
        refine wpAnyH_take (i := 10) (oi := { dst := some 56, op := Go.Op.nilCheck (Go.Operand.tmp 46), type := 0, pos := "rebuild.go:59", after := #[{ on := 0, ground := Go.Ground.data }, { on := 0, ground := Go.Ground.phase }, { on := 1, ground := Go.Ground.phase }, { on := 2, ground := Go.Ground.phase }, { on := 3, ground := Go.Ground.phase }, { on := 4, ground := Go.Ground.phase }, { on := 5, ground := Go.Ground.phase }, { on := 6, ground := Go.Ground.phase }, { on := 7, ground := Go.Ground.phase }, { on := 8, ground := Go.Ground.phase }, { on := 9, ground := Go.Ground.phase }], guard := none }) (v := ?_) rfl (by kernel_rfl) (by kernel_rfl) (by kernel_rfl) (fun _ _ _ h => h) (Or.inl ⟨by rfl, ?_⟩) (by assumption) ?_
        rotate_left 1
        focus ((intro wS hSw; (try dsimp only at hSw); go_simp) <;> (try with_reducible rfl))
        simp only [Act.put, List.setIfInBounds_toArray, List.set_cons_zero, List.set_cons_succ]
        refine wpAnyH_take (i := 11) (oi := { dst := some 57, op := Go.Op.fieldAddr 60 (Go.Operand.tmp 56) 0, type := 0, pos := "rebuild.go:59", after := #[{ on := 10, ground := Go.Ground.data }, { on := 0, ground := Go.Ground.phase }, { on := 1, ground := Go.Ground.phase }, { on := 2, ground := Go.Ground.phase }, { on := 3, ground := Go.Ground.phase }, { on := 4, ground := Go.Ground.phase }, { on := 5, ground := Go.Ground.phase }, { on := 6, ground := Go.Ground.phase }, { on := 7, ground := Go.Ground.phase }, { on := 8, ground := Go.Ground.phase }, { on := 9, ground := Go.Ground.phase }], guard := none }) (v := ?_) rfl (by kernel_rfl) (by kernel_rfl) (by kernel_rfl) (fun _ _ _ h => h) (Or.inl ⟨by rfl, ?_⟩) (by assumption) ?_
        rotate_left 1
        focus ((intro wS hSw; (try dsimp only at hSw); go_simp) <;> (try with_reducible rfl))
        simp only [Act.put, List.setIfInBounds_toArray, List.set_cons_zero, List.set_cons_succ]
        refine wpAnyH_ready (rs := [12]) (by kernel_rfl) (by simp) ?_
        refine AllReadyH.cons (o := { dst := none, op := Go.Op.store 32 (Go.Operand.tmp 57) (Go.Operand.tmp 55), type := 0, pos := "rebuild.go:59", after := #[{ on := 11, ground := Go.Ground.data }, { on := 9, ground := Go.Ground.data }, { on := 9, ground := Go.Ground.chain }, { on := 0, ground := Go.Ground.phase }, { on := 1, ground := Go.Ground.phase }, { on := 2, ground := Go.Ground.phase }, { on := 3, ground := Go.Ground.phase }, { on := 4, ground := Go.Ground.phase }, { on := 5, ground := Go.Ground.phase }, { on := 6, ground := Go.Ground.phase }, { on := 7, ground := Go.Ground.phase }, { on := 8, ground := Go.Ground.phase }, { on := 9, ground := Go.Ground.phase }], guard := none }) rfl (fun K hK => ?_) AllReadyH.nil
        refine step_store_one rfl 32 (.tmp 57) (.tmp 55) rfl g 0 rfl (.slice va (n + 1) vc) rfl rfl S22.out 60 [.slice a n cap, .map (some gd), .map (some gf)] GB3.out (by show 0 < 3; decide) ?_
        intro z4 o4 t4
        have RES : Hid (AddQ w S g A ⟨⟨0, p, m, t, (L : Int)⟩, d⟩ (.returned (.int .i64 0)) z4) := by
          obtain ⟨q1, q2⟩ := PMm.out.fin HI.out ONm.out HL3.out ADR.out.symm FD.out FF.out NW.out E1.out BB2.out (by rw [HN.out]; exact O3.out) B3.out (by rw [HN.out]; exact KK3.out) (by rw [HN.out]; exact X3.out) (by rw [HN.out]; exact o4) t4
          exact ⟨0, rfl, ADR.out, q1, by rw [if_pos rfl]; exact q2⟩
        have ks4 : (fun w' : World => w'.cell? ⟨w.heap.size, 0, none⟩ = some (.int .i64 0) ∧ w'.cell? ⟨w.heap.size, 1, none⟩ = some (.string p) ∧ w'.cell? ⟨w.heap.size, 2, none⟩ = some (.int .i64 m) ∧ w'.cell? ⟨w.heap.size, 3, none⟩ = some (.string t) ∧ w'.cell? ⟨w.heap.size, 4, none⟩ = some (.int .i64 (L : Int)) ∧ w'.cell? ⟨w.heap.size, 5, none⟩ = some (.slice x L xc)) z4 := KO.out _ ((KB.out _ ON3.out).turnB t4 (Ne.symm GW.out))
        clear o4 t4
        refine hK.out _ _ (ks4) (fun hHeld => ?_)
        clear hK K
        (try simp only [Act.put])
        refine wpAnyH_done (by kernel_rfl) ?_ _
        go_wp2_with fail
        go_ret
        exact RES.out
      · refine step_lit_nd1 rfl 32 55 (.tmp 53) rfl Tryd.underlying32 _ IN.out u rfl ?_
        intro z2 g2 b2
        have L2 : Hid (ObjAt z2 z1.heap.size 55 (ndCells [u])) := g2
        have BB2 : Hid (Below z1.heap.size z1 z2) := b2
        have E2 : Hid (Below wm.heap.size wm z2) := E1.out.trans (b2.mono E1.out.size)
        have RW2 : Hid (z2.ownsRow 0 55 6 (.slice a n cap) n (ndCells us)) := by
          show World.ownsRow _ _ _ _ _ _ _
          rw [← HN.out]; exact (PMm.out.below E2.out).r
        clear g2 b2
        refine hK.out _ _ (KS.out _ (Only.of_below E2.out (Nat.le_refl _))) (fun hHeld => ?_)
        clear hK K
        (try simp only [Act.put, List.setIfInBounds_toArray, List.set_cons_zero, List.set_cons_succ])
        refine wpAnyH_ready (rs := [4]) (by kernel_rfl) (by simp) ?_
        refine AllReadyH.cons (o := { dst := some 50, op := Go.Op.load 32 (Go.Operand.tmp 49), type := 32, pos := "rebuild.go:59", after := #[{ on := 3, ground := Go.Ground.data }], guard := none }) rfl (fun K hK => ?_) AllReadyH.nil
        refine step_load_run rfl 32 (.tmp 49) rfl ⟨g, 0, none⟩ rfl (.slice a n cap) (LG.out _ (GO.out _ E2.out)) ?_
        refine hK.out _ _ (KS.out _ (Only.of_below E2.out (Nat.le_refl _))) (fun hHeld => ?_)
        clear hK K
        (try simp only [Act.put, List.setIfInBounds_toArray, List.set_cons_zero, List.set_cons_succ])
        refine wpAnyH_ready (rs := [9]) (by kernel_rfl) (by simp) ?_
        refine AllReadyH.cons (o := { dst := some 55, op := Go.Op.call { callee := Go.Callee.builtin Go.Builtin.append, args := #[Go.Operand.tmp 50, Go.Operand.tmp 54], argTypes := #[32, 32] }, type := 32, pos := "rebuild.go:59", after := #[{ on := 4, ground := Go.Ground.data }, { on := 8, ground := Go.Ground.data }, { on := 7, ground := Go.Ground.chain }], guard := none }) rfl (fun K hK => ?_) AllReadyH.nil
        refine step_append_ndx rfl (.tmp 50) (.tmp 54) 32 rfl 0 55 i0 _ Tryd.underlying32 HI0 rfl (.slice a n cap) n us rfl RW2.out (some ⟨z1.heap.size, 0, none⟩) 1 1 [u] rfl (.inr ⟨_, 0, rfl, L2.out.lt, .of_cells L2.out⟩) rfl (by have := N40.out; omega) (Nat.zero_le _) ?_
        intro v3 z3 o3 b3 k3 x3
        have X3 : Hid (v3.ownBlock = (Value.slice a n cap).ownBlock ∨ v3.ownBlock = some z2.heap.size) := x3
        obtain ⟨va, vc, rfl, O3⟩ : ∃ va vc, v3 = .slice va (n + 1) vc ∧ Hid (z3.ownsRow 0 55 6 v3 (n + 1) (ndCells (us ++ [u]))) := by
          obtain ⟨va, vc, hv, _⟩ := NdsIn.of_own o3
          exact ⟨va, vc, hv, o3⟩
        have B3 := Lib.hid b3
        have KK3 := Lib.hid k3
        have ON3 : Hid (Only S wm z3) := (Only.of_below E2.out (Nat.le_refl _)).trans ⟨b3.os, b3.tape, b3.output, b3.size, fun k h1 h2 => k3 k h1 fun e => h2 (own_blk RW2.out HI.out.r k e.symm)⟩
        have GB3 : Hid (ObjAt z3 g 60 [.slice a n cap, .map (some gd), .map (some gf)]) := by
          have h := (PMm.out.below E2.out).o
          rw [HN.out] at h
          exact (k3 g h.lt (own_ne_obj RW2.out h (by decide))).trans h
        clear o3 b3 k3
        refine hK.out _ _ (KS.out _ ON3.out) (fun hHeld => ?_)
        clear hK K
        (try simp only [Act.put, List.setIfInBounds_toArray, List.set_cons_zero, List.set_cons_succ])
        refine wpAnyH_take (i := 10) (oi := { dst := some 56, op := Go.Op.nilCheck (Go.Operand.tmp 46), type := 0, pos := "rebuild.go:59", after := #[{ on := 0, ground := Go.Ground.data }, { on := 0, ground := Go.Ground.phase }, { on := 1, ground := Go.Ground.phase }, { on := 2, ground := Go.Ground.phase }, { on := 3, ground := Go.Ground.phase }, { on := 4, ground := Go.Ground.phase }, { on := 5, ground := Go.Ground.phase }, { on := 6, ground := Go.Ground.phase }, { on := 7, ground := Go.Ground.phase }, { on := 8, ground := Go.Ground.phase }, { on := 9, ground := Go.Ground.phase }], guard := none }) (v := ?_) rfl (by kernel_rfl) (by kernel_rfl) (by kernel_rfl) (fun _ _ _ h => h) (Or.inl ⟨by rfl, ?_⟩) (by assumption) ?_
        rotate_left 1
        focus ((intro wS hSw; (try dsimp only at hSw); go_simp) <;> (try with_reducible rfl))
        simp only [Act.put, List.setIfInBounds_toArray, List.set_cons_zero, List.set_cons_succ]
        refine wpAnyH_take (i := 11) (oi := { dst := some 57, op := Go.Op.fieldAddr 60 (Go.Operand.tmp 56) 0, type := 0, pos := "rebuild.go:59", after := #[{ on := 10, ground := Go.Ground.data }, { on := 0, ground := Go.Ground.phase }, { on := 1, ground := Go.Ground.phase }, { on := 2, ground := Go.Ground.phase }, { on := 3, ground := Go.Ground.phase }, { on := 4, ground := Go.Ground.phase }, { on := 5, ground := Go.Ground.phase }, { on := 6, ground := Go.Ground.phase }, { on := 7, ground := Go.Ground.phase }, { on := 8, ground := Go.Ground.phase }, { on := 9, ground := Go.Ground.phase }], guard := none }) (v := ?_) rfl (by kernel_rfl) (by kernel_rfl) (by kernel_rfl) (fun _ _ _ h => h) (Or.inl ⟨by rfl, ?_⟩) (by assumption) ?_
        rotate_left 1
        focus ((intro wS hSw; (try dsimp only at hSw); go_simp) <;> (try with_reducible rfl))
        simp only [Act.put, List.setIfInBounds_toArray, List.set_cons_zero, List.set_cons_succ]
        refine wpAnyH_ready (rs := [12]) (by kernel_rfl) (by simp) ?_
        refine AllReadyH.cons (o := { dst := none, op := Go.Op.store 32 (Go.Operand.tmp 57) (Go.Operand.tmp 55), type := 0, pos := "rebuild.go:59", after := #[{ on := 11, ground := Go.Ground.data }, { on := 9, ground := Go.Ground.data }, { on := 9, ground := Go.Ground.chain }, { on := 0, ground := Go.Ground.phase }, { on := 1, ground := Go.Ground.phase }, { on := 2, ground := Go.Ground.phase }, { on := 3, ground := Go.Ground.phase }, { on := 4, ground := Go.Ground.phase }, { on := 5, ground := Go.Ground.phase }, { on := 6, ground := Go.Ground.phase }, { on := 7, ground := Go.Ground.phase }, { on := 8, ground := Go.Ground.phase }, { on := 9, ground := Go.Ground.phase }], guard := none }) rfl (fun K hK => ?_) AllReadyH.nil
        refine step_store_one rfl 32 (.tmp 57) (.tmp 55) rfl g 0 rfl (.slice va (n + 1) vc) rfl rfl S22.out 60 [.slice a n cap, .map (some gd), .map (some gf)] GB3.out (by show 0 < 3; decide) ?_
        intro z4 o4 t4
        have RES : Hid (AddQ w S g A ⟨⟨0, p, m, t, (L : Int)⟩, d⟩ (.returned (.int .i64 0)) z4) := by
          obtain ⟨q1, q2⟩ := PMm.out.fin HI.out ONm.out HL3.out ADR.out.symm FD.out FF.out NW.out E1.out BB2.out (by rw [HN.out]; exact O3.out) B3.out (by rw [HN.out]; exact KK3.out) (by rw [HN.out]; exact X3.out) (by rw [HN.out]; exact o4) t4
          exact ⟨0, rfl, ADR.out, q1, by rw [if_pos rfl]; exact q2⟩
        have ks4 : (fun w' : World => w'.cell? ⟨w.heap.size, 0, none⟩ = some (.int .i64 0) ∧ w'.cell? ⟨w.heap.size, 1, none⟩ = some (.string p) ∧ w'.cell? ⟨w.heap.size, 2, none⟩ = some (.int .i64 m) ∧ w'.cell? ⟨w.heap.size, 3, none⟩ = some (.string t) ∧ w'.cell? ⟨w.heap.size, 4, none⟩ = some (.int .i64 (L : Int)) ∧ w'.cell? ⟨w.heap.size, 5, none⟩ = some (.slice x L xc)) z4 := KO.out _ ((KB.out _ ON3.out).turnB t4 (Ne.symm GW.out))
        clear o4 t4
        refine hK.out _ _ (ks4) (fun hHeld => ?_)
        clear hK K
        (try simp only [Act.put])
        refine wpAnyH_done (by kernel_rfl) ?_ _
        go_wp2_with fail
        go_ret
        exact RES.out
  · by_cases k1 : k = 1
    · subst k1
      have FD : Hid (Fm Fd (A ++ [⟨⟨1, p, m, t, (L : Int)⟩, d⟩]) 0 (fun _ => .bool true)) := HB.out.fd.stay (x := ⟨⟨1, p, m, t, (L : Int)⟩, d⟩) (by show ¬ (1 : Int) = 0; decide)
      have FF : Hid (Fm (upd Ff (.string p) (.int .i64 (n : Int))) (A ++ [⟨⟨1, p, m, t, (L : Int)⟩, d⟩]) 1 (fun r => .int .i64 (r : Int))) := by
        have := HB.out.ff.add (x := ⟨⟨1, p, m, t, (L : Int)⟩, d⟩) rfl (HB.out.good.new CHR.out 1)
        rw [HN.out] at this
        exact this
      go_wp2_with fail
      refine wp_region_held_drew (S := (fun w' : World => w'.cell? ⟨g, 2, none⟩ = some (.map (some gf)) ∧ w'.cell? ⟨g, 0, none⟩ = some (.slice a n cap) ∧ w'.cell? ⟨w.heap.size, 1, none⟩ = some (.string p))) (by kernel_rfl) (⟨(PM0.out.below D0.out).o.get 2 rfl, by rw [← HN.out]; exact (PM0.out.below D0.out).o.get 0 rfl, (G2.out.below D0.out G2.out.lt).get 1 rfl⟩) (fun hHeld => ?_)
      refine wpAnyH_take (i := 0) (oi := { dst := some 34, op := Go.Op.move (Go.Operand.tmp 0), type := 23, pos := "rebuild.go:57", after := #[], guard := none }) (v := ?_) rfl (by kernel_rfl) (by kernel_rfl) (by kernel_rfl) (fun _ _ _ h => h) (Or.inl ⟨by rfl, ?_⟩) (by assumption) ?_
      rotate_left 1
      focus ((intro wS hSw; (try dsimp only at hSw); go_simp) <;> (try with_reducible rfl))
      simp only [Act.put, List.setIfInBounds_toArray, List.set_cons_zero, List.set_cons_succ]
      refine wpAnyH_take (i := 1) (oi := { dst := some 35, op := Go.Op.nilCheck (Go.Operand.tmp 34), type := 0, pos := "rebuild.go:57", after := #[{ on := 0, ground := Go.Ground.data }], guard := none }) (v := ?_) rfl (by kernel_rfl) (by kernel_rfl) (by kernel_rfl) (fun _ _ _ h => h) (Or.inl ⟨by rfl, ?_⟩) (by assumption) ?_
      rotate_left 1
      focus ((intro wS hSw; (try dsimp only at hSw); go_simp) <;> (try with_reducible rfl))
      simp only [Act.put, List.setIfInBounds_toArray, List.set_cons_zero, List.set_cons_succ]
      refine wpAnyH_take (i := 2) (oi := { dst := some 36, op := Go.Op.fieldAddr 60 (Go.Operand.tmp 35) 2, type := 0, pos := "rebuild.go:57", after := #[{ on := 1, ground := Go.Ground.data }], guard := none }) (v := ?_) rfl (by kernel_rfl) (by kernel_rfl) (by kernel_rfl) (fun _ _ _ h => h) (Or.inl ⟨by rfl, ?_⟩) (by assumption) ?_
      rotate_left 1
      focus ((intro wS hSw; (try dsimp only at hSw); go_simp) <;> (try with_reducible rfl))
      simp only [Act.put, List.setIfInBounds_toArray, List.set_cons_zero, List.set_cons_succ]
      refine wpAnyH_take (i := 3) (oi := { dst := some 37, op := Go.Op.load 58 (Go.Operand.tmp 36), type := 58, pos := "rebuild.go:57", after := #[{ on := 2, ground := Go.Ground.data }], guard := none }) (v := ?_) rfl (by kernel_rfl) (by kernel_rfl) (by kernel_rfl) (fun _ _ _ h => h) (Or.inl ⟨by rfl, ?_⟩) (by assumption) ?_
      rotate_left 1
      focus ((intro wS hSw; (try dsimp only at hSw); go_simp) <;> (try with_reducible rfl))
      simp only [Act.put, List.setIfInBounds_toArray, List.set_cons_zero, List.set_cons_succ]
      refine wpAnyH_take (i := 4) (oi := { dst := some 38, op := Go.Op.fieldAddr 30 (Go.Operand.tmp 3) 0, type := 0, pos := "rebuild.go:57", after := #[], guard := none }) (v := ?_) rfl (by kernel_rfl) (by kernel_rfl) (by kernel_rfl) (fun _ _ _ h => h) (Or.inl ⟨by rfl, ?_⟩) (by assumption) ?_
      rotate_left 1
      focus ((intro wS hSw; (try dsimp only at hSw); go_simp) <;> (try with_reducible rfl))
      simp only [Act.put, List.setIfInBounds_toArray, List.set_cons_zero, List.set_cons_succ]
      refine wpAnyH_take (i := 5) (oi := { dst := some 39, op := Go.Op.fieldAddr 27 (Go.Operand.tmp 38) 1, type := 0, pos := "rebuild.go:57", after := #[{ on := 4, ground := Go.Ground.data }], guard := none }) (v := ?_) rfl (by kernel_rfl) (by kernel_rfl) (by kernel_rfl) (fun _ _ _ h => h) (Or.inl ⟨by rfl, ?_⟩) (by assumption) ?_
      rotate_left 1
      focus ((intro wS hSw; (try dsimp only at hSw); go_simp) <;> (try with_reducible rfl))
      simp only [Act.put, List.setIfInBounds_toArray, List.set_cons_zero, List.set_cons_succ]
      refine wpAnyH_take (i := 6) (oi := { dst := some 40, op := Go.Op.load 9 (Go.Operand.tmp 39), type := 9, pos := "rebuild.go:57", after := #[{ on := 5, ground := Go.Ground.data }], guard := none }) (v := ?_) rfl (by kernel_rfl) (by kernel_rfl) (by kernel_rfl) (fun _ _ _ h => h) (Or.inl ⟨by rfl, ?_⟩) (by assumption) ?_
      rotate_left 1
      focus ((intro wS hSw; (try dsimp only at hSw); go_simp) <;> (try with_reducible rfl))
      simp only [Act.put, List.setIfInBounds_toArray, List.set_cons_zero, List.set_cons_succ]
      refine wpAnyH_take (i := 7) (oi := { dst := some 41, op := Go.Op.move (Go.Operand.tmp 0), type := 23, pos := "rebuild.go:57", after := #[], guard := none }) (v := ?_) rfl (by kernel_rfl) (by kernel_rfl) (by kernel_rfl) (fun _ _ _ h => h) (Or.inl ⟨by rfl, ?_⟩) (by assumption) ?_
      rotate_left 1
      focus ((intro wS hSw; (try dsimp only at hSw); go_simp) <;> (try with_reducible rfl))
      simp only [Act.put, List.setIfInBounds_toArray, List.set_cons_zero, List.set_cons_succ]
      refine wpAnyH_take (i := 8) (oi := { dst := some 42, op := Go.Op.nilCheck (Go.Operand.tmp 41), type := 0, pos := "rebuild.go:57", after := #[{ on := 7, ground := Go.Ground.data }], guard := none }) (v := ?_) rfl (by kernel_rfl) (by kernel_rfl) (by kernel_rfl) (fun _ _ _ h => h) (Or.inl ⟨by rfl, ?_⟩) (by assumption) ?_
      rotate_left 1
      focus ((intro wS hSw; (try dsimp only at hSw); go_simp) <;> (try with_reducible rfl))
      simp only [Act.put, List.setIfInBounds_toArray, List.set_cons_zero, List.set_cons_succ]
      refine wpAnyH_take (i := 9) (oi := { dst := some 43, op := Go.Op.fieldAddr 60 (Go.Operand.tmp 42) 0, type := 0, pos := "rebuild.go:57", after := #[{ on := 8, ground := Go.Ground.data }], guard := none }) (v := ?_) rfl (by kernel_rfl) (by kernel_rfl) (by kernel_rfl) (fun _ _ _ h => h) (Or.inl ⟨by rfl, ?_⟩) (by assumption) ?_
      rotate_left 1
      focus ((intro wS hSw; (try dsimp only at hSw); go_simp) <;> (try with_reducible rfl))
      simp only [Act.put, List.setIfInBounds_toArray, List.set_cons_zero, List.set_cons_succ]
      refine wpAnyH_take (i := 10) (oi := { dst := some 44, op := Go.Op.load 32 (Go.Operand.tmp 43), type := 32, pos := "rebuild.go:57", after := #[{ on := 9, ground := Go.Ground.data }], guard := none }) (v := ?_) rfl (by kernel_rfl) (by kernel_rfl) (by kernel_rfl) (fun _ _ _ h => h) (Or.inl ⟨by rfl, ?_⟩) (by assumption) ?_
      rotate_left 1
      focus ((intro wS hSw; (try dsimp only at hSw); go_simp) <;> (try with_reducible rfl))
      simp only [Act.put, List.setIfInBounds_toArray, List.set_cons_zero, List.set_cons_succ]
      refine wpAnyH_take (i := 11) (oi := { dst := some 45, op := Go.Op.call { callee := Go.Callee.builtin Go.Builtin.len, args := #[Go.Operand.tmp 44], argTypes := #[32] }, type := 3, pos := "rebuild.go:57", after := #[{ on := 10, ground := Go.Ground.data }], guard := none }) (v := ?_) rfl (by kernel_rfl) (by kernel_rfl) (by kernel_rfl) (fun _ _ _ h => h) (Or.inl ⟨by rfl, ?_⟩) (by assumption) ?_
      rotate_left 1
      focus ((intro wS hSw; (try dsimp only at hSw); go_simp) <;> (try with_reducible rfl))
      simp only [Act.put, List.setIfInBounds_toArray, List.set_cons_zero, List.set_cons_succ]
      refine wpAnyH_ready (rs := [12]) (by kernel_rfl) (by simp) ?_
      refine AllReadyH.cons (o := { dst := none, op := Go.Op.mapUpdate 58 (Go.Operand.tmp 37) (Go.Operand.tmp 40) (Go.Operand.tmp 45), type := 0, pos := "rebuild.go:57", after := #[{ on := 3, ground := Go.Ground.data }, { on := 6, ground := Go.Ground.data }, { on := 11, ground := Go.Ground.data }, { on := 0, ground := Go.Ground.phase }, { on := 1, ground := Go.Ground.phase }, { on := 2, ground := Go.Ground.phase }, { on := 3, ground := Go.Ground.phase }, { on := 4, ground := Go.Ground.phase }, { on := 5, ground := Go.Ground.phase }, { on := 6, ground := Go.Ground.phase }, { on := 7, ground := Go.Ground.phase }, { on := 8, ground := Go.Ground.phase }, { on := 9, ground := Go.Ground.phase }, { on := 10, ground := Go.Ground.phase }, { on := 11, ground := Go.Ground.phase }], guard := none }) rfl (fun K hK => ?_) AllReadyH.nil
      refine step_update_map rfl 58 _ _ _ rfl 9 3 Tryd.underlying58 .string Tryd.underlying9 gf rfl (.string p) rfl (show IsKey .string (.string p) from trivial) (.int .i64 (n : Int)) rfl nf1 Ff (PM0.out.below D0.out).mf ?_
      intro wm m8 t8
      have PMm := Lib.hid ((PM0.out.below D0.out).fil m8 t8)
      have MBm := Lib.hid (((G2.out.below D0.out G2.out.lt)).turnB t8 (Ne.symm GFW.out))
      have ONm : Hid (Only S w wm) := (Only.of_below (B2.out.trans (D0.out.mono B2.out.size)) (Nat.le_refl _)).trans (TurnB.only t8 HI.out.f)
      clear m8 t8
      refine hK.out _ _ (⟨PMm.out.o.get 2 rfl, by rw [← HN.out]; exact PMm.out.o.get 0 rfl, MBm.out.get 1 rfl⟩) (fun hHeld => ?_)
      clear hK K
      (try simp only [Act.put])
      refine wpAnyH_done (by kernel_rfl) ?_ _
      clear hHeld c0 c4 c5 g0
      have NC : Hid (∀ w', Below wm.heap.size wm w' → Calls Tryd.prog 25 #[.pointer (some ⟨g, 0, none⟩), .agg (mbC 1 p m t (L : Int) x L xc).toArray] w' fun e w'' => ∃ u, e = .returned (.agg (ndV u).toArray) ∧ Nw S w' w'' A ⟨⟨1, p, m, t, (L : Int)⟩, d⟩ u ∧ Below w'.heap.size w' w'') := fun w' h => by
        have := node_own (S := S) (PMm.out.below h).o ⟨⟨⟨1, p, m, t, (L : Int)⟩, d⟩, x, xc⟩ (MbF.onlyE HY.out (ONm.out.trans (Only.of_below h (Nat.le_refl _))) HYS.out) (by rw [HN.out]; exact N40.out) (by show ¬ (1 : Int) = 3; decide)
        dsimp only [mbV] at this
        rw [HL.out] at this
        exact this
      go_wp2_with fail
      have E0 : Hid (Below wm.heap.size wm wm.drew) := (Below.refl _ _).drew
      have GO : Hid (∀ w', Below wm.heap.size wm w' → w'.cell? ⟨g, 0, none⟩ = some (.slice a n cap)) := fun w' h => by rw [← HN.out]; exact (PMm.out.below h).o.get 0 rfl
      have KO : Hid (∀ w', ObjAt w' w.heap.size 30 (mbC 1 p m t (L : Int) x L xc) → (fun w' : World => w'.cell? ⟨w.heap.size, 0, none⟩ = some (.int .i64 1) ∧ w'.cell? ⟨w.heap.size, 1, none⟩ = some (.string p) ∧ w'.cell? ⟨w.heap.size, 2, none⟩ = some (.int .i64 m) ∧ w'.cell? ⟨w.heap.size, 3, none⟩ = some (.string t) ∧ w'.cell? ⟨w.heap.size, 4, none⟩ = some (.int .i64 (L : Int)) ∧ w'.cell? ⟨w.heap.size, 5, none⟩ = some (.slice x L xc)) w') := fun w' h => ⟨h.get 0 rfl, h.get 1 rfl, h.get 2 rfl, h.get 3 rfl, h.get 4 rfl, h.get 5 rfl⟩
      have KB : Hid (∀ w', Only S wm w' → ObjAt w' w.heap.size 30 (mbC 1 p m t (L : Int) x L xc)) := fun w' h => MBm.out.only h fun hs => Nat.lt_irrefl _ (HL3.out _ hs)
      have KS : Hid (∀ w', Only S wm w' → (fun w' : World => w'.cell? ⟨w.heap.size, 0, none⟩ = some (.int .i64 1) ∧ w'.cell? ⟨w.heap.size, 1, none⟩ = some (.string p) ∧ w'.cell? ⟨w.heap.size, 2, none⟩ = some (.int .i64 m) ∧ w'.cell? ⟨w.heap.size, 3, none⟩ = some (.string t) ∧ w'.cell? ⟨w.heap.size, 4, none⟩ = some (.int .i64 (L : Int)) ∧ w'.cell? ⟨w.heap.size, 5, none⟩ = some (.slice x L xc)) w') := fun w' h => KO.out _ (KB.out _ h)
      refine wp_region_held_drew (S := (fun w' : World => w'.cell? ⟨w.heap.size, 0, none⟩ = some (.int .i64 1) ∧ w'.cell? ⟨w.heap.size, 1, none⟩ = some (.string p) ∧ w'.cell? ⟨w.heap.size, 2, none⟩ = some (.int .i64 m) ∧ w'.cell? ⟨w.heap.size, 3, none⟩ = some (.string t) ∧ w'.cell? ⟨w.heap.size, 4, none⟩ = some (.int .i64 (L : Int)) ∧ w'.cell? ⟨w.heap.size, 5, none⟩ = some (.slice x L xc))) (by kernel_rfl) (KS.out _ (Only.of_below E0.out (Nat.le_refl _))) (fun hHeld => ?_)
      refine wpAnyH_take (i := 0) (oi := { dst := some 46, op := Go.Op.move (Go.Operand.tmp 0), type := 23, pos := "rebuild.go:59", after := #[], guard := none }) (v := ?_) rfl (by kernel_rfl) (by kernel_rfl) (by kernel_rfl) (fun _ _ _ h => h) (Or.inl ⟨by rfl, ?_⟩) (by assumption) ?_
      rotate_left 1
      focus ((intro wS hSw; (try dsimp only at hSw); go_simp) <;> (try with_reducible rfl))
      simp only [Act.put, List.setIfInBounds_toArray, List.set_cons_zero, List.set_cons_succ]
      refine wpAnyH_take (i := 1) (oi := { dst := some 47, op := Go.Op.move (Go.Operand.tmp 0), type := 23, pos := "rebuild.go:59", after := #[], guard := none }) (v := ?_) rfl (by kernel_rfl) (by kernel_rfl) (by kernel_rfl) (fun _ _ _ h => h) (Or.inl ⟨by rfl, ?_⟩) (by assumption) ?_
      rotate_left 1
      focus ((intro wS hSw; (try dsimp only at hSw); go_simp) <;> (try with_reducible rfl))
      simp only [Act.put, List.setIfInBounds_toArray, List.set_cons_zero, List.set_cons_succ]
      refine wpAnyH_take (i := 2) (oi := { dst := some 48, op := Go.Op.nilCheck (Go.Operand.tmp 47), type := 0, pos := "rebuild.go:59", after := #[{ on := 1, ground := Go.Ground.data }], guard := none }) (v := ?_) rfl (by kernel_rfl) (by kernel_rfl) (by kernel_rfl) (fun _ _ _ h => h) (Or.inl ⟨by rfl, ?_⟩) (by assumption) ?_
      rotate_left 1
      focus ((intro wS hSw; (try dsimp only at hSw); go_simp) <;> (try with_reducible rfl))
      simp only [Act.put, List.setIfInBounds_toArray, List.set_cons_zero, List.set_cons_succ]
      refine wpAnyH_take (i := 3) (oi := { dst := some 49, op := Go.Op.fieldAddr 60 (Go.Operand.tmp 48) 0, type := 0, pos := "rebuild.go:59", after := #[{ on := 2, ground := Go.Ground.data }], guard := none }) (v := ?_) rfl (by kernel_rfl) (by kernel_rfl) (by kernel_rfl) (fun _ _ _ h => h) (Or.inl ⟨by rfl, ?_⟩) (by assumption) ?_
      rotate_left 1
      focus ((intro wS hSw; (try dsimp only at hSw); go_simp) <;> (try with_reducible rfl))
      simp only [Act.put, List.setIfInBounds_toArray, List.set_cons_zero, List.set_cons_succ]
      refine wpAnyH_take (i := 5) (oi := { dst := some 51, op := Go.Op.move (Go.Operand.tmp 0), type := 23, pos := "rebuild.go:59", after := #[], guard := none }) (v := ?_) rfl (by kernel_rfl) (by kernel_rfl) (by kernel_rfl) (fun _ _ _ h => h) (Or.inl ⟨by rfl, ?_⟩) (by assumption) ?_
      rotate_left 1
      focus ((intro wS hSw; (try dsimp only at hSw); go_simp) <;> (try with_reducible rfl))
      simp only [Act.put, List.setIfInBounds_toArray, List.set_cons_zero, List.set_cons_succ]
      refine wpAnyH_take (i := 6) (oi := { dst := some 52, op := Go.Op.load 30 (Go.Operand.tmp 3), type := 30, pos := "rebuild.go:59", after := #[], guard := none }) (v := ?_) rfl (by kernel_rfl) (by kernel_rfl) (by kernel_rfl) (fun _ _ _ h => h) (Or.inl ⟨by rfl, ?_⟩) (by assumption) ?_
      rotate_left 1
      focus ((intro wS hSw; (try dsimp only at hSw); go_simp) <;> (try with_reducible rfl))
      simp only [Act.put, List.setIfInBounds_toArray, List.set_cons_zero, List.set_cons_succ]
      refine wpAnyH_ready (rs := [4, 7]) (by kernel_rfl) (by simp) ?_
      refine AllReadyH.cons (o := { dst := some 50, op := Go.Op.load 32 (Go.Operand.tmp 49), type := 32, pos := "rebuild.go:59", after := #[{ on := 3, ground := Go.Ground.data }], guard := none }) rfl (fun K hK => ?_) (AllReadyH.cons (o := { dst := some 53, op := Go.Op.call { callee := Go.Callee.value (Go.Operand.func 25), args := #[Go.Operand.tmp 51, Go.Operand.tmp 52], argTypes := #[23, 30] }, type := 55, pos := "rebuild.go:59", after := #[{ on := 5, ground := Go.Ground.data }, { on := 6, ground := Go.Ground.data }], guard := none }) rfl (fun K hK => ?_) AllReadyH.nil)
      · refine step_load_run rfl 32 (.tmp 49) rfl ⟨g, 0, none⟩ rfl (.slice a n cap) (LG.out _ (GO.out _ E0.out)) ?_
        refine hK.out _ _ (KS.out _ (Only.of_below E0.out (Nat.le_refl _))) (fun hHeld => ?_)
        clear hK K
        (try simp only [Act.put, List.setIfInBounds_toArray, List.set_cons_zero, List.set_cons_succ])
        refine wpAnyH_ready (rs := [7]) (by kernel_rfl) (by simp) ?_
        refine AllReadyH.cons (o := { dst := some 53, op := Go.Op.call { callee := Go.Callee.value (Go.Operand.func 25), args := #[Go.Operand.tmp 51, Go.Operand.tmp 52], argTypes := #[23, 30] }, type := 55, pos := "rebuild.go:59", after := #[{ on := 5, ground := Go.Ground.data }, { on := 6, ground := Go.Ground.data }], guard := none }) rfl (fun K hK => ?_) AllReadyH.nil
        go_simp
        refine (NC.out _ E0.out).mono ?_
        rintro e z1 ⟨u, rfl, hu, b1⟩
        have NW : Hid (Nw S wm z1 A ⟨⟨1, p, m, t, (L : Int)⟩, d⟩ u) := ⟨hu.n, hu.s, hu.f, hu.i⟩
        have E1 : Hid (Below wm.heap.size wm z1) := E0.out.trans (b1.mono (Nat.le_refl _))
        clear hu b1
        refine hK.out _ _ (KS.out _ (Only.of_below E1.out (Nat.le_refl _))) (fun hHeld => ?_)
        clear hK K
        (try simp only [Act.put, List.setIfInBounds_toArray, List.set_cons_zero, List.set_cons_succ])
        refine wpAnyH_ready (rs := [8]) (by kernel_rfl) (by simp) ?_
        refine AllReadyH.cons (o := { dst := some 54, op := Go.Op.buildSlice 32 1 #[(0, Go.Operand.tmp 53)], type := 32, pos := "rebuild.go:59", after := #[{ on := 7, ground := Go.Ground.data }], guard := none }) rfl (fun K hK => ?_) AllReadyH.nil
        refine step_lit_nd1 rfl 32 55 (.tmp 53) rfl Tryd.underlying32 _ IN.out u rfl ?_
        intro z2 g2 b2
        have L2 : Hid (ObjAt z2 z1.heap.size 55 (ndCells [u])) := g2
        have BB2 : Hid (Below z1.heap.size z1 z2) := b2
        have E2 : Hid (Below wm.heap.size wm z2) := E1.out.trans (b2.mono E1.out.size)
        have RW2 : Hid (z2.ownsRow 0 55 6 (.slice a n cap) n (ndCells us)) := by
          show World.ownsRow _ _ _ _ _ _ _
          rw [← HN.out]; exact (PMm.out.below E2.out).r
        clear g2 b2
        refine hK.out _ _ (KS.out _ (Only.of_below E2.out (Nat.le_refl _))) (fun hHeld => ?_)
        clear hK K
        (try simp only [Act.put, List.setIfInBounds_toArray, List.set_cons_zero, List.set_cons_succ])
        refine wpAnyH_ready (rs := [9]) (by kernel_rfl) (by simp) ?_
        refine AllReadyH.cons (o := { dst := some 55, op := Go.Op.call { callee := Go.Callee.builtin Go.Builtin.append, args := #[Go.Operand.tmp 50, Go.Operand.tmp 54], argTypes := #[32, 32] }, type := 32, pos := "rebuild.go:59", after := #[{ on := 4, ground := Go.Ground.data }, { on := 8, ground := Go.Ground.data }, { on := 7, ground := Go.Ground.chain }], guard := none }) rfl (fun K hK => ?_) AllReadyH.nil
        refine step_append_ndx rfl (.tmp 50) (.tmp 54) 32 rfl 0 55 i0 _ Tryd.underlying32 HI0 rfl (.slice a n cap) n us rfl RW2.out (some ⟨z1.heap.size, 0, none⟩) 1 1 [u] rfl (.inr ⟨_, 0, rfl, L2.out.lt, .of_cells L2.out⟩) rfl (by have := N40.out; omega) (Nat.zero_le _) ?_
        intro v3 z3 o3 b3 k3 x3
        have X3 : Hid (v3.ownBlock = (Value.slice a n cap).ownBlock ∨ v3.ownBlock = some z2.heap.size) := x3
        obtain ⟨va, vc, rfl, O3⟩ : ∃ va vc, v3 = .slice va (n + 1) vc ∧ Hid (z3.ownsRow 0 55 6 v3 (n + 1) (ndCells (us ++ [u]))) := by
          obtain ⟨va, vc, hv, _⟩ := NdsIn.of_own o3
          exact ⟨va, vc, hv, o3⟩
        have B3 := Lib.hid b3
        have KK3 := Lib.hid k3
        have ON3 : Hid (Only S wm z3) := (Only.of_below E2.out (Nat.le_refl _)).trans ⟨b3.os, b3.tape, b3.output, b3.size, fun k h1 h2 => k3 k h1 fun e => h2 (own_blk RW2.out HI.out.r k e.symm)⟩
        have GB3 : Hid (ObjAt z3 g 60 [.slice a n cap, .map (some gd), .map (some gf)]) := by
          have h := (PMm.out.below E2.out).o
          rw [HN.out] at h
          exact (k3 g h.lt (own_ne_obj RW2.out h (by decide))).trans h
        clear o3 b3 k3
        refine hK.out _ _ (KS.out _ ON3.out) (fun hHeld => ?_)
        clear hK K
        (try simp only [Act.put, List.setIfInBounds_toArray, List.set_cons_zero, List.set_cons_succ])
        refine wpAnyH_take (i := 10) (oi := { dst := some 56, op := Go.Op.nilCheck (Go.Operand.tmp 46), type := 0, pos := "rebuild.go:59", after := #[{ on := 0, ground := Go.Ground.data }, { on := 0, ground := Go.Ground.phase }, { on := 1, ground := Go.Ground.phase }, { on := 2, ground := Go.Ground.phase }, { on := 3, ground := Go.Ground.phase }, { on := 4, ground := Go.Ground.phase }, { on := 5, ground := Go.Ground.phase }, { on := 6, ground := Go.Ground.phase }, { on := 7, ground := Go.Ground.phase }, { on := 8, ground := Go.Ground.phase }, { on := 9, ground := Go.Ground.phase }], guard := none }) (v := ?_) rfl (by kernel_rfl) (by kernel_rfl) (by kernel_rfl) (fun _ _ _ h => h) (Or.inl ⟨by rfl, ?_⟩) (by assumption) ?_
        rotate_left 1
        focus ((intro wS hSw; (try dsimp only at hSw); go_simp) <;> (try with_reducible rfl))
        simp only [Act.put, List.setIfInBounds_toArray, List.set_cons_zero, List.set_cons_succ]
        refine wpAnyH_take (i := 11) (oi := { dst := some 57, op := Go.Op.fieldAddr 60 (Go.Operand.tmp 56) 0, type := 0, pos := "rebuild.go:59", after := #[{ on := 10, ground := Go.Ground.data }, { on := 0, ground := Go.Ground.phase }, { on := 1, ground := Go.Ground.phase }, { on := 2, ground := Go.Ground.phase }, { on := 3, ground := Go.Ground.phase }, { on := 4, ground := Go.Ground.phase }, { on := 5, ground := Go.Ground.phase }, { on := 6, ground := Go.Ground.phase }, { on := 7, ground := Go.Ground.phase }, { on := 8, ground := Go.Ground.phase }, { on := 9, ground := Go.Ground.phase }], guard := none }) (v := ?_) rfl (by kernel_rfl) (by kernel_rfl) (by kernel_rfl) (fun _ _ _ h => h) (Or.inl ⟨by rfl, ?_⟩) (by assumption) ?_
        rotate_left 1
        focus ((intro wS hSw; (try dsimp only at hSw); go_simp) <;> (try with_reducible rfl))
        simp only [Act.put, List.setIfInBounds_toArray, List.set_cons_zero, List.set_cons_succ]
        refine wpAnyH_ready (rs := [12]) (by kernel_rfl) (by simp) ?_
        refine AllReadyH.cons (o := { dst := none, op := Go.Op.store 32 (Go.Operand.tmp 57) (Go.Operand.tmp 55), type := 0, pos := "rebuild.go:59", after := #[{ on := 11, ground := Go.Ground.data }, { on := 9, ground := Go.Ground.data }, { on := 9, ground := Go.Ground.chain }, { on := 0, ground := Go.Ground.phase }, { on := 1, ground := Go.Ground.phase }, { on := 2, ground := Go.Ground.phase }, { on := 3, ground := Go.Ground.phase }, { on := 4, ground := Go.Ground.phase }, { on := 5, ground := Go.Ground.phase }, { on := 6, ground := Go.Ground.phase }, { on := 7, ground := Go.Ground.phase }, { on := 8, ground := Go.Ground.phase }, { on := 9, ground := Go.Ground.phase }], guard := none }) rfl (fun K hK => ?_) AllReadyH.nil
        refine step_store_one rfl 32 (.tmp 57) (.tmp 55) rfl g 0 rfl (.slice va (n + 1) vc) rfl rfl S22.out 60 [.slice a n cap, .map (some gd), .map (some gf)] GB3.out (by show 0 < 3; decide) ?_
        intro z4 o4 t4
        have RES : Hid (AddQ w S g A ⟨⟨1, p, m, t, (L : Int)⟩, d⟩ (.returned (.int .i64 0)) z4) := by
          obtain ⟨q1, q2⟩ := PMm.out.fin HI.out ONm.out HL3.out ADR.out.symm FD.out FF.out NW.out E1.out BB2.out (by rw [HN.out]; exact O3.out) B3.out (by rw [HN.out]; exact KK3.out) (by rw [HN.out]; exact X3.out) (by rw [HN.out]; exact o4) t4
          exact ⟨0, rfl, ADR.out, q1, by rw [if_pos rfl]; exact q2⟩
        have ks4 : (fun w' : World => w'.cell? ⟨w.heap.size, 0, none⟩ = some (.int .i64 1) ∧ w'.cell? ⟨w.heap.size, 1, none⟩ = some (.string p) ∧ w'.cell? ⟨w.heap.size, 2, none⟩ = some (.int .i64 m) ∧ w'.cell? ⟨w.heap.size, 3, none⟩ = some (.string t) ∧ w'.cell? ⟨w.heap.size, 4, none⟩ = some (.int .i64 (L : Int)) ∧ w'.cell? ⟨w.heap.size, 5, none⟩ = some (.slice x L xc)) z4 := KO.out _ ((KB.out _ ON3.out).turnB t4 (Ne.symm GW.out))
        clear o4 t4
        refine hK.out _ _ (ks4) (fun hHeld => ?_)
        clear hK K
        (try simp only [Act.put])
        refine wpAnyH_done (by kernel_rfl) ?_ _
        go_wp2_with fail
        go_ret
        exact RES.out
      · go_simp
        refine (NC.out _ E0.out).mono ?_
        rintro e z1 ⟨u, rfl, hu, b1⟩
        have NW : Hid (Nw S wm z1 A ⟨⟨1, p, m, t, (L : Int)⟩, d⟩ u) := ⟨hu.n, hu.s, hu.f, hu.i⟩
        have E1 : Hid (Below wm.heap.size wm z1) := E0.out.trans (b1.mono (Nat.le_refl _))
        clear hu b1
        refine hK.out _ _ (KS.out _ (Only.of_below E1.out (Nat.le_refl _))) (fun hHeld => ?_)
        clear hK K
        (try simp only [Act.put, List.setIfInBounds_toArray, List.set_cons_zero, List.set_cons_succ])
        refine wpAnyH_ready (rs := [4, 8]) (by kernel_rfl) (by simp) ?_
        refine AllReadyH.cons (o := { dst := some 50, op := Go.Op.load 32 (Go.Operand.tmp 49), type := 32, pos := "rebuild.go:59", after := #[{ on := 3, ground := Go.Ground.data }], guard := none }) rfl (fun K hK => ?_) (AllReadyH.cons (o := { dst := some 54, op := Go.Op.buildSlice 32 1 #[(0, Go.Operand.tmp 53)], type := 32, pos := "rebuild.go:59", after := #[{ on := 7, ground := Go.Ground.data }], guard := none }) rfl (fun K hK => ?_) AllReadyH.nil)
        · refine step_load_run rfl 32 (.tmp 49) rfl ⟨g, 0, none⟩ rfl (.slice a n cap) (LG.out _ (GO.out _ E1.out)) ?_
          refine hK.out _ _ (KS.out _ (Only.of_below E1.out (Nat.le_refl _))) (fun hHeld => ?_)
          clear hK K
          (try simp only [Act.put, List.setIfInBounds_toArray, List.set_cons_zero, List.set_cons_succ])
          refine wpAnyH_ready (rs := [8]) (by kernel_rfl) (by simp) ?_
          refine AllReadyH.cons (o := { dst := some 54, op := Go.Op.buildSlice 32 1 #[(0, Go.Operand.tmp 53)], type := 32, pos := "rebuild.go:59", after := #[{ on := 7, ground := Go.Ground.data }], guard := none }) rfl (fun K hK => ?_) AllReadyH.nil
          refine step_lit_nd1 rfl 32 55 (.tmp 53) rfl Tryd.underlying32 _ IN.out u rfl ?_
          intro z2 g2 b2
          have L2 : Hid (ObjAt z2 z1.heap.size 55 (ndCells [u])) := g2
          have BB2 : Hid (Below z1.heap.size z1 z2) := b2
          have E2 : Hid (Below wm.heap.size wm z2) := E1.out.trans (b2.mono E1.out.size)
          have RW2 : Hid (z2.ownsRow 0 55 6 (.slice a n cap) n (ndCells us)) := by
            show World.ownsRow _ _ _ _ _ _ _
            rw [← HN.out]; exact (PMm.out.below E2.out).r
          clear g2 b2
          refine hK.out _ _ (KS.out _ (Only.of_below E2.out (Nat.le_refl _))) (fun hHeld => ?_)
          clear hK K
          (try simp only [Act.put, List.setIfInBounds_toArray, List.set_cons_zero, List.set_cons_succ])
          refine wpAnyH_ready (rs := [9]) (by kernel_rfl) (by simp) ?_
          refine AllReadyH.cons (o := { dst := some 55, op := Go.Op.call { callee := Go.Callee.builtin Go.Builtin.append, args := #[Go.Operand.tmp 50, Go.Operand.tmp 54], argTypes := #[32, 32] }, type := 32, pos := "rebuild.go:59", after := #[{ on := 4, ground := Go.Ground.data }, { on := 8, ground := Go.Ground.data }, { on := 7, ground := Go.Ground.chain }], guard := none }) rfl (fun K hK => ?_) AllReadyH.nil
          refine step_append_ndx rfl (.tmp 50) (.tmp 54) 32 rfl 0 55 i0 _ Tryd.underlying32 HI0 rfl (.slice a n cap) n us rfl RW2.out (some ⟨z1.heap.size, 0, none⟩) 1 1 [u] rfl (.inr ⟨_, 0, rfl, L2.out.lt, .of_cells L2.out⟩) rfl (by have := N40.out; omega) (Nat.zero_le _) ?_
          intro v3 z3 o3 b3 k3 x3
          have X3 : Hid (v3.ownBlock = (Value.slice a n cap).ownBlock ∨ v3.ownBlock = some z2.heap.size) := x3
          obtain ⟨va, vc, rfl, O3⟩ : ∃ va vc, v3 = .slice va (n + 1) vc ∧ Hid (z3.ownsRow 0 55 6 v3 (n + 1) (ndCells (us ++ [u]))) := by
            obtain ⟨va, vc, hv, _⟩ := NdsIn.of_own o3
            exact ⟨va, vc, hv, o3⟩
          have B3 := Lib.hid b3
          have KK3 := Lib.hid k3
          have ON3 : Hid (Only S wm z3) := (Only.of_below E2.out (Nat.le_refl _)).trans ⟨b3.os, b3.tape, b3.output, b3.size, fun k h1 h2 => k3 k h1 fun e => h2 (own_blk RW2.out HI.out.r k e.symm)⟩
          have GB3 : Hid (ObjAt z3 g 60 [.slice a n cap, .map (some gd), .map (some gf)]) := by
            have h := (PMm.out.below E2.out).o
            rw [HN.out] at h
            exact (k3 g h.lt (own_ne_obj RW2.out h (by decide))).trans h
          clear o3 b3 k3
          refine hK.out _ _ (KS.out _ ON3.out) (fun hHeld => ?_)
          clear hK K
          (try simp only [Act.put, List.setIfInBounds_toArray, List.set_cons_zero, List.set_cons_succ])
          refine wpAnyH_take (i := 10) (oi := { dst := some 56, op := Go.Op.nilCheck (Go.Operand.tmp 46), type := 0, pos := "rebuild.go:59", after := #[{ on := 0, ground := Go.Ground.data }, { on := 0, ground := Go.Ground.phase }, { on := 1, ground := Go.Ground.phase }, { on := 2, ground := Go.Ground.phase }, { on := 3, ground := Go.Ground.phase }, { on := 4, ground := Go.Ground.phase }, { on := 5, ground := Go.Ground.phase }, { on := 6, ground := Go.Ground.phase }, { on := 7, ground := Go.Ground.phase }, { on := 8, ground := Go.Ground.phase }, { on := 9, ground := Go.Ground.phase }], guard := none }) (v := ?_) rfl (by kernel_rfl) (by kernel_rfl) (by kernel_rfl) (fun _ _ _ h => h) (Or.inl ⟨by rfl, ?_⟩) (by assumption) ?_
          rotate_left 1
          focus ((intro wS hSw; (try dsimp only at hSw); go_simp) <;> (try with_reducible rfl))
          simp only [Act.put, List.setIfInBounds_toArray, List.set_cons_zero, List.set_cons_succ]
          refine wpAnyH_take (i := 11) (oi := { dst := some 57, op := Go.Op.fieldAddr 60 (Go.Operand.tmp 56) 0, type := 0, pos := "rebuild.go:59", after := #[{ on := 10, ground := Go.Ground.data }, { on := 0, ground := Go.Ground.phase }, { on := 1, ground := Go.Ground.phase }, { on := 2, ground := Go.Ground.phase }, { on := 3, ground := Go.Ground.phase }, { on := 4, ground := Go.Ground.phase }, { on := 5, ground := Go.Ground.phase }, { on := 6, ground := Go.Ground.phase }, { on := 7, ground := Go.Ground.phase }, { on := 8, ground := Go.Ground.phase }, { on := 9, ground := Go.Ground.phase }], guard := none }) (v := ?_) rfl (by kernel_rfl) (by kernel_rfl) (by kernel_rfl) (fun _ _ _ h => h) (Or.inl ⟨by rfl, ?_⟩) (by assumption) ?_
          rotate_left 1
          focus ((intro wS hSw; (try dsimp only at hSw); go_simp) <;> (try with_reducible rfl))
          simp only [Act.put, List.setIfInBounds_toArray, List.set_cons_zero, List.set_cons_succ]
          refine wpAnyH_ready (rs := [12]) (by kernel_rfl) (by simp) ?_
          refine AllReadyH.cons (o := { dst := none, op := Go.Op.store 32 (Go.Operand.tmp 57) (Go.Operand.tmp 55), type := 0, pos := "rebuild.go:59", after := #[{ on := 11, ground := Go.Ground.data }, { on := 9, ground := Go.Ground.data }, { on := 9, ground := Go.Ground.chain }, { on := 0, ground := Go.Ground.phase }, { on := 1, ground := Go.Ground.phase }, { on := 2, ground := Go.Ground.phase }, { on := 3, ground := Go.Ground.phase }, { on := 4, ground := Go.Ground.phase }, { on := 5, ground := Go.Ground.phase }, { on := 6, ground := Go.Ground.phase }, { on := 7, ground := Go.Ground.phase }, { on := 8, ground := Go.Ground.phase }, { on := 9, ground := Go.Ground.phase }], guard := none }) rfl (fun K hK => ?_) AllReadyH.nil
          refine step_store_one rfl 32 (.tmp 57) (.tmp 55) rfl g 0 rfl (.slice va (n + 1) vc) rfl rfl S22.out 60 [.slice a n cap, .map (some gd), .map (some gf)] GB3.out (by show 0 < 3; decide) ?_
          intro z4 o4 t4
          have RES : Hid (AddQ w S g A ⟨⟨1, p, m, t, (L : Int)⟩, d⟩ (.returned (.int .i64 0)) z4) := by
            obtain ⟨q1, q2⟩ := PMm.out.fin HI.out ONm.out HL3.out ADR.out.symm FD.out FF.out NW.out E1.out BB2.out (by rw [HN.out]; exact O3.out) B3.out (by rw [HN.out]; exact KK3.out) (by rw [HN.out]; exact X3.out) (by rw [HN.out]; exact o4) t4
            exact ⟨0, rfl, ADR.out, q1, by rw [if_pos rfl]; exact q2⟩
          have ks4 : (fun w' : World => w'.cell? ⟨w.heap.size, 0, none⟩ = some (.int .i64 1) ∧ w'.cell? ⟨w.heap.size, 1, none⟩ = some (.string p) ∧ w'.cell? ⟨w.heap.size, 2, none⟩ = some (.int .i64 m) ∧ w'.cell? ⟨w.heap.size, 3, none⟩ = some (.string t) ∧ w'.cell? ⟨w.heap.size, 4, none⟩ = some (.int .i64 (L : Int)) ∧ w'.cell? ⟨w.heap.size, 5, none⟩ = some (.slice x L xc)) z4 := KO.out _ ((KB.out _ ON3.out).turnB t4 (Ne.symm GW.out))
          clear o4 t4
          refine hK.out _ _ (ks4) (fun hHeld => ?_)
          clear hK K
          (try simp only [Act.put])
          refine wpAnyH_done (by kernel_rfl) ?_ _
          go_wp2_with fail
          go_ret
          exact RES.out
        · refine step_lit_nd1 rfl 32 55 (.tmp 53) rfl Tryd.underlying32 _ IN.out u rfl ?_
          intro z2 g2 b2
          have L2 : Hid (ObjAt z2 z1.heap.size 55 (ndCells [u])) := g2
          have BB2 : Hid (Below z1.heap.size z1 z2) := b2
          have E2 : Hid (Below wm.heap.size wm z2) := E1.out.trans (b2.mono E1.out.size)
          have RW2 : Hid (z2.ownsRow 0 55 6 (.slice a n cap) n (ndCells us)) := by
            show World.ownsRow _ _ _ _ _ _ _
            rw [← HN.out]; exact (PMm.out.below E2.out).r
          clear g2 b2
          refine hK.out _ _ (KS.out _ (Only.of_below E2.out (Nat.le_refl _))) (fun hHeld => ?_)
          clear hK K
          (try simp only [Act.put, List.setIfInBounds_toArray, List.set_cons_zero, List.set_cons_succ])
          refine wpAnyH_ready (rs := [4]) (by kernel_rfl) (by simp) ?_
          refine AllReadyH.cons (o := { dst := some 50, op := Go.Op.load 32 (Go.Operand.tmp 49), type := 32, pos := "rebuild.go:59", after := #[{ on := 3, ground := Go.Ground.data }], guard := none }) rfl (fun K hK => ?_) AllReadyH.nil
          refine step_load_run rfl 32 (.tmp 49) rfl ⟨g, 0, none⟩ rfl (.slice a n cap) (LG.out _ (GO.out _ E2.out)) ?_
          refine hK.out _ _ (KS.out _ (Only.of_below E2.out (Nat.le_refl _))) (fun hHeld => ?_)
          clear hK K
          (try simp only [Act.put, List.setIfInBounds_toArray, List.set_cons_zero, List.set_cons_succ])
          refine wpAnyH_ready (rs := [9]) (by kernel_rfl) (by simp) ?_
          refine AllReadyH.cons (o := { dst := some 55, op := Go.Op.call { callee := Go.Callee.builtin Go.Builtin.append, args := #[Go.Operand.tmp 50, Go.Operand.tmp 54], argTypes := #[32, 32] }, type := 32, pos := "rebuild.go:59", after := #[{ on := 4, ground := Go.Ground.data }, { on := 8, ground := Go.Ground.data }, { on := 7, ground := Go.Ground.chain }], guard := none }) rfl (fun K hK => ?_) AllReadyH.nil
          refine step_append_ndx rfl (.tmp 50) (.tmp 54) 32 rfl 0 55 i0 _ Tryd.underlying32 HI0 rfl (.slice a n cap) n us rfl RW2.out (some ⟨z1.heap.size, 0, none⟩) 1 1 [u] rfl (.inr ⟨_, 0, rfl, L2.out.lt, .of_cells L2.out⟩) rfl (by have := N40.out; omega) (Nat.zero_le _) ?_
          intro v3 z3 o3 b3 k3 x3
          have X3 : Hid (v3.ownBlock = (Value.slice a n cap).ownBlock ∨ v3.ownBlock = some z2.heap.size) := x3
          obtain ⟨va, vc, rfl, O3⟩ : ∃ va vc, v3 = .slice va (n + 1) vc ∧ Hid (z3.ownsRow 0 55 6 v3 (n + 1) (ndCells (us ++ [u]))) := by
            obtain ⟨va, vc, hv, _⟩ := NdsIn.of_own o3
            exact ⟨va, vc, hv, o3⟩
          have B3 := Lib.hid b3
          have KK3 := Lib.hid k3
          have ON3 : Hid (Only S wm z3) := (Only.of_below E2.out (Nat.le_refl _)).trans ⟨b3.os, b3.tape, b3.output, b3.size, fun k h1 h2 => k3 k h1 fun e => h2 (own_blk RW2.out HI.out.r k e.symm)⟩
          have GB3 : Hid (ObjAt z3 g 60 [.slice a n cap, .map (some gd), .map (some gf)]) := by
            have h := (PMm.out.below E2.out).o
            rw [HN.out] at h
            exact (k3 g h.lt (own_ne_obj RW2.out h (by decide))).trans h
          clear o3 b3 k3
          refine hK.out _ _ (KS.out _ ON3.out) (fun hHeld => ?_)
          clear hK K
          (try simp only [Act.put, List.setIfInBounds_toArray, List.set_cons_zero, List.set_cons_succ])
          refine wpAnyH_take (i := 10) (oi := { dst := some 56, op := Go.Op.nilCheck (Go.Operand.tmp 46), type := 0, pos := "rebuild.go:59", after := #[{ on := 0, ground := Go.Ground.data }, { on := 0, ground := Go.Ground.phase }, { on := 1, ground := Go.Ground.phase }, { on := 2, ground := Go.Ground.phase }, { on := 3, ground := Go.Ground.phase }, { on := 4, ground := Go.Ground.phase }, { on := 5, ground := Go.Ground.phase }, { on := 6, ground := Go.Ground.phase }, { on := 7, ground := Go.Ground.phase }, { on := 8, ground := Go.Ground.phase }, { on := 9, ground := Go.Ground.phase }], guard := none }) (v := ?_) rfl (by kernel_rfl) (by kernel_rfl) (by kernel_rfl) (fun _ _ _ h => h) (Or.inl ⟨by rfl, ?_⟩) (by assumption) ?_
          rotate_left 1
          focus ((intro wS hSw; (try dsimp only at hSw); go_simp) <;> (try with_reducible rfl))
          simp only [Act.put, List.setIfInBounds_toArray, List.set_cons_zero, List.set_cons_succ]
          refine wpAnyH_take (i := 11) (oi := { dst := some 57, op := Go.Op.fieldAddr 60 (Go.Operand.tmp 56) 0, type := 0, pos := "rebuild.go:59", after := #[{ on := 10, ground := Go.Ground.data }, { on := 0, ground := Go.Ground.phase }, { on := 1, ground := Go.Ground.phase }, { on := 2, ground := Go.Ground.phase }, { on := 3, ground := Go.Ground.phase }, { on := 4, ground := Go.Ground.phase }, { on := 5, ground := Go.Ground.phase }, { on := 6, ground := Go.Ground.phase }, { on := 7, ground := Go.Ground.phase }, { on := 8, ground := Go.Ground.phase }, { on := 9, ground := Go.Ground.phase }], guard := none }) (v := ?_) rfl (by kernel_rfl) (by kernel_rfl) (by kernel_rfl) (fun _ _ _ h => h) (Or.inl ⟨by rfl, ?_⟩) (by assumption) ?_
          rotate_left 1
          focus ((intro wS hSw; (try dsimp only at hSw); go_simp) <;> (try with_reducible rfl))
          simp only [Act.put, List.setIfInBounds_toArray, List.set_cons_zero, List.set_cons_succ]
          refine wpAnyH_ready (rs := [12]) (by kernel_rfl) (by simp) ?_
          refine AllReadyH.cons (o := { dst := none, op := Go.Op.store 32 (Go.Operand.tmp 57) (Go.Operand.tmp 55), type := 0, pos := "rebuild.go:59", after := #[{ on := 11, ground := Go.Ground.data }, { on := 9, ground := Go.Ground.data }, { on := 9, ground := Go.Ground.chain }, { on := 0, ground := Go.Ground.phase }, { on := 1, ground := Go.Ground.phase }, { on := 2, ground := Go.Ground.phase }, { on := 3, ground := Go.Ground.phase }, { on := 4, ground := Go.Ground.phase }, { on := 5, ground := Go.Ground.phase }, { on := 6, ground := Go.Ground.phase }, { on := 7, ground := Go.Ground.phase }, { on := 8, ground := Go.Ground.phase }, { on := 9, ground := Go.Ground.phase }], guard := none }) rfl (fun K hK => ?_) AllReadyH.nil
          refine step_store_one rfl 32 (.tmp 57) (.tmp 55) rfl g 0 rfl (.slice va (n + 1) vc) rfl rfl S22.out 60 [.slice a n cap, .map (some gd), .map (some gf)] GB3.out (by show 0 < 3; decide) ?_
          intro z4 o4 t4
          have RES : Hid (AddQ w S g A ⟨⟨1, p, m, t, (L : Int)⟩, d⟩ (.returned (.int .i64 0)) z4) := by
            obtain ⟨q1, q2⟩ := PMm.out.fin HI.out ONm.out HL3.out ADR.out.symm FD.out FF.out NW.out E1.out BB2.out (by rw [HN.out]; exact O3.out) B3.out (by rw [HN.out]; exact KK3.out) (by rw [HN.out]; exact X3.out) (by rw [HN.out]; exact o4) t4
            exact ⟨0, rfl, ADR.out, q1, by rw [if_pos rfl]; exact q2⟩
          have ks4 : (fun w' : World => w'.cell? ⟨w.heap.size, 0, none⟩ = some (.int .i64 1) ∧ w'.cell? ⟨w.heap.size, 1, none⟩ = some (.string p) ∧ w'.cell? ⟨w.heap.size, 2, none⟩ = some (.int .i64 m) ∧ w'.cell? ⟨w.heap.size, 3, none⟩ = some (.string t) ∧ w'.cell? ⟨w.heap.size, 4, none⟩ = some (.int .i64 (L : Int)) ∧ w'.cell? ⟨w.heap.size, 5, none⟩ = some (.slice x L xc)) z4 := KO.out _ ((KB.out _ ON3.out).turnB t4 (Ne.symm GW.out))
          clear o4 t4
          refine hK.out _ _ (ks4) (fun hHeld => ?_)
          clear hK K
          (try simp only [Act.put])
          refine wpAnyH_done (by kernel_rfl) ?_ _
          go_wp2_with fail
          go_ret
          exact RES.out
    · have n0 : (k == 0) = false := by simpa using k0
      have n1 : (k == 1) = false := by simpa using k1
      have FD : Hid (Fm Fd (A ++ [⟨⟨k, p, m, t, (L : Int)⟩, d⟩]) 0 (fun _ => .bool true)) := HB.out.fd.stay (x := ⟨⟨k, p, m, t, (L : Int)⟩, d⟩) k0
      have FF : Hid (Fm Ff (A ++ [⟨⟨k, p, m, t, (L : Int)⟩, d⟩]) 1 (fun r => .int .i64 (r : Int))) := HB.out.ff.stay (x := ⟨⟨k, p, m, t, (L : Int)⟩, d⟩) k1
      clear k0 k1
      obtain ⟨wm, hwm⟩ : ∃ wm, wm = wz := ⟨_, rfl⟩
      rw [← hwm] at B2 G2 PM0 c0 c4 c5 g0
      rw [← hwm]
      clear D0 hwm
      have PMm := Lib.hid PM0.out
      have MBm := Lib.hid G2.out
      have ONm : Hid (Only S w wm) := Only.of_below B2.out (Nat.le_refl _)
      have NC : Hid (∀ w', Below wm.heap.size wm w' → Calls Tryd.prog 25 #[.pointer (some ⟨g, 0, none⟩), .agg (mbC k p m t (L : Int) x L xc).toArray] w' fun e w'' => ∃ u, e = .returned (.agg (ndV u).toArray) ∧ Nw S w' w'' A ⟨⟨k, p, m, t, (L : Int)⟩, d⟩ u ∧ Below w'.heap.size w' w'') := fun w' h => by
        have := node_any (S := S) (HB.out.below (B2.out.trans (h.mono B2.out.size))) HI.out ⟨⟨⟨k, p, m, t, (L : Int)⟩, d⟩, x, xc⟩ (MbF.onlyE HY.out (ONm.out.trans (Only.of_below h (Nat.le_refl _))) HYS.out) (by rw [HN.out]; exact N40.out) CHR.out
        dsimp only [mbV] at this
        rw [HL.out] at this
        exact this
      go_wp2_with fail
      have E0 : Hid (Below wm.heap.size wm wm.drew) := (Below.refl _ _).drew
      have GO : Hid (∀ w', Below wm.heap.size wm w' → w'.cell? ⟨g, 0, none⟩ = some (.slice a n cap)) := fun w' h => by rw [← HN.out]; exact (PMm.out.below h).o.get 0 rfl
      have KO : Hid (∀ w', ObjAt w' w.heap.size 30 (mbC k p m t (L : Int) x L xc) → (fun w' : World => w'.cell? ⟨w.heap.size, 0, none⟩ = some (.int .i64 k) ∧ w'.cell? ⟨w.heap.size, 1, none⟩ = some (.string p) ∧ w'.cell? ⟨w.heap.size, 2, none⟩ = some (.int .i64 m) ∧ w'.cell? ⟨w.heap.size, 3, none⟩ = some (.string t) ∧ w'.cell? ⟨w.heap.size, 4, none⟩ = some (.int .i64 (L : Int)) ∧ w'.cell? ⟨w.heap.size, 5, none⟩ = some (.slice x L xc)) w') := fun w' h => ⟨h.get 0 rfl, h.get 1 rfl, h.get 2 rfl, h.get 3 rfl, h.get 4 rfl, h.get 5 rfl⟩
      have KB : Hid (∀ w', Only S wm w' → ObjAt w' w.heap.size 30 (mbC k p m t (L : Int) x L xc)) := fun w' h => MBm.out.only h fun hs => Nat.lt_irrefl _ (HL3.out _ hs)
      have KS : Hid (∀ w', Only S wm w' → (fun w' : World => w'.cell? ⟨w.heap.size, 0, none⟩ = some (.int .i64 k) ∧ w'.cell? ⟨w.heap.size, 1, none⟩ = some (.string p) ∧ w'.cell? ⟨w.heap.size, 2, none⟩ = some (.int .i64 m) ∧ w'.cell? ⟨w.heap.size, 3, none⟩ = some (.string t) ∧ w'.cell? ⟨w.heap.size, 4, none⟩ = some (.int .i64 (L : Int)) ∧ w'.cell? ⟨w.heap.size, 5, none⟩ = some (.slice x L xc)) w') := fun w' h => KO.out _ (KB.out _ h)
      refine wp_region_held_drew (S := (fun w' : World => w'.cell? ⟨w.heap.size, 0, none⟩ = some (.int .i64 k) ∧ w'.cell? ⟨w.heap.size, 1, none⟩ = some (.string p) ∧ w'.cell? ⟨w.heap.size, 2, none⟩ = some (.int .i64 m) ∧ w'.cell? ⟨w.heap.size, 3, none⟩ = some (.string t) ∧ w'.cell? ⟨w.heap.size, 4, none⟩ = some (.int .i64 (L : Int)) ∧ w'.cell? ⟨w.heap.size, 5, none⟩ = some (.slice x L xc))) (by kernel_rfl) (KS.out _ (Only.of_below E0.out (Nat.le_refl _))) (fun hHeld => ?_)
      refine wpAnyH_take (i := 0) (oi := { dst := some 46, op := Go.Op.move (Go.Operand.tmp 0), type := 23, pos := "rebuild.go:59", after := #[], guard := none }) (v := ?_) rfl (by kernel_rfl) (by kernel_rfl) (by kernel_rfl) (fun _ _ _ h => h) (Or.inl ⟨by rfl, ?_⟩) (by assumption) ?_
      rotate_left 1
      focus ((intro wS hSw; (try dsimp only at hSw); go_simp) <;> (try with_reducible rfl))
      simp only [Act.put, List.setIfInBounds_toArray, List.set_cons_zero, List.set_cons_succ]
      refine wpAnyH_take (i := 1) (oi := { dst := some 47, op := Go.Op.move (Go.Operand.tmp 0), type := 23, pos := "rebuild.go:59", after := #[], guard := none }) (v := ?_) rfl (by kernel_rfl) (by kernel_rfl) (by kernel_rfl) (fun _ _ _ h => h) (Or.inl ⟨by rfl, ?_⟩) (by assumption) ?_
      rotate_left 1
      focus ((intro wS hSw; (try dsimp only at hSw); go_simp) <;> (try with_reducible rfl))
      simp only [Act.put, List.setIfInBounds_toArray, List.set_cons_zero, List.set_cons_succ]
      refine wpAnyH_take (i := 2) (oi := { dst := some 48, op := Go.Op.nilCheck (Go.Operand.tmp 47), type := 0, pos := "rebuild.go:59", after := #[{ on := 1, ground := Go.Ground.data }], guard := none }) (v := ?_) rfl (by kernel_rfl) (by kernel_rfl) (by kernel_rfl) (fun _ _ _ h => h) (Or.inl ⟨by rfl, ?_⟩) (by assumption) ?_
      rotate_left 1
      focus ((intro wS hSw; (try dsimp only at hSw); go_simp) <;> (try with_reducible rfl))
      simp only [Act.put, List.setIfInBounds_toArray, List.set_cons_zero, List.set_cons_succ]
      refine wpAnyH_take (i := 3) (oi := { dst := some 49, op := Go.Op.fieldAddr 60 (Go.Operand.tmp 48) 0, type := 0, pos := "rebuild.go:59", after := #[{ on := 2, ground := Go.Ground.data }], guard := none }) (v := ?_) rfl (by kernel_rfl) (by kernel_rfl) (by kernel_rfl) (fun _ _ _ h => h) (Or.inl ⟨by rfl, ?_⟩) (by assumption) ?_
      rotate_left 1
      focus ((intro wS hSw; (try dsimp only at hSw); go_simp) <;> (try with_reducible rfl))
      simp only [Act.put, List.setIfInBounds_toArray, List.set_cons_zero, List.set_cons_succ]
      refine wpAnyH_take (i := 5) (oi := { dst := some 51, op := Go.Op.move (Go.Operand.tmp 0), type := 23, pos := "rebuild.go:59", after := #[], guard := none }) (v := ?_) rfl (by kernel_rfl) (by kernel_rfl) (by kernel_rfl) (fun _ _ _ h => h) (Or.inl ⟨by rfl, ?_⟩) (by assumption) ?_
      rotate_left 1
      focus ((intro wS hSw; (try dsimp only at hSw); go_simp) <;> (try with_reducible rfl))
      simp only [Act.put, List.setIfInBounds_toArray, List.set_cons_zero, List.set_cons_succ]
      refine wpAnyH_take (i := 6) (oi := { dst := some 52, op := Go.Op.load 30 (Go.Operand.tmp 3), type := 30, pos := "rebuild.go:59", after := #[], guard := none }) (v := ?_) rfl (by kernel_rfl) (by kernel_rfl) (by kernel_rfl) (fun _ _ _ h => h) (Or.inl ⟨by rfl, ?_⟩) (by assumption) ?_
      rotate_left 1
      focus ((intro wS hSw; (try dsimp only at hSw); go_simp) <;> (try with_reducible rfl))
      simp only [Act.put, List.setIfInBounds_toArray, List.set_cons_zero, List.set_cons_succ]
      refine wpAnyH_ready (rs := [4, 7]) (by kernel_rfl) (by simp) ?_
      refine AllReadyH.cons (o := { dst := some 50, op := Go.Op.load 32 (Go.Operand.tmp 49), type := 32, pos := "rebuild.go:59", after := #[{ on := 3, ground := Go.Ground.data }], guard := none }) rfl (fun K hK => ?_) (AllReadyH.cons (o := { dst := some 53, op := Go.Op.call { callee := Go.Callee.value (Go.Operand.func 25), args := #[Go.Operand.tmp 51, Go.Operand.tmp 52], argTypes := #[23, 30] }, type := 55, pos := "rebuild.go:59", after := #[{ on := 5, ground := Go.Ground.data }, { on := 6, ground := Go.Ground.data }], guard := none }) rfl (fun K hK => ?_) AllReadyH.nil)
      · refine step_load_run rfl 32 (.tmp 49) rfl ⟨g, 0, none⟩ rfl (.slice a n cap) (LG.out _ (GO.out _ E0.out)) ?_
        refine hK.out _ _ (KS.out _ (Only.of_below E0.out (Nat.le_refl _))) (fun hHeld => ?_)
        clear hK K
        (try simp only [Act.put, List.setIfInBounds_toArray, List.set_cons_zero, List.set_cons_succ])
        refine wpAnyH_ready (rs := [7]) (by kernel_rfl) (by simp) ?_
        refine AllReadyH.cons (o := { dst := some 53, op := Go.Op.call { callee := Go.Callee.value (Go.Operand.func 25), args := #[Go.Operand.tmp 51, Go.Operand.tmp 52], argTypes := #[23, 30] }, type := 55, pos := "rebuild.go:59", after := #[{ on := 5, ground := Go.Ground.data }, { on := 6, ground := Go.Ground.data }], guard := none }) rfl (fun K hK => ?_) AllReadyH.nil
        go_simp
        refine (NC.out _ E0.out).mono ?_
        rintro e z1 ⟨u, rfl, hu, b1⟩
        have NW : Hid (Nw S wm z1 A ⟨⟨k, p, m, t, (L : Int)⟩, d⟩ u) := ⟨hu.n, hu.s, hu.f, hu.i⟩
        have E1 : Hid (Below wm.heap.size wm z1) := E0.out.trans (b1.mono (Nat.le_refl _))
        clear hu b1
        refine hK.out _ _ (KS.out _ (Only.of_below E1.out (Nat.le_refl _))) (fun hHeld => ?_)
        clear hK K
        (try simp only [Act.put, List.setIfInBounds_toArray, List.set_cons_zero, List.set_cons_succ])
        refine wpAnyH_ready (rs := [8]) (by kernel_rfl) (by simp) ?_
        refine AllReadyH.cons (o := { dst := some 54, op := Go.Op.buildSlice 32 1 #[(0, Go.Operand.tmp 53)], type := 32, pos := "rebuild.go:59", after := #[{ on := 7, ground := Go.Ground.data }], guard := none }) rfl (fun K hK => ?_) AllReadyH.nil
        refine step_lit_nd1 rfl 32 55 (.tmp 53) rfl Tryd.underlying32 _ IN.out u rfl ?_
        intro z2 g2 b2
        have L2 : Hid (ObjAt z2 z1.heap.size 55 (ndCells [u])) := g2
        have BB2 : Hid (Below z1.heap.size z1 z2) := b2
        have E2 : Hid (Below wm.heap.size wm z2) := E1.out.trans (b2.mono E1.out.size)
        have RW2 : Hid (z2.ownsRow 0 55 6 (.slice a n cap) n (ndCells us)) := by
          show World.ownsRow _ _ _ _ _ _ _
          rw [← HN.out]; exact (PMm.out.below E2.out).r
        clear g2 b2
        refine hK.out _ _ (KS.out _ (Only.of_below E2.out (Nat.le_refl _))) (fun hHeld => ?_)
        clear hK K
        (try simp only [Act.put, List.setIfInBounds_toArray, List.set_cons_zero, List.set_cons_succ])
        refine wpAnyH_ready (rs := [9]) (by kernel_rfl) (by simp) ?_
        refine AllReadyH.cons (o := { dst := some 55, op := Go.Op.call { callee := Go.Callee.builtin Go.Builtin.append, args := #[Go.Operand.tmp 50, Go.Operand.tmp 54], argTypes := #[32, 32] }, type := 32, pos := "rebuild.go:59", after := #[{ on := 4, ground := Go.Ground.data }, { on := 8, ground := Go.Ground.data }, { on := 7, ground := Go.Ground.chain }], guard := none }) rfl (fun K hK => ?_) AllReadyH.nil
        refine step_append_ndx rfl (.tmp 50) (.tmp 54) 32 rfl 0 55 i0 _ Tryd.underlying32 HI0 rfl (.slice a n cap) n us rfl RW2.out (some ⟨z1.heap.size, 0, none⟩) 1 1 [u] rfl (.inr ⟨_, 0, rfl, L2.out.lt, .of_cells L2.out⟩) rfl (by have := N40.out; omega) (Nat.zero_le _) ?_
        intro v3 z3 o3 b3 k3 x3
        have X3 : Hid (v3.ownBlock = (Value.slice a n cap).ownBlock ∨ v3.ownBlock = some z2.heap.size) := x3
        obtain ⟨va, vc, rfl, O3⟩ : ∃ va vc, v3 = .slice va (n + 1) vc ∧ Hid (z3.ownsRow 0 55 6 v3 (n + 1) (ndCells (us ++ [u]))) := by
          obtain ⟨va, vc, hv, _⟩ := NdsIn.of_own o3
          exact ⟨va, vc, hv, o3⟩
        have B3 := Lib.hid b3
        have KK3 := Lib.hid k3
        have ON3 : Hid (Only S wm z3) := (Only.of_below E2.out (Nat.le_refl _)).trans ⟨b3.os, b3.tape, b3.output, b3.size, fun k h1 h2 => k3 k h1 fun e => h2 (own_blk RW2.out HI.out.r k e.symm)⟩
        have GB3 : Hid (ObjAt z3 g 60 [.slice a n cap, .map (some gd), .map (some gf)]) := by
          have h := (PMm.out.below E2.out).o
          rw [HN.out] at h
          exact (k3 g h.lt (own_ne_obj RW2.out h (by decide))).trans h
        clear o3 b3 k3
        refine hK.out _ _ (KS.out _ ON3.out) (fun hHeld => ?_)
        clear hK K
        (try simp only [Act.put, List.setIfInBounds_toArray, List.set_cons_zero, List.set_cons_succ])
        refine wpAnyH_take (i := 10) (oi := { dst := some 56, op := Go.Op.nilCheck (Go.Operand.tmp 46), type := 0, pos := "rebuild.go:59", after := #[{ on := 0, ground := Go.Ground.data }, { on := 0, ground := Go.Ground.phase }, { on := 1, ground := Go.Ground.phase }, { on := 2, ground := Go.Ground.phase }, { on := 3, ground := Go.Ground.phase }, { on := 4, ground := Go.Ground.phase }, { on := 5, ground := Go.Ground.phase }, { on := 6, ground := Go.Ground.phase }, { on := 7, ground := Go.Ground.phase }, { on := 8, ground := Go.Ground.phase }, { on := 9, ground := Go.Ground.phase }], guard := none }) (v := ?_) rfl (by kernel_rfl) (by kernel_rfl) (by kernel_rfl) (fun _ _ _ h => h) (Or.inl ⟨by rfl, ?_⟩) (by assumption) ?_
        rotate_left 1
        focus ((intro wS hSw; (try dsimp only at hSw); go_simp) <;> (try with_reducible rfl))
        simp only [Act.put, List.setIfInBounds_toArray, List.set_cons_zero, List.set_cons_succ]
        refine wpAnyH_take (i := 11) (oi := { dst := some 57, op := Go.Op.fieldAddr 60 (Go.Operand.tmp 56) 0, type := 0, pos := "rebuild.go:59", after := #[{ on := 10, ground := Go.Ground.data }, { on := 0, ground := Go.Ground.phase }, { on := 1, ground := Go.Ground.phase }, { on := 2, ground := Go.Ground.phase }, { on := 3, ground := Go.Ground.phase }, { on := 4, ground := Go.Ground.phase }, { on := 5, ground := Go.Ground.phase }, { on := 6, ground := Go.Ground.phase }, { on := 7, ground := Go.Ground.phase }, { on := 8, ground := Go.Ground.phase }, { on := 9, ground := Go.Ground.phase }], guard := none }) (v := ?_) rfl (by kernel_rfl) (by kernel_rfl) (by kernel_rfl) (fun _ _ _ h => h) (Or.inl ⟨by rfl, ?_⟩) (by assumption) ?_
        rotate_left 1
        focus ((intro wS hSw; (try dsimp only at hSw); go_simp) <;> (try with_reducible rfl))
        simp only [Act.put, List.setIfInBounds_toArray, List.set_cons_zero, List.set_cons_succ]
        refine wpAnyH_ready (rs := [12]) (by kernel_rfl) (by simp) ?_
        refine AllReadyH.cons (o := { dst := none, op := Go.Op.store 32 (Go.Operand.tmp 57) (Go.Operand.tmp 55), type := 0, pos := "rebuild.go:59", after := #[{ on := 11, ground := Go.Ground.data }, { on := 9, ground := Go.Ground.data }, { on := 9, ground := Go.Ground.chain }, { on := 0, ground := Go.Ground.phase }, { on := 1, ground := Go.Ground.phase }, { on := 2, ground := Go.Ground.phase }, { on := 3, ground := Go.Ground.phase }, { on := 4, ground := Go.Ground.phase }, { on := 5, ground := Go.Ground.phase }, { on := 6, ground := Go.Ground.phase }, { on := 7, ground := Go.Ground.phase }, { on := 8, ground := Go.Ground.phase }, { on := 9, ground := Go.Ground.phase }], guard := none }) rfl (fun K hK => ?_) AllReadyH.nil
        refine step_store_one rfl 32 (.tmp 57) (.tmp 55) rfl g 0 rfl (.slice va (n + 1) vc) rfl rfl S22.out 60 [.slice a n cap, .map (some gd), .map (some gf)] GB3.out (by show 0 < 3; decide) ?_
        intro z4 o4 t4
        have RES : Hid (AddQ w S g A ⟨⟨k, p, m, t, (L : Int)⟩, d⟩ (.returned (.int .i64 0)) z4) := by
          obtain ⟨q1, q2⟩ := PMm.out.fin HI.out ONm.out HL3.out ADR.out.symm FD.out FF.out NW.out E1.out BB2.out (by rw [HN.out]; exact O3.out) B3.out (by rw [HN.out]; exact KK3.out) (by rw [HN.out]; exact X3.out) (by rw [HN.out]; exact o4) t4
          exact ⟨0, rfl, ADR.out, q1, by rw [if_pos rfl]; exact q2⟩
        have ks4 : (fun w' : World => w'.cell? ⟨w.heap.size, 0, none⟩ = some (.int .i64 k) ∧ w'.cell? ⟨w.heap.size, 1, none⟩ = some (.string p) ∧ w'.cell? ⟨w.heap.size, 2, none⟩ = some (.int .i64 m) ∧ w'.cell? ⟨w.heap.size, 3, none⟩ = some (.string t) ∧ w'.cell? ⟨w.heap.size, 4, none⟩ = some (.int .i64 (L : Int)) ∧ w'.cell? ⟨w.heap.size, 5, none⟩ = some (.slice x L xc)) z4 := KO.out _ ((KB.out _ ON3.out).turnB t4 (Ne.symm GW.out))
        clear o4 t4
        refine hK.out _ _ (ks4) (fun hHeld => ?_)
        clear hK K
        (try simp only [Act.put])
        refine wpAnyH_done (by kernel_rfl) ?_ _
        go_wp2_with fail
        go_ret
        exact RES.out
      · go_simp
        refine (NC.out _ E0.out).mono ?_
        rintro e z1 ⟨u, rfl, hu, b1⟩
        have NW : Hid (Nw S wm z1 A ⟨⟨k, p, m, t, (L : Int)⟩, d⟩ u) := ⟨hu.n, hu.s, hu.f, hu.i⟩
        have E1 : Hid (Below wm.heap.size wm z1) := E0.out.trans (b1.mono (Nat.le_refl _))
        clear hu b1
        refine hK.out _ _ (KS.out _ (Only.of_below E1.out (Nat.le_refl _))) (fun hHeld => ?_)
        clear hK K
        (try simp only [Act.put, List.setIfInBounds_toArray, List.set_cons_zero, List.set_cons_succ])
        refine wpAnyH_ready (rs := [4, 8]) (by kernel_rfl) (by simp) ?_
        refine AllReadyH.cons (o := { dst := some 50, op := Go.Op.load 32 (Go.Operand.tmp 49), type := 32, pos := "rebuild.go:59", after := #[{ on := 3, ground := Go.Ground.data }], guard := none }) rfl (fun K hK => ?_) (AllReadyH.cons (o := { dst := some 54, op := Go.Op.buildSlice 32 1 #[(0, Go.Operand.tmp 53)], type := 32, pos := "rebuild.go:59", after := #[{ on := 7, ground := Go.Ground.data }], guard := none }) rfl (fun K hK => ?_) AllReadyH.nil)
        · refine step_load_run rfl 32 (.tmp 49) rfl ⟨g, 0, none⟩ rfl (.slice a n cap) (LG.out _ (GO.out _ E1.out)) ?_
          refine hK.out _ _ (KS.out _ (Only.of_below E1.out (Nat.le_refl _))) (fun hHeld => ?_)
          clear hK K
          (try simp only [Act.put, List.setIfInBounds_toArray, List.set_cons_zero, List.set_cons_succ])
          refine wpAnyH_ready (rs := [8]) (by kernel_rfl) (by simp) ?_
          refine AllReadyH.cons (o := { dst := some 54, op := Go.Op.buildSlice 32 1 #[(0, Go.Operand.tmp 53)], type := 32, pos := "rebuild.go:59", after := #[{ on := 7, ground := Go.Ground.data }], guard := none }) rfl (fun K hK => ?_) AllReadyH.nil
          refine step_lit_nd1 rfl 32 55 (.tmp 53) rfl Tryd.underlying32 _ IN.out u rfl ?_
          intro z2 g2 b2
          have L2 : Hid (ObjAt z2 z1.heap.size 55 (ndCells [u])) := g2
          have BB2 : Hid (Below z1.heap.size z1 z2) := b2
          have E2 : Hid (Below wm.heap.size wm z2) := E1.out.trans (b2.mono E1.out.size)
          have RW2 : Hid (z2.ownsRow 0 55 6 (.slice a n cap) n (ndCells us)) := by
            show World.ownsRow _ _ _ _ _ _ _
            rw [← HN.out]; exact (PMm.out.below E2.out).r
          clear g2 b2
          refine hK.out _ _ (KS.out _ (Only.of_below E2.out (Nat.le_refl _))) (fun hHeld => ?_)
          clear hK K
          (try simp only [Act.put, List.setIfInBounds_toArray, List.set_cons_zero, List.set_cons_succ])
          refine wpAnyH_ready (rs := [9]) (by kernel_rfl) (by simp) ?_
          refine AllReadyH.cons (o := { dst := some 55, op := Go.Op.call { callee := Go.Callee.builtin Go.Builtin.append, args := #[Go.Operand.tmp 50, Go.Operand.tmp 54], argTypes := #[32, 32] }, type := 32, pos := "rebuild.go:59", after := #[{ on := 4, ground := Go.Ground.data }, { on := 8, ground := Go.Ground.data }, { on := 7, ground := Go.Ground.chain }], guard := none }) rfl (fun K hK => ?_) AllReadyH.nil
          refine step_append_ndx rfl (.tmp 50) (.tmp 54) 32 rfl 0 55 i0 _ Tryd.underlying32 HI0 rfl (.slice a n cap) n us rfl RW2.out (some ⟨z1.heap.size, 0, none⟩) 1 1 [u] rfl (.inr ⟨_, 0, rfl, L2.out.lt, .of_cells L2.out⟩) rfl (by have := N40.out; omega) (Nat.zero_le _) ?_
          intro v3 z3 o3 b3 k3 x3
          have X3 : Hid (v3.ownBlock = (Value.slice a n cap).ownBlock ∨ v3.ownBlock = some z2.heap.size) := x3
          obtain ⟨va, vc, rfl, O3⟩ : ∃ va vc, v3 = .slice va (n + 1) vc ∧ Hid (z3.ownsRow 0 55 6 v3 (n + 1) (ndCells (us ++ [u]))) := by
            obtain ⟨va, vc, hv, _⟩ := NdsIn.of_own o3
            exact ⟨va, vc, hv, o3⟩
          have B3 := Lib.hid b3
          have KK3 := Lib.hid k3
          have ON3 : Hid (Only S wm z3) := (Only.of_below E2.out (Nat.le_refl _)).trans ⟨b3.os, b3.tape, b3.output, b3.size, fun k h1 h2 => k3 k h1 fun e => h2 (own_blk RW2.out HI.out.r k e.symm)⟩
          have GB3 : Hid (ObjAt z3 g 60 [.slice a n cap, .map (some gd), .map (some gf)]) := by
            have h := (PMm.out.below E2.out).o
            rw [HN.out] at h
            exact (k3 g h.lt (own_ne_obj RW2.out h (by decide))).trans h
          clear o3 b3 k3
          refine hK.out _ _ (KS.out _ ON3.out) (fun hHeld => ?_)
          clear hK K
          (try simp only [Act.put, List.setIfInBounds_toArray, List.set_cons_zero, List.set_cons_succ])
          refine wpAnyH_take (i := 10) (oi := { dst := some 56, op := Go.Op.nilCheck (Go.Operand.tmp 46), type := 0, pos := "rebuild.go:59", after := #[{ on := 0, ground := Go.Ground.data }, { on := 0, ground := Go.Ground.phase }, { on := 1, ground := Go.Ground.phase }, { on := 2, ground := Go.Ground.phase }, { on := 3, ground := Go.Ground.phase }, { on := 4, ground := Go.Ground.phase }, { on := 5, ground := Go.Ground.phase }, { on := 6, ground := Go.Ground.phase }, { on := 7, ground := Go.Ground.phase }, { on := 8, ground := Go.Ground.phase }, { on := 9, ground := Go.Ground.phase }], guard := none }) (v := ?_) rfl (by kernel_rfl) (by kernel_rfl) (by kernel_rfl) (fun _ _ _ h => h) (Or.inl ⟨by rfl, ?_⟩) (by assumption) ?_
          rotate_left 1
          focus ((intro wS hSw; (try dsimp only at hSw); go_simp) <;> (try with_reducible rfl))
          simp only [Act.put, List.setIfInBounds_toArray, List.set_cons_zero, List.set_cons_succ]
          refine wpAnyH_take (i := 11) (oi := { dst := some 57, op := Go.Op.fieldAddr 60 (Go.Operand.tmp 56) 0, type := 0, pos := "rebuild.go:59", after := #[{ on := 10, ground := Go.Ground.data }, { on := 0, ground := Go.Ground.phase }, { on := 1, ground := Go.Ground.phase }, { on := 2, ground := Go.Ground.phase }, { on := 3, ground := Go.Ground.phase }, { on := 4, ground := Go.Ground.phase }, { on := 5, ground := Go.Ground.phase }, { on := 6, ground := Go.Ground.phase }, { on := 7, ground := Go.Ground.phase }, { on := 8, ground := Go.Ground.phase }, { on := 9, ground := Go.Ground.phase }], guard := none }) (v := ?_) rfl (by kernel_rfl) (by kernel_rfl) (by kernel_rfl) (fun _ _ _ h => h) (Or.inl ⟨by rfl, ?_⟩) (by assumption) ?_
          rotate_left 1
          focus ((intro wS hSw; (try dsimp only at hSw); go_simp) <;> (try with_reducible rfl))
          simp only [Act.put, List.setIfInBounds_toArray, List.set_cons_zero, List.set_cons_succ]
          refine wpAnyH_ready (rs := [12]) (by kernel_rfl) (by simp) ?_
          refine AllReadyH.cons (o := { dst := none, op := Go.Op.store 32 (Go.Operand.tmp 57) (Go.Operand.tmp 55), type := 0, pos := "rebuild.go:59", after := #[{ on := 11, ground := Go.Ground.data }, { on := 9, ground := Go.Ground.data }, { on := 9, ground := Go.Ground.chain }, { on := 0, ground := Go.Ground.phase }, { on := 1, ground := Go.Ground.phase }, { on := 2, ground := Go.Ground.phase }, { on := 3, ground := Go.Ground.phase }, { on := 4, ground := Go.Ground.phase }, { on := 5, ground := Go.Ground.phase }, { on := 6, ground := Go.Ground.phase }, { on := 7, ground := Go.Ground.phase }, { on := 8, ground := Go.Ground.phase }, { on := 9, ground := Go.Ground.phase }], guard := none }) rfl (fun K hK => ?_) AllReadyH.nil
          refine step_store_one rfl 32 (.tmp 57) (.tmp 55) rfl g 0 rfl (.slice va (n + 1) vc) rfl rfl S22.out 60 [.slice a n cap, .map (some gd), .map (some gf)] GB3.out (by show 0 < 3; decide) ?_
          intro z4 o4 t4
          have RES : Hid (AddQ w S g A ⟨⟨k, p, m, t, (L : Int)⟩, d⟩ (.returned (.int .i64 0)) z4) := by
            obtain ⟨q1, q2⟩ := PMm.out.fin HI.out ONm.out HL3.out ADR.out.symm FD.out FF.out NW.out E1.out BB2.out (by rw [HN.out]; exact O3.out) B3.out (by rw [HN.out]; exact KK3.out) (by rw [HN.out]; exact X3.out) (by rw [HN.out]; exact o4) t4
            exact ⟨0, rfl, ADR.out, q1, by rw [if_pos rfl]; exact q2⟩
          have ks4 : (fun w' : World => w'.cell? ⟨w.heap.size, 0, none⟩ = some (.int .i64 k) ∧ w'.cell? ⟨w.heap.size, 1, none⟩ = some (.string p) ∧ w'.cell? ⟨w.heap.size, 2, none⟩ = some (.int .i64 m) ∧ w'.cell? ⟨w.heap.size, 3, none⟩ = some (.string t) ∧ w'.cell? ⟨w.heap.size, 4, none⟩ = some (.int .i64 (L : Int)) ∧ w'.cell? ⟨w.heap.size, 5, none⟩ = some (.slice x L xc)) z4 := KO.out _ ((KB.out _ ON3.out).turnB t4 (Ne.symm GW.out))
          clear o4 t4
          refine hK.out _ _ (ks4) (fun hHeld => ?_)
          clear hK K
          (try simp only [Act.put])
          refine wpAnyH_done (by kernel_rfl) ?_ _
          go_wp2_with fail
          go_ret
          exact RES.out
        · refine step_lit_nd1 rfl 32 55 (.tmp 53) rfl Tryd.underlying32 _ IN.out u rfl ?_
          intro z2 g2 b2
          have L2 : Hid (ObjAt z2 z1.heap.size 55 (ndCells [u])) := g2
          have BB2 : Hid (Below z1.heap.size z1 z2) := b2
          have E2 : Hid (Below wm.heap.size wm z2) := E1.out.trans (b2.mono E1.out.size)
          have RW2 : Hid (z2.ownsRow 0 55 6 (.slice a n cap) n (ndCells us)) := by
            show World.ownsRow _ _ _ _ _ _ _
            rw [← HN.out]; exact (PMm.out.below E2.out).r
          clear g2 b2
          refine hK.out _ _ (KS.out _ (Only.of_below E2.out (Nat.le_refl _))) (fun hHeld => ?_)
          clear hK K
          (try simp only [Act.put, List.setIfInBounds_toArray, List.set_cons_zero, List.set_cons_succ])
          refine wpAnyH_ready (rs := [4]) (by kernel_rfl) (by simp) ?_
          refine AllReadyH.cons (o := { dst := some 50, op := Go.Op.load 32 (Go.Operand.tmp 49), type := 32, pos := "rebuild.go:59", after := #[{ on := 3, ground := Go.Ground.data }], guard := none }) rfl (fun K hK => ?_) AllReadyH.nil
          refine step_load_run rfl 32 (.tmp 49) rfl ⟨g, 0, none⟩ rfl (.slice a n cap) (LG.out _ (GO.out _ E2.out)) ?_
          refine hK.out _ _ (KS.out _ (Only.of_below E2.out (Nat.le_refl _))) (fun hHeld => ?_)
          clear hK K
          (try simp only [Act.put, List.setIfInBounds_toArray, List.set_cons_zero, List.set_cons_succ])
          refine wpAnyH_ready (rs := [9]) (by kernel_rfl) (by simp) ?_
          refine AllReadyH.cons (o := { dst := some 55, op := Go.Op.call { callee := Go.Callee.builtin Go.Builtin.append, args := #[Go.Operand.tmp 50, Go.Operand.tmp 54], argTypes := #[32, 32] }, type := 32, pos := "rebuild.go:59", after := #[{ on := 4, ground := Go.Ground.data }, { on := 8, ground := Go.Ground.data }, { on := 7, ground := Go.Ground.chain }], guard := none }) rfl (fun K hK => ?_) AllReadyH.nil
          refine step_append_ndx rfl (.tmp 50) (.tmp 54) 32 rfl 0 55 i0 _ Tryd.underlying32 HI0 rfl (.slice a n cap) n us rfl RW2.out (some ⟨z1.heap.size, 0, none⟩) 1 1 [u] rfl (.inr ⟨_, 0, rfl, L2.out.lt, .of_cells L2.out⟩) rfl (by have := N40.out; omega) (Nat.zero_le _) ?_
          intro v3 z3 o3 b3 k3 x3
          have X3 : Hid (v3.ownBlock = (Value.slice a n cap).ownBlock ∨ v3.ownBlock = some z2.heap.size) := x3
          obtain ⟨va, vc, rfl, O3⟩ : ∃ va vc, v3 = .slice va (n + 1) vc ∧ Hid (z3.ownsRow 0 55 6 v3 (n + 1) (ndCells (us ++ [u]))) := by
            obtain ⟨va, vc, hv, _⟩ := NdsIn.of_own o3
            exact ⟨va, vc, hv, o3⟩
          have B3 := Lib.hid b3
          have KK3 := Lib.hid k3
          have ON3 : Hid (Only S wm z3) := (Only.of_below E2.out (Nat.le_refl _)).trans ⟨b3.os, b3.tape, b3.output, b3.size, fun k h1 h2 => k3 k h1 fun e => h2 (own_blk RW2.out HI.out.r k e.symm)⟩
          have GB3 : Hid (ObjAt z3 g 60 [.slice a n cap, .map (some gd), .map (some gf)]) := by
            have h := (PMm.out.below E2.out).o
            rw [HN.out] at h
            exact (k3 g h.lt (own_ne_obj RW2.out h (by decide))).trans h
          clear o3 b3 k3
          refine hK.out _ _ (KS.out _ ON3.out) (fun hHeld => ?_)
          clear hK K
          (try simp only [Act.put, List.setIfInBounds_toArray, List.set_cons_zero, List.set_cons_succ])
          refine wpAnyH_take (i := 10) (oi := { dst := some 56, op := Go.Op.nilCheck (Go.Operand.tmp 46), type := 0, pos := "rebuild.go:59", after := #[{ on := 0, ground := Go.Ground.data }, { on := 0, ground := Go.Ground.phase }, { on := 1, ground := Go.Ground.phase }, { on := 2, ground := Go.Ground.phase }, { on := 3, ground := Go.Ground.phase }, { on := 4, ground := Go.Ground.phase }, { on := 5, ground := Go.Ground.phase }, { on := 6, ground := Go.Ground.phase }, { on := 7, ground := Go.Ground.phase }, { on := 8, ground := Go.Ground.phase }, { on := 9, ground := Go.Ground.phase }], guard := none }) (v := ?_) rfl (by kernel_rfl) (by kernel_rfl) (by kernel_rfl) (fun _ _ _ h => h) (Or.inl ⟨by rfl, ?_⟩) (by assumption) ?_
          rotate_left 1
          focus ((intro wS hSw; (try dsimp only at hSw); go_simp) <;> (try with_reducible rfl))
          simp only [Act.put, List.setIfInBounds_toArray, List.set_cons_zero, List.set_cons_succ]
          refine wpAnyH_take (i := 11) (oi := { dst := some 57, op := Go.Op.fieldAddr 60 (Go.Operand.tmp 56) 0, type := 0, pos := "rebuild.go:59", after := #[{ on := 10, ground := Go.Ground.data }, { on := 0, ground := Go.Ground.phase }, { on := 1, ground := Go.Ground.phase }, { on := 2, ground := Go.Ground.phase }, { on := 3, ground := Go.Ground.phase }, { on := 4, ground := Go.Ground.phase }, { on := 5, ground := Go.Ground.phase }, { on := 6, ground := Go.Ground.phase }, { on := 7, ground := Go.Ground.phase }, { on := 8, ground := Go.Ground.phase }, { on := 9, ground := Go.Ground.phase }], guard := none }) (v := ?_) rfl (by kernel_rfl) (by kernel_rfl) (by kernel_rfl) (fun _ _ _ h => h) (Or.inl ⟨by rfl, ?_⟩) (by assumption) ?_
          rotate_left 1
          focus ((intro wS hSw; (try dsimp only at hSw); go_simp) <;> (try with_reducible rfl))
          simp only [Act.put, List.setIfInBounds_toArray, List.set_cons_zero, List.set_cons_succ]
          refine wpAnyH_ready (rs := [12]) (by kernel_rfl) (by simp) ?_
          refine AllReadyH.cons (o := { dst := none, op := Go.Op.store 32 (Go.Operand.tmp 57) (Go.Operand.tmp 55), type := 0, pos := "rebuild.go:59", after := #[{ on := 11, ground := Go.Ground.data }, { on := 9, ground := Go.Ground.data }, { on := 9, ground := Go.Ground.chain }, { on := 0, ground := Go.Ground.phase }, { on := 1, ground := Go.Ground.phase }, { on := 2, ground := Go.Ground.phase }, { on := 3, ground := Go.Ground.phase }, { on := 4, ground := Go.Ground.phase }, { on := 5, ground := Go.Ground.phase }, { on := 6, ground := Go.Ground.phase }, { on := 7, ground := Go.Ground.phase }, { on := 8, ground := Go.Ground.phase }, { on := 9, ground := Go.Ground.phase }], guard := none }) rfl (fun K hK => ?_) AllReadyH.nil
          refine step_store_one rfl 32 (.tmp 57) (.tmp 55) rfl g 0 rfl (.slice va (n + 1) vc) rfl rfl S22.out 60 [.slice a n cap, .map (some gd), .map (some gf)] GB3.out (by show 0 < 3; decide) ?_
          intro z4 o4 t4
          have RES : Hid (AddQ w S g A ⟨⟨k, p, m, t, (L : Int)⟩, d⟩ (.returned (.int .i64 0)) z4) := by
            obtain ⟨q1, q2⟩ := PMm.out.fin HI.out ONm.out HL3.out ADR.out.symm FD.out FF.out NW.out E1.out BB2.out (by rw [HN.out]; exact O3.out) B3.out (by rw [HN.out]; exact KK3.out) (by rw [HN.out]; exact X3.out) (by rw [HN.out]; exact o4) t4
            exact ⟨0, rfl, ADR.out, q1, by rw [if_pos rfl]; exact q2⟩
          have ks4 : (fun w' : World => w'.cell? ⟨w.heap.size, 0, none⟩ = some (.int .i64 k) ∧ w'.cell? ⟨w.heap.size, 1, none⟩ = some (.string p) ∧ w'.cell? ⟨w.heap.size, 2, none⟩ = some (.int .i64 m) ∧ w'.cell? ⟨w.heap.size, 3, none⟩ = some (.string t) ∧ w'.cell? ⟨w.heap.size, 4, none⟩ = some (.int .i64 (L : Int)) ∧ w'.cell? ⟨w.heap.size, 5, none⟩ = some (.slice x L xc)) z4 := KO.out _ ((KB.out _ ON3.out).turnB t4 (Ne.symm GW.out))
          clear o4 t4
          refine hK.out _ _ (ks4) (fun hHeld => ?_)
          clear hK K
          (try simp only [Act.put])
          refine wpAnyH_done (by kernel_rfl) ?_ _
          go_wp2_with fail
          go_ret
          exact RES.out
end Go.Proofs.YtinmkgpmoclcoaaDoor.Reb
