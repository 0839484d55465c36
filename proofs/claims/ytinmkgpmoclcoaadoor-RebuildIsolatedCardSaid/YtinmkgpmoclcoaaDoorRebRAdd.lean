/-
  Layer 15: the reference's builder: Add. (gen_RebRAdd.py writes it.)
-/
import Derived.Test.YtinmkgpmoclcoaaDoorRebRChk
import Derived.Test.YtinmkgpmoclcoaaDoorPz12
namespace Go.Proofs.YtinmkgpmoclcoaaDoor.Reb
open Go.RowKit Go.Proofs.YtinmkgpmoclcoaaDoor.Fit Pnm Tre Flt

section
variable {A : List Mb} {x : Mb}
theorem adR_ck (h : chR A x.e ≠ 0) : adR A x = chR A x.e := by unfold adR; rw [if_pos h]
theorem adR_sz (h0 : chR A x.e = 0) (h : ¬ (x.d.length : Int) = x.e.s) : adR A x = 2 := by unfold adR; rw [if_neg (fun c => c h0), if_pos h]
theorem adR_ok (h0 : chR A x.e = 0) (h : (x.d.length : Int) = x.e.s) : adR A x = 0 := adR_zero.mpr ⟨h0, h⟩
end
/-- what Add leaves -/
def AddP (w : World) (g : Nat) (ys : List MbS) (y : MbS) (e : Ending) (w' : World) : Prop :=
  ∃ X, e = .returned (.int .i64 X) ∧ X = adR (mms ys) y.n ∧ Only (fun k => k = g) w w' ∧ ((X ≠ 0 ∧ Below w.heap.size w w') ∨
    (X = 0 ∧ ∃ a' cap' y', y'.n = y.n ∧ RBd w' g a' (ys.length + 1) cap' (ys ++ [y']) ∧ (∀ q, a' = some q → w.heap.size ≤ q.block) ∧ ∀ q, y'.a = some q → w.heap.size ≤ q.block))
theorem turn_only {S : Nat → Prop} {w w' : World} {g : Nat} (t : TurnB w w' g) (h : S g) : Only S w w' :=
  ⟨(t.below (Nat.zero_le _)).os, (t.below (Nat.zero_le _)).tape, (t.below (Nat.zero_le _)).output, (t.below (Nat.zero_le _)).size, fun _ _ hk => t.other fun e => hk (e ▸ h)⟩
/-- bytes of the call's own, as they come in -/
theorem own_arg {w : World} {B n cap : Nat} {e : TypeId} {b : Option Addr} {zs : List Int} (h : w.ownsRow B e 1 (.slice b n cap) n (zs.map (.int .u8))) (hz : ∀ z ∈ zs, (Lit.int .u8 z).wf = true) : ArgInts .u8 w b n cap zs := by
  obtain ⟨b', cap', hv, hi, hc, hm, hl, hx⟩ := own_any h
  injection hv with e1 _ e3
  rw [e1, e3]
  refine ⟨hl, hc, hm, hz, ?_⟩
  rcases Nat.eq_zero_or_pos n with h0 | h0
  · exact .inl h0
  · obtain ⟨b2, off, rfl, hlt⟩ := hi.plain (by omega)
    exact .inr ⟨b2, off, rfl, hlt, fun i hi' => hi.get i hi'⟩
/-- a slice of integers lies in no cell that holds a slice -/
theorem ArgInts.turn {w w' : World} {g len cap n c : Nat} {a b : Option Addr} {T : TypeId} {zs : List Int} (h : ArgInts .u8 w a len cap zs) (ho : ObjAt w g T [.slice b n c]) (t : TurnB w w' g) : ArgInts .u8 w' a len cap zs := by
  obtain ⟨h1, h2, h3, h4, h5⟩ := h
  refine ⟨h1, h2, h3, h4, ?_⟩
  rcases h5 with h5 | ⟨q, off, rfl, hb, hc⟩
  · exact .inl h5
  · by_cases hz : len = 0
    · exact .inl hz
    · have hne : q ≠ g := by
        rintro rfl
        have := hc 0 (by omega)
        rw [ho.cell] at this
        cases off with
        | zero => simp at this
        | succ off => simp at this
      refine .inr ⟨q, off, rfl, by rw [t.size]; exact hb, fun i hi => ?_⟩
      have := hc i hi
      unfold World.cell? at this ⊢
      rw [t.other hne]
      exact this
theorem MbF.turn {w w' : World} {g n c : Nat} {b : Option Addr} {T : TypeId} {y : MbS} (h : MbF w y) (ho : ObjAt w g T [.slice b n c]) (t : TurnB w w' g) : MbF w' y := ⟨h.k, h.p, h.m, h.t, h.s, ArgInts.turn h.d ho t, h.l⟩

set_option maxRecDepth 100000 in
set_option maxHeartbeats 16000000 in
theorem rbadd_any (g : Nat) (a : Option Addr) (n cap : Nat) (ys : List MbS) (y : MbS) (w : World) (hb : RBd w g a n cap ys) (hy : MbF w y) (hn : n ≤ 1000) :
    Calls Tryd.prog 16 #[.pointer (some ⟨g, 0, none⟩), .agg (mbV y).toArray] w (AddP w g ys y) := by
  obtain ⟨⟨⟨k, p, m, t, s⟩, d⟩, x, xc⟩ := y
  obtain ⟨L, hL⟩ := named d.length
  have HL : Hid (d.length = L) := hL.out.symm
  obtain ⟨X, hX⟩ := named (chR (mms ys) ⟨k, p, m, t, s⟩)
  have HB := Lib.hid hb
  have HY := Lib.hid hy
  have EO := Lib.hid enT
  have N40 := Lib.hid hn
  have HN : Hid (ys.length = n) := hb.r.n
  have DL : Hid (L ≤ 140737488355328) := by show _ ≤ _; rw [hL.out]; exact hy.l
  have CC : Hid (∀ w', RBd w' g a n cap ys → Calls Tryd.prog 15 #[.pointer (some ⟨g, 0, none⟩), .agg (enV k p m t s).toArray] w' fun e w'' => e = .returned (.int .i64 X) ∧ Below w'.heap.size w' w'') := fun w' h => by
    rw [hX.out]
    exact rbchk_any g a n cap ys k p m t s w' h (Nat.le_trans hy.p (by unfold maxLen; omega)) (Nat.le_trans hy.t (by unfold maxLen; omega))
  obtain ⟨i0, HI0⟩ := info_of (P := Tryd.prog) (e := 30) (z := .agg (mbC 0 emp 0 emp 0 none 0 0).toArray) (s := 6) (b := 80) (by kernel_rfl)
  have I6 : Hid ((Tryd.prog.info? 30).map (fun i => (i.zero, i.size)) = some (some (.agg (mbC 0 emp 0 emp 0 none 0 0).toArray), 6)) := by show _ = _; kernel_rfl
  have I8 : Hid ((Tryd.prog.info? 5).map (·.size) = some 1) := by show _ = _; kernel_rfl
  have U8 : Hid (ElemT Tryd.prog 5 .u8 1) := elemT (by kernel_rfl)
  have S22 : Hid ((Tryd.prog.info? 22).map (·.size) = some 1) := by show _ = _; kernel_rfl
  show Calls _ _ #[_, .agg (mbC k p m t s x d.length xc).toArray] _ _
  rw [HL.out]
  clear hb hy hn hL
  go_enter Tryd.func16, Tryd.ntmps16
  go_wp2_with (first | (refine wpList_box_obj rfl 30 _ rfl (mbC k p m t s x L xc) rfl ?_; intro w1 g1 b1; have G1 := Lib.hid g1; have B1 := Lib.hid b1; clear g1 b1) | (refine wpList_load_part rfl 27 5 EO.out _ rfl w.heap.size 0 rfl (enV k p m t s) rfl (fun j u hj => by rw [Nat.zero_add, G1.out.cell]; match j, hj with | 0, hj => exact hj | 1, hj => exact hj | 2, hj => exact hj | 3, hj => exact hj | 4, hj => exact hj) ?_))
  refine (CC.out w1 (HB.out.below B1.out)).mono ?_; rintro e w2 ⟨rfl, b2⟩
  have G2 := Lib.hid (G1.out.below b2 G1.out.lt)
  have B2 := Lib.hid (belT B1.out b2)
  have GL := Lib.hid G2.out.lt
  clear b2 G1 B1 CC
  by_cases x0 : ¬ X = 0
  · have nx : (X != 0) = true := by simpa using x0
    have RES : Hid (AddP w g ys ⟨⟨⟨k, p, m, t, s⟩, d⟩, x, xc⟩ (.returned (.int .i64 X)) w2) := ⟨X, rfl, by rw [adR_ck (by rw [← hX.out]; exact x0), hX.out], Only.of_below B2.out (Nat.le_refl _), .inl ⟨x0, B2.out⟩⟩
    go_wp2_with fail
    go_ret
    exact RES.out
  obtain rfl : X = 0 := Decidable.not_not.mp x0
  clear x0
  have c4 := G2.out.get 4 rfl; have c5 := G2.out.get 5 rfl
  by_cases hs : ¬ (L : Int) = s
  · have ns : ((L : Int) != s) = true := by simpa using hs
    have RES : Hid (AddP w g ys ⟨⟨⟨k, p, m, t, s⟩, d⟩, x, xc⟩ (.returned (.int .i64 2)) w2) := ⟨2, rfl, (adR_sz hX.out.symm (by show ¬ (d.length : Int) = s; rw [HL.out]; exact hs)).symm, Only.of_below B2.out (Nat.le_refl _), .inl ⟨by decide, B2.out⟩⟩
    go_wp2_with fail
    go_ret
    exact RES.out
  obtain rfl : (L : Int) = s := Decidable.not_not.mp hs
  have ns : ((L : Int) != (L : Int)) = false := by simp
  clear hs
  have ADR : Hid (0 = adR (mms ys) ⟨⟨k, p, m, t, (L : Int)⟩, d⟩) := (adR_ok hX.out.symm (by show (d.length : Int) = L; rw [HL.out])).symm
  clear hX
  go_wp2_with fail
  obtain ⟨wz, hwz⟩ : ∃ wz, wz = w2 := ⟨_, rfl⟩
  rw [← hwz] at B2 G2 GL c4 c5
  rw [← hwz]
  clear hwz w2 c4 c5 ns
  have D0 : Hid (Below wz.heap.size wz wz.drew) := (Below.refl _ _).drew
  have HBZ := Lib.hid (HB.out.below B2.out)
  have GN : Hid (w.heap.size ≠ g) := Nat.ne_of_gt HB.out.o.lt
  have GO : Hid (∀ w', Below wz.heap.size wz w' → w'.cell? ⟨g, 0, none⟩ = some (.slice a n cap)) := fun w' h => (HBZ.out.o.below h HBZ.out.o.lt).get 0 rfl
  have GB : Hid (∀ w', Below wz.heap.size wz w' → ObjAt w' g 39 [.slice a n cap]) := fun w' h => HBZ.out.o.below h HBZ.out.o.lt
  have LG : Hid (∀ w', w'.cell? ⟨g, 0, none⟩ = some (.slice a n cap) → (loadVar 22 ⟨g, 0, none⟩).run Tryd.prog w' = .ok (.slice a n cap) w') := fun w' hc => by go_simp
  have KO : Hid (∀ w', ObjAt w' w.heap.size 30 (mbC k p m t (L : Int) x L xc) → (fun w' : World => w'.cell? ⟨w.heap.size, 0, none⟩ = some (.int .i64 k) ∧ w'.cell? ⟨w.heap.size, 1, none⟩ = some (.string p) ∧ w'.cell? ⟨w.heap.size, 2, none⟩ = some (.int .i64 m) ∧ w'.cell? ⟨w.heap.size, 3, none⟩ = some (.string t) ∧ w'.cell? ⟨w.heap.size, 4, none⟩ = some (.int .i64 (L : Int)) ∧ w'.cell? ⟨w.heap.size, 5, none⟩ = some (.slice x L xc)) w') := fun w' h =>
    ⟨h.get 0 rfl, h.get 1 rfl, h.get 2 rfl, h.get 3 rfl, h.get 4 rfl, h.get 5 rfl⟩
  have KS : Hid (∀ w', Below wz.heap.size wz w' → (fun w' : World => w'.cell? ⟨w.heap.size, 0, none⟩ = some (.int .i64 k) ∧ w'.cell? ⟨w.heap.size, 1, none⟩ = some (.string p) ∧ w'.cell? ⟨w.heap.size, 2, none⟩ = some (.int .i64 m) ∧ w'.cell? ⟨w.heap.size, 3, none⟩ = some (.string t) ∧ w'.cell? ⟨w.heap.size, 4, none⟩ = some (.int .i64 (L : Int)) ∧ w'.cell? ⟨w.heap.size, 5, none⟩ = some (.slice x L xc)) w') := fun w' h => KO.out _ (G2.out.below h G2.out.lt)
  have KT : Hid (∀ w' w'', Below wz.heap.size wz w' → TurnB w' w'' g → (fun w' : World => w'.cell? ⟨w.heap.size, 0, none⟩ = some (.int .i64 k) ∧ w'.cell? ⟨w.heap.size, 1, none⟩ = some (.string p) ∧ w'.cell? ⟨w.heap.size, 2, none⟩ = some (.int .i64 m) ∧ w'.cell? ⟨w.heap.size, 3, none⟩ = some (.string t) ∧ w'.cell? ⟨w.heap.size, 4, none⟩ = some (.int .i64 (L : Int)) ∧ w'.cell? ⟨w.heap.size, 5, none⟩ = some (.slice x L xc)) w'') := fun w' w'' h h' => KO.out _ ((G2.out.below h G2.out.lt).turnB h' GN.out)
  have INW : Hid (∀ w', Below wz.heap.size wz w' → MbsIn w' a ys) := fun w' h => (HBZ.out.r.below h).r
  have IK : Hid (∀ w', Below wz.heap.size wz w' → InK .u8 w' x d) := fun w' h => ((HY.out.below B2.out).below h).d.inK
  have BZ : Hid (w.heap.size ≤ wz.heap.size) := B2.out.size
  have FIN : Hid (∀ va vc xb xcb w' w'', Below wz.heap.size wz w' → w'.ownsRow wz.heap.size 30 6 (.slice va (n + 1) vc) (n + 1) (mbCells (ys ++ [⟨⟨⟨k, p, m, t, (L : Int)⟩, d⟩, xb, xcb⟩])) → w'.ownsRow wz.heap.size 5 1 (.slice xb L xcb) L (d.map (.int .u8)) → ObjAt w'' g 39 [.slice va (n + 1) vc] → TurnB w' w'' g → AddP w g ys ⟨⟨⟨k, p, m, t, (L : Int)⟩, d⟩, x, xc⟩ (.returned (.int .i64 0)) w'') := fun va vc xb xcb w' w'' h hO hD hg ht => by
    have hF : ∀ z ∈ ys ++ [⟨⟨⟨k, p, m, t, (L : Int)⟩, d⟩, xb, xcb⟩], MbF w' z := fun z hz => by
      rcases List.mem_append.mp hz with hz | hz
      · exact (HBZ.out.r.s z hz).below h
      · obtain rfl := List.mem_singleton.mp hz
        exact ⟨HY.out.k, HY.out.p, HY.out.m, HY.out.t, HY.out.s, by show ArgInts _ _ _ d.length _ _; rw [HL.out]; exact own_arg hD HY.out.d.2.2.2.1, HY.out.l⟩
    have gl : g < wz.heap.size := HBZ.out.o.lt
    have hO' := own_turnB hO ht gl
    have hF' : ∀ z ∈ ys ++ [⟨⟨⟨k, p, m, t, (L : Int)⟩, d⟩, xb, xcb⟩], MbF w'' z := fun z hz => MbF.turn (hF z hz) (GB.out w' h) ht
    obtain ⟨va', vc', hv, hA⟩ := ArgMbs.of_own hO' hF'
    injection hv with e1 _ e3
    subst e1; subst e3
    refine ⟨0, rfl, ADR.out, (Only.of_below (belT B2.out h) (Nat.le_refl _)).trans (turn_only ht rfl), .inr ⟨rfl, va, vc, ⟨⟨⟨k, p, m, t, (L : Int)⟩, d⟩, xb, xcb⟩, rfl, ⟨by rw [HN.out]; exact hg, by rw [HN.out]; exact hA⟩, fun q hq => ?_, fun q hq => ?_⟩⟩
    · obtain ⟨_, _, hv, _, _, _, _, h9⟩ := MbsIn.of_own hO
      injection hv with e1 _ _
      exact Nat.le_trans BZ.out (h9 q (by rw [← e1]; exact hq)).1
    · obtain ⟨_, _, hv, _, _, _, _, h9⟩ := own_any hD
      injection hv with e1 _ _
      exact Nat.le_trans BZ.out (h9 q (by rw [← e1]; exact hq)).1
  clear ADR HB
  refine wp_region_held_drew (S := (fun w' : World => w'.cell? ⟨w.heap.size, 0, none⟩ = some (.int .i64 k) ∧ w'.cell? ⟨w.heap.size, 1, none⟩ = some (.string p) ∧ w'.cell? ⟨w.heap.size, 2, none⟩ = some (.int .i64 m) ∧ w'.cell? ⟨w.heap.size, 3, none⟩ = some (.string t) ∧ w'.cell? ⟨w.heap.size, 4, none⟩ = some (.int .i64 (L : Int)) ∧ w'.cell? ⟨w.heap.size, 5, none⟩ = some (.slice x L xc))) (by kernel_rfl) (KS.out _ D0.out) (fun hHeld => ?_)
  refine wpAnyH_take (i := 0) (oi := { dst := some 20, op := Go.Op.move (Go.Operand.tmp 0), type := 37, pos := "ref.go:57", after := #[], guard := none }) (v := ?_) rfl (by kernel_rfl) (by kernel_rfl) (by kernel_rfl) (fun _ _ _ h => h) (Or.inl ⟨by rfl, ?_⟩) (by assumption) ?_
  rotate_left 1
  focus ((intro wS hSw; (try dsimp only at hSw); go_simp) <;> (try with_reducible rfl))
  simp only [Act.put, List.setIfInBounds_toArray, List.set_cons_zero, List.set_cons_succ]
  refine wpAnyH_take (i := 2) (oi := { dst := some 22, op := Go.Op.move (Go.Operand.tmp 0), type := 37, pos := "ref.go:57", after := #[], guard := none }) (v := ?_) rfl (by kernel_rfl) (by kernel_rfl) (by kernel_rfl) (fun _ _ _ h => h) (Or.inl ⟨by rfl, ?_⟩) (by assumption) ?_
  rotate_left 1
  focus ((intro wS hSw; (try dsimp only at hSw); go_simp) <;> (try with_reducible rfl))
  simp only [Act.put, List.setIfInBounds_toArray, List.set_cons_zero, List.set_cons_succ]
  refine wpAnyH_take (i := 3) (oi := { dst := some 23, op := Go.Op.nilCheck (Go.Operand.tmp 22), type := 0, pos := "ref.go:57", after := #[{ on := 2, ground := Go.Ground.data }], guard := none }) (v := ?_) rfl (by kernel_rfl) (by kernel_rfl) (by kernel_rfl) (fun _ _ _ h => h) (Or.inl ⟨by rfl, ?_⟩) (by assumption) ?_
  rotate_left 1
  focus ((intro wS hSw; (try dsimp only at hSw); go_simp) <;> (try with_reducible rfl))
  simp only [Act.put, List.setIfInBounds_toArray, List.set_cons_zero, List.set_cons_succ]
  refine wpAnyH_take (i := 4) (oi := { dst := some 24, op := Go.Op.fieldAddr 39 (Go.Operand.tmp 23) 0, type := 0, pos := "ref.go:57", after := #[{ on := 3, ground := Go.Ground.data }], guard := none }) (v := ?_) rfl (by kernel_rfl) (by kernel_rfl) (by kernel_rfl) (fun _ _ _ h => h) (Or.inl ⟨by rfl, ?_⟩) (by assumption) ?_
  rotate_left 1
  focus ((intro wS hSw; (try dsimp only at hSw); go_simp) <;> (try with_reducible rfl))
  simp only [Act.put, List.setIfInBounds_toArray, List.set_cons_zero, List.set_cons_succ]
  refine wpAnyH_take (i := 7) (oi := { dst := some 27, op := Go.Op.fieldAddr 30 (Go.Operand.tmp 3) 0, type := 0, pos := "ref.go:57", after := #[], guard := none }) (v := ?_) rfl (by kernel_rfl) (by kernel_rfl) (by kernel_rfl) (fun _ _ _ h => h) (Or.inl ⟨by rfl, ?_⟩) (by assumption) ?_
  rotate_left 1
  focus ((intro wS hSw; (try dsimp only at hSw); go_simp) <;> (try with_reducible rfl))
  simp only [Act.put, List.setIfInBounds_toArray, List.set_cons_zero, List.set_cons_succ]
  refine wpAnyH_take (i := 8) (oi := { dst := some 28, op := Go.Op.load 27 (Go.Operand.tmp 27), type := 27, pos := "ref.go:57", after := #[{ on := 7, ground := Go.Ground.data }], guard := none }) (v := ?_) rfl (by kernel_rfl) (by kernel_rfl) (by kernel_rfl) (fun _ _ _ h => h) (Or.inl ⟨by rfl, ?_⟩) (by assumption) ?_
  rotate_left 1
  focus ((intro wS hSw; (try dsimp only at hSw); go_simp) <;> (try with_reducible rfl))
  simp only [Act.put, List.setIfInBounds_toArray, List.set_cons_zero, List.set_cons_succ]
  refine wpAnyH_take (i := 10) (oi := { dst := some 30, op := Go.Op.fieldAddr 30 (Go.Operand.tmp 3) 1, type := 0, pos := "ref.go:57", after := #[], guard := none }) (v := ?_) rfl (by kernel_rfl) (by kernel_rfl) (by kernel_rfl) (fun _ _ _ h => h) (Or.inl ⟨by rfl, ?_⟩) (by assumption) ?_
  rotate_left 1
  focus ((intro wS hSw; (try dsimp only at hSw); go_simp) <;> (try with_reducible rfl))
  simp only [Act.put, List.setIfInBounds_toArray, List.set_cons_zero, List.set_cons_succ]
  refine wpAnyH_take (i := 11) (oi := { dst := some 31, op := Go.Op.load 28 (Go.Operand.tmp 30), type := 28, pos := "ref.go:57", after := #[{ on := 10, ground := Go.Ground.data }], guard := none }) (v := ?_) rfl (by kernel_rfl) (by kernel_rfl) (by kernel_rfl) (fun _ _ _ h => h) (Or.inl ⟨by rfl, ?_⟩) (by assumption) ?_
  rotate_left 1
  focus ((intro wS hSw; (try dsimp only at hSw); go_simp) <;> (try with_reducible rfl))
  simp only [Act.put, List.setIfInBounds_toArray, List.set_cons_zero, List.set_cons_succ]
  refine wpAnyH_ready (rs := [1, 5, 9]) (by kernel_rfl) (by simp) ?_
  refine AllReadyH.cons (o := { dst := some 21, op := Go.Op.buildSlice 22 0 #[], type := 22, pos := "ref.go:57", after := #[], guard := none }) rfl (fun K hK => ?_) (AllReadyH.cons (o := { dst := some 25, op := Go.Op.load 22 (Go.Operand.tmp 24), type := 22, pos := "ref.go:57", after := #[{ on := 4, ground := Go.Ground.data }], guard := none }) rfl (fun K hK => ?_) (AllReadyH.cons (o := { dst := some 29, op := Go.Op.buildSlice 28 0 #[], type := 28, pos := "ref.go:57", after := #[], guard := none }) rfl (fun K hK => ?_) AllReadyH.nil))
  · refine step_lit_mb0 rfl 22 30 rfl Tryd.underlying22 _ I6.out ?_
    intro z11 o11 b11
    have O11 : Hid (z11.ownsRow wz.heap.size 30 6 (.slice (some ⟨wz.heap.size, 0, none⟩) 0 0) 0 (mbCells [])) := own_lower o11 D0.out.size
    have D11 : Hid (Below wz.heap.size wz z11) := D0.out.trans (b11.mono D0.out.size)
    clear o11 b11
    refine hK.out _ _ (KS.out _ D11.out) (fun hHeld => ?_)
    clear hK K
    (try simp only [Act.put, List.setIfInBounds_toArray, List.set_cons_zero, List.set_cons_succ])
    refine wpAnyH_ready (rs := [5, 9]) (by kernel_rfl) (by simp) ?_
    refine AllReadyH.cons (o := { dst := some 25, op := Go.Op.load 22 (Go.Operand.tmp 24), type := 22, pos := "ref.go:57", after := #[{ on := 4, ground := Go.Ground.data }], guard := none }) rfl (fun K hK => ?_) (AllReadyH.cons (o := { dst := some 29, op := Go.Op.buildSlice 28 0 #[], type := 28, pos := "ref.go:57", after := #[], guard := none }) rfl (fun K hK => ?_) AllReadyH.nil)
    · refine step_load_run rfl 22 (.tmp 24) rfl ⟨g, 0, none⟩ rfl (.slice a n cap) (LG.out _ (GO.out _ D11.out)) ?_
      refine hK.out _ _ (KS.out _ D11.out) (fun hHeld => ?_)
      clear hK K
      (try simp only [Act.put, List.setIfInBounds_toArray, List.set_cons_zero, List.set_cons_succ])
      refine wpAnyH_ready (rs := [6, 9]) (by kernel_rfl) (by simp) ?_
      refine AllReadyH.cons (o := { dst := some 26, op := Go.Op.call { callee := Go.Callee.builtin Go.Builtin.append, args := #[Go.Operand.tmp 21, Go.Operand.tmp 25], argTypes := #[22, 22] }, type := 22, pos := "ref.go:57", after := #[{ on := 1, ground := Go.Ground.data }, { on := 5, ground := Go.Ground.data }], guard := none }) rfl (fun K hK => ?_) (AllReadyH.cons (o := { dst := some 29, op := Go.Op.buildSlice 28 0 #[], type := 28, pos := "ref.go:57", after := #[], guard := none }) rfl (fun K hK => ?_) AllReadyH.nil)
      · refine step_append_mms rfl (.tmp 21) (.tmp 25) 22 rfl wz.heap.size 30 i0 _ Tryd.underlying22 HI0 rfl (.slice (some ⟨wz.heap.size, 0, none⟩) 0 0) 0 [] rfl O11.out a n cap ys rfl (INW.out _ D11.out) HN.out (by have := N40.out; omega) D11.out.size ?_
        intro v13 z13 o13 b13 k13
        rw [Nat.zero_add, List.nil_append] at o13
        have O13 : Hid (z13.ownsRow wz.heap.size 30 6 v13 n (mbCells ys)) := o13
        have D13 : Hid (Below wz.heap.size wz z13) := D11.out.trans b13
        clear o13 b13 k13
        refine hK.out _ _ (KS.out _ D13.out) (fun hHeld => ?_)
        clear hK K
        (try simp only [Act.put, List.setIfInBounds_toArray, List.set_cons_zero, List.set_cons_succ])
        refine wpAnyH_ready (rs := [9]) (by kernel_rfl) (by simp) ?_
        refine AllReadyH.cons (o := { dst := some 29, op := Go.Op.buildSlice 28 0 #[], type := 28, pos := "ref.go:57", after := #[], guard := none }) rfl (fun K hK => ?_) AllReadyH.nil
        refine step_lit_k0 rfl 28 5 .u8 rfl Tryd.underlying28 I8.out ?_
        intro z14 o14 b14
        have B14 : Hid (z14.ownsRow wz.heap.size 5 1 (.slice (some ⟨z13.heap.size, 0, none⟩) 0 0) 0 (([] : List Int).map (.int .u8))) := own_lower o14 D13.out.size
        have D14 : Hid (Below wz.heap.size wz z14) := D13.out.trans (b14.mono D13.out.size)
        have O14 := Lib.hid (own_stay' O13.out b14 (Nat.le_refl _))
        clear o14 b14
        refine hK.out _ _ (KS.out _ D14.out) (fun hHeld => ?_)
        clear hK K
        (try simp only [Act.put, List.setIfInBounds_toArray, List.set_cons_zero, List.set_cons_succ])
        refine wpAnyH_ready (rs := [12]) (by kernel_rfl) (by simp) ?_
        refine AllReadyH.cons (o := { dst := some 32, op := Go.Op.call { callee := Go.Callee.builtin Go.Builtin.append, args := #[Go.Operand.tmp 29, Go.Operand.tmp 31], argTypes := #[28, 28] }, type := 28, pos := "ref.go:57", after := #[{ on := 9, ground := Go.Ground.data }, { on := 11, ground := Go.Ground.data }, { on := 6, ground := Go.Ground.chain }], guard := none }) rfl (fun K hK => ?_) AllReadyH.nil
        refine step_append_kk rfl (.tmp 29) (.tmp 31) 28 rfl wz.heap.size 5 .u8 1 Tryd.underlying28 U8.out (.slice (some ⟨z13.heap.size, 0, none⟩) 0 0) 0 [] rfl B14.out x L xc d rfl (IK.out _ D14.out) HL.out (by have := DL.out; unfold maxLen; omega) (by have := DL.out; omega) D14.out.size ?_
        intro v15 z15 o15 b15 k15
        rw [Nat.zero_add, List.nil_append] at o15
        have O15 := Lib.hid (own_other O14.out B14.out (by decide) k15)
        have D15 : Hid (Below wz.heap.size wz z15) := D14.out.trans b15
        obtain ⟨xb, xcb, rfl, FD15⟩ : ∃ xb xcb, v15 = .slice xb L xcb ∧ z15.ownsRow wz.heap.size 5 1 v15 L (d.map (.int .u8)) := by
          obtain ⟨xb, xcb, hv, _⟩ := own_any o15
          exact ⟨xb, xcb, hv, o15⟩
        have B15 := Lib.hid FD15
        clear o15 b15 k15 FD15
        refine hK.out _ _ (KS.out _ D15.out) (fun hHeld => ?_)
        clear hK K
        (try simp only [Act.put, List.setIfInBounds_toArray, List.set_cons_zero, List.set_cons_succ])
        refine wpAnyH_take (i := 13) (oi := { dst := some 33, op := Go.Op.build 30 #[(0, Go.Operand.tmp 28), (1, Go.Operand.tmp 32)], type := 30, pos := "ref.go:57", after := #[{ on := 8, ground := Go.Ground.data }, { on := 12, ground := Go.Ground.data }], guard := none }) (v := ?_) rfl (by kernel_rfl) (by kernel_rfl) (by kernel_rfl) (fun _ _ _ h => h) (Or.inl ⟨by rfl, ?_⟩) (by assumption) ?_
        rotate_left 1
        focus ((intro wS hSw; (try dsimp only at hSw); go_simp) <;> (try with_reducible rfl))
        simp only [Act.put, List.setIfInBounds_toArray, List.set_cons_zero, List.set_cons_succ]
        refine wpAnyH_ready (rs := [14]) (by kernel_rfl) (by simp) ?_
        refine AllReadyH.cons (o := { dst := some 34, op := Go.Op.buildSlice 22 1 #[(0, Go.Operand.tmp 33)], type := 22, pos := "ref.go:57", after := #[{ on := 13, ground := Go.Ground.data }], guard := none }) rfl (fun K hK => ?_) AllReadyH.nil
        refine step_lit_mb1 rfl 22 30 (.tmp 33) rfl Tryd.underlying22 _ I6.out ⟨⟨⟨k, p, m, t, (L : Int)⟩, d⟩, xb, xcb⟩ (by show _ = Value.agg (mbC k p m t (L : Int) xb d.length xcb).toArray; rw [HL.out]; rfl) ?_
        intro z18 l18 b18
        have L18 : Hid (ObjAt z18 z15.heap.size 30 (mbCells [⟨⟨⟨k, p, m, t, (L : Int)⟩, d⟩, xb, xcb⟩])) := l18
        have D18 : Hid (Below wz.heap.size wz z18) := D15.out.trans (b18.mono D15.out.size)
        have O18 := Lib.hid (own_stay' O15.out b18 (Nat.le_refl _))
        have B18 := Lib.hid (own_stay' B15.out b18 (Nat.le_refl _))
        clear l18 b18
        refine hK.out _ _ (KS.out _ D18.out) (fun hHeld => ?_)
        clear hK K
        (try simp only [Act.put, List.setIfInBounds_toArray, List.set_cons_zero, List.set_cons_succ])
        refine wpAnyH_ready (rs := [15]) (by kernel_rfl) (by simp) ?_
        refine AllReadyH.cons (o := { dst := some 35, op := Go.Op.call { callee := Go.Callee.builtin Go.Builtin.append, args := #[Go.Operand.tmp 26, Go.Operand.tmp 34], argTypes := #[22, 22] }, type := 22, pos := "ref.go:57", after := #[{ on := 6, ground := Go.Ground.data }, { on := 14, ground := Go.Ground.data }, { on := 12, ground := Go.Ground.chain }], guard := none }) rfl (fun K hK => ?_) AllReadyH.nil
        refine step_append_mms rfl (.tmp 26) (.tmp 34) 22 rfl wz.heap.size 30 i0 _ Tryd.underlying22 HI0 rfl _ n ys rfl O18.out (some ⟨z15.heap.size, 0, none⟩) 1 1 [⟨⟨⟨k, p, m, t, (L : Int)⟩, d⟩, xb, xcb⟩] rfl (obj_mms L18.out) rfl (by have := N40.out; omega) D18.out.size ?_
        intro v19 z19 o19 b19 k19
        have B19 := Lib.hid (own_other B18.out O18.out (by decide) k19)
        have D19 : Hid (Below wz.heap.size wz z19) := D18.out.trans b19
        obtain ⟨va, vc, rfl, O19⟩ : ∃ va vc, v19 = .slice va (n + 1) vc ∧ Hid (z19.ownsRow wz.heap.size 30 6 v19 (n + 1) (mbCells (ys ++ [⟨⟨⟨k, p, m, t, (L : Int)⟩, d⟩, xb, xcb⟩]))) := by
          obtain ⟨va, vc, hv, _⟩ := MbsIn.of_own o19
          exact ⟨va, vc, hv, o19⟩
        clear o19 b19 k19
        refine hK.out _ _ (KS.out _ D19.out) (fun hHeld => ?_)
        clear hK K
        (try simp only [Act.put, List.setIfInBounds_toArray, List.set_cons_zero, List.set_cons_succ])
        refine wpAnyH_take (i := 16) (oi := { dst := some 36, op := Go.Op.nilCheck (Go.Operand.tmp 20), type := 0, pos := "ref.go:57", after := #[{ on := 0, ground := Go.Ground.data }, { on := 0, ground := Go.Ground.phase }, { on := 1, ground := Go.Ground.phase }, { on := 2, ground := Go.Ground.phase }, { on := 3, ground := Go.Ground.phase }, { on := 4, ground := Go.Ground.phase }, { on := 5, ground := Go.Ground.phase }, { on := 6, ground := Go.Ground.phase }, { on := 7, ground := Go.Ground.phase }, { on := 8, ground := Go.Ground.phase }, { on := 9, ground := Go.Ground.phase }, { on := 10, ground := Go.Ground.phase }, { on := 11, ground := Go.Ground.phase }, { on := 12, ground := Go.Ground.phase }, { on := 13, ground := Go.Ground.phase }, { on := 14, ground := Go.Ground.phase }, { on := 15, ground := Go.Ground.phase }], guard := none }) (v := ?_) rfl (by kernel_rfl) (by kernel_rfl) (by kernel_rfl) (fun _ _ _ h => h) (Or.inl ⟨by rfl, ?_⟩) (by assumption) ?_
        rotate_left 1
        focus ((intro wS hSw; (try dsimp only at hSw); go_simp) <;> (try with_reducible rfl))
        simp only [Act.put, List.setIfInBounds_toArray, List.set_cons_zero, List.set_cons_succ]
        refine wpAnyH_take (i := 17) (oi := { dst := some 37, op := Go.Op.fieldAddr 39 (Go.Operand.tmp 36) 0, type := 0, pos := "ref.go:57", after := #[{ on := 16, ground := Go.Ground.data }, { on := 0, ground := Go.Ground.phase }, { on := 1, ground := Go.Ground.phase }, { on := 2, ground := Go.Ground.phase }, { on := 3, ground := Go.Ground.phase }, { on := 4, ground := Go.Ground.phase }, { on := 5, ground := Go.Ground.phase }, { on := 6, ground := Go.Ground.phase }, { on := 7, ground := Go.Ground.phase }, { on := 8, ground := Go.Ground.phase }, { on := 9, ground := Go.Ground.phase }, { on := 10, ground := Go.Ground.phase }, { on := 11, ground := Go.Ground.phase }, { on := 12, ground := Go.Ground.phase }, { on := 13, ground := Go.Ground.phase }, { on := 14, ground := Go.Ground.phase }, { on := 15, ground := Go.Ground.phase }], guard := none }) (v := ?_) rfl (by kernel_rfl) (by kernel_rfl) (by kernel_rfl) (fun _ _ _ h => h) (Or.inl ⟨by rfl, ?_⟩) (by assumption) ?_
        rotate_left 1
        focus ((intro wS hSw; (try dsimp only at hSw); go_simp) <;> (try with_reducible rfl))
        simp only [Act.put, List.setIfInBounds_toArray, List.set_cons_zero, List.set_cons_succ]
        refine wpAnyH_ready (rs := [18]) (by kernel_rfl) (by simp) ?_
        refine AllReadyH.cons (o := { dst := none, op := Go.Op.store 22 (Go.Operand.tmp 37) (Go.Operand.tmp 35), type := 0, pos := "ref.go:57", after := #[{ on := 17, ground := Go.Ground.data }, { on := 15, ground := Go.Ground.data }, { on := 15, ground := Go.Ground.chain }, { on := 0, ground := Go.Ground.phase }, { on := 1, ground := Go.Ground.phase }, { on := 2, ground := Go.Ground.phase }, { on := 3, ground := Go.Ground.phase }, { on := 4, ground := Go.Ground.phase }, { on := 5, ground := Go.Ground.phase }, { on := 6, ground := Go.Ground.phase }, { on := 7, ground := Go.Ground.phase }, { on := 8, ground := Go.Ground.phase }, { on := 9, ground := Go.Ground.phase }, { on := 10, ground := Go.Ground.phase }, { on := 11, ground := Go.Ground.phase }, { on := 12, ground := Go.Ground.phase }, { on := 13, ground := Go.Ground.phase }, { on := 14, ground := Go.Ground.phase }, { on := 15, ground := Go.Ground.phase }], guard := none }) rfl (fun K hK => ?_) AllReadyH.nil
        refine step_store_one rfl 22 (.tmp 37) (.tmp 35) rfl g 0 rfl (.slice va (n + 1) vc) rfl rfl S22.out 39 [.slice a n cap] (GB.out _ D19.out) (by simp) ?_
        intro z20 o20 t20
        have RES : Hid (AddP w g ys ⟨⟨⟨k, p, m, t, (L : Int)⟩, d⟩, x, xc⟩ (.returned (.int .i64 0)) z20) := FIN.out va vc xb xcb _ _ D19.out O19.out B19.out o20 t20
        have ks20 : (fun w' : World => w'.cell? ⟨w.heap.size, 0, none⟩ = some (.int .i64 k) ∧ w'.cell? ⟨w.heap.size, 1, none⟩ = some (.string p) ∧ w'.cell? ⟨w.heap.size, 2, none⟩ = some (.int .i64 m) ∧ w'.cell? ⟨w.heap.size, 3, none⟩ = some (.string t) ∧ w'.cell? ⟨w.heap.size, 4, none⟩ = some (.int .i64 (L : Int)) ∧ w'.cell? ⟨w.heap.size, 5, none⟩ = some (.slice x L xc)) z20 := KT.out _ _ D19.out t20
        clear o20 t20
        refine hK.out _ _ (ks20) (fun hHeld => ?_)
        clear hK K
        (try simp only [Act.put])
        refine wpAnyH_done (by kernel_rfl) ?_ _
        go_wp2_with fail
        go_ret
        exact RES.out
      · refine step_lit_k0 rfl 28 5 .u8 rfl Tryd.underlying28 I8.out ?_
        intro z19 o19 b19
        have B19 : Hid (z19.ownsRow wz.heap.size 5 1 (.slice (some ⟨z11.heap.size, 0, none⟩) 0 0) 0 (([] : List Int).map (.int .u8))) := own_lower o19 D11.out.size
        have D19 : Hid (Below wz.heap.size wz z19) := D11.out.trans (b19.mono D11.out.size)
        have O19 := Lib.hid (own_stay' O11.out b19 (Nat.le_refl _))
        clear o19 b19
        refine hK.out _ _ (KS.out _ D19.out) (fun hHeld => ?_)
        clear hK K
        (try simp only [Act.put, List.setIfInBounds_toArray, List.set_cons_zero, List.set_cons_succ])
        refine wpAnyH_ready (rs := [6]) (by kernel_rfl) (by simp) ?_
        refine AllReadyH.cons (o := { dst := some 26, op := Go.Op.call { callee := Go.Callee.builtin Go.Builtin.append, args := #[Go.Operand.tmp 21, Go.Operand.tmp 25], argTypes := #[22, 22] }, type := 22, pos := "ref.go:57", after := #[{ on := 1, ground := Go.Ground.data }, { on := 5, ground := Go.Ground.data }], guard := none }) rfl (fun K hK => ?_) AllReadyH.nil
        refine step_append_mms rfl (.tmp 21) (.tmp 25) 22 rfl wz.heap.size 30 i0 _ Tryd.underlying22 HI0 rfl (.slice (some ⟨wz.heap.size, 0, none⟩) 0 0) 0 [] rfl O19.out a n cap ys rfl (INW.out _ D19.out) HN.out (by have := N40.out; omega) D19.out.size ?_
        intro v20 z20 o20 b20 k20
        rw [Nat.zero_add, List.nil_append] at o20
        have O20 : Hid (z20.ownsRow wz.heap.size 30 6 v20 n (mbCells ys)) := o20
        have D20 : Hid (Below wz.heap.size wz z20) := D19.out.trans b20
        have B20 := Lib.hid (own_other B19.out O19.out (by decide) k20)
        clear o20 b20 k20
        refine hK.out _ _ (KS.out _ D20.out) (fun hHeld => ?_)
        clear hK K
        (try simp only [Act.put, List.setIfInBounds_toArray, List.set_cons_zero, List.set_cons_succ])
        refine wpAnyH_ready (rs := [12]) (by kernel_rfl) (by simp) ?_
        refine AllReadyH.cons (o := { dst := some 32, op := Go.Op.call { callee := Go.Callee.builtin Go.Builtin.append, args := #[Go.Operand.tmp 29, Go.Operand.tmp 31], argTypes := #[28, 28] }, type := 28, pos := "ref.go:57", after := #[{ on := 9, ground := Go.Ground.data }, { on := 11, ground := Go.Ground.data }, { on := 6, ground := Go.Ground.chain }], guard := none }) rfl (fun K hK => ?_) AllReadyH.nil
        refine step_append_kk rfl (.tmp 29) (.tmp 31) 28 rfl wz.heap.size 5 .u8 1 Tryd.underlying28 U8.out (.slice (some ⟨z11.heap.size, 0, none⟩) 0 0) 0 [] rfl B20.out x L xc d rfl (IK.out _ D20.out) HL.out (by have := DL.out; unfold maxLen; omega) (by have := DL.out; omega) D20.out.size ?_
        intro v21 z21 o21 b21 k21
        rw [Nat.zero_add, List.nil_append] at o21
        have O21 := Lib.hid (own_other O20.out B20.out (by decide) k21)
        have D21 : Hid (Below wz.heap.size wz z21) := D20.out.trans b21
        obtain ⟨xb, xcb, rfl, FD21⟩ : ∃ xb xcb, v21 = .slice xb L xcb ∧ z21.ownsRow wz.heap.size 5 1 v21 L (d.map (.int .u8)) := by
          obtain ⟨xb, xcb, hv, _⟩ := own_any o21
          exact ⟨xb, xcb, hv, o21⟩
        have B21 := Lib.hid FD21
        clear o21 b21 k21 FD21
        refine hK.out _ _ (KS.out _ D21.out) (fun hHeld => ?_)
        clear hK K
        (try simp only [Act.put, List.setIfInBounds_toArray, List.set_cons_zero, List.set_cons_succ])
        refine wpAnyH_take (i := 13) (oi := { dst := some 33, op := Go.Op.build 30 #[(0, Go.Operand.tmp 28), (1, Go.Operand.tmp 32)], type := 30, pos := "ref.go:57", after := #[{ on := 8, ground := Go.Ground.data }, { on := 12, ground := Go.Ground.data }], guard := none }) (v := ?_) rfl (by kernel_rfl) (by kernel_rfl) (by kernel_rfl) (fun _ _ _ h => h) (Or.inl ⟨by rfl, ?_⟩) (by assumption) ?_
        rotate_left 1
        focus ((intro wS hSw; (try dsimp only at hSw); go_simp) <;> (try with_reducible rfl))
        simp only [Act.put, List.setIfInBounds_toArray, List.set_cons_zero, List.set_cons_succ]
        refine wpAnyH_ready (rs := [14]) (by kernel_rfl) (by simp) ?_
        refine AllReadyH.cons (o := { dst := some 34, op := Go.Op.buildSlice 22 1 #[(0, Go.Operand.tmp 33)], type := 22, pos := "ref.go:57", after := #[{ on := 13, ground := Go.Ground.data }], guard := none }) rfl (fun K hK => ?_) AllReadyH.nil
        refine step_lit_mb1 rfl 22 30 (.tmp 33) rfl Tryd.underlying22 _ I6.out ⟨⟨⟨k, p, m, t, (L : Int)⟩, d⟩, xb, xcb⟩ (by show _ = Value.agg (mbC k p m t (L : Int) xb d.length xcb).toArray; rw [HL.out]; rfl) ?_
        intro z24 l24 b24
        have L24 : Hid (ObjAt z24 z21.heap.size 30 (mbCells [⟨⟨⟨k, p, m, t, (L : Int)⟩, d⟩, xb, xcb⟩])) := l24
        have D24 : Hid (Below wz.heap.size wz z24) := D21.out.trans (b24.mono D21.out.size)
        have O24 := Lib.hid (own_stay' O21.out b24 (Nat.le_refl _))
        have B24 := Lib.hid (own_stay' B21.out b24 (Nat.le_refl _))
        clear l24 b24
        refine hK.out _ _ (KS.out _ D24.out) (fun hHeld => ?_)
        clear hK K
        (try simp only [Act.put, List.setIfInBounds_toArray, List.set_cons_zero, List.set_cons_succ])
        refine wpAnyH_ready (rs := [15]) (by kernel_rfl) (by simp) ?_
        refine AllReadyH.cons (o := { dst := some 35, op := Go.Op.call { callee := Go.Callee.builtin Go.Builtin.append, args := #[Go.Operand.tmp 26, Go.Operand.tmp 34], argTypes := #[22, 22] }, type := 22, pos := "ref.go:57", after := #[{ on := 6, ground := Go.Ground.data }, { on := 14, ground := Go.Ground.data }, { on := 12, ground := Go.Ground.chain }], guard := none }) rfl (fun K hK => ?_) AllReadyH.nil
        refine step_append_mms rfl (.tmp 26) (.tmp 34) 22 rfl wz.heap.size 30 i0 _ Tryd.underlying22 HI0 rfl _ n ys rfl O24.out (some ⟨z21.heap.size, 0, none⟩) 1 1 [⟨⟨⟨k, p, m, t, (L : Int)⟩, d⟩, xb, xcb⟩] rfl (obj_mms L24.out) rfl (by have := N40.out; omega) D24.out.size ?_
        intro v25 z25 o25 b25 k25
        have B25 := Lib.hid (own_other B24.out O24.out (by decide) k25)
        have D25 : Hid (Below wz.heap.size wz z25) := D24.out.trans b25
        obtain ⟨va, vc, rfl, O25⟩ : ∃ va vc, v25 = .slice va (n + 1) vc ∧ Hid (z25.ownsRow wz.heap.size 30 6 v25 (n + 1) (mbCells (ys ++ [⟨⟨⟨k, p, m, t, (L : Int)⟩, d⟩, xb, xcb⟩]))) := by
          obtain ⟨va, vc, hv, _⟩ := MbsIn.of_own o25
          exact ⟨va, vc, hv, o25⟩
        clear o25 b25 k25
        refine hK.out _ _ (KS.out _ D25.out) (fun hHeld => ?_)
        clear hK K
        (try simp only [Act.put, List.setIfInBounds_toArray, List.set_cons_zero, List.set_cons_succ])
        refine wpAnyH_take (i := 16) (oi := { dst := some 36, op := Go.Op.nilCheck (Go.Operand.tmp 20), type := 0, pos := "ref.go:57", after := #[{ on := 0, ground := Go.Ground.data }, { on := 0, ground := Go.Ground.phase }, { on := 1, ground := Go.Ground.phase }, { on := 2, ground := Go.Ground.phase }, { on := 3, ground := Go.Ground.phase }, { on := 4, ground := Go.Ground.phase }, { on := 5, ground := Go.Ground.phase }, { on := 6, ground := Go.Ground.phase }, { on := 7, ground := Go.Ground.phase }, { on := 8, ground := Go.Ground.phase }, { on := 9, ground := Go.Ground.phase }, { on := 10, ground := Go.Ground.phase }, { on := 11, ground := Go.Ground.phase }, { on := 12, ground := Go.Ground.phase }, { on := 13, ground := Go.Ground.phase }, { on := 14, ground := Go.Ground.phase }, { on := 15, ground := Go.Ground.phase }], guard := none }) (v := ?_) rfl (by kernel_rfl) (by kernel_rfl) (by kernel_rfl) (fun _ _ _ h => h) (Or.inl ⟨by rfl, ?_⟩) (by assumption) ?_
        rotate_left 1
        focus ((intro wS hSw; (try dsimp only at hSw); go_simp) <;> (try with_reducible rfl))
        simp only [Act.put, List.setIfInBounds_toArray, List.set_cons_zero, List.set_cons_succ]
        refine wpAnyH_take (i := 17) (oi := { dst := some 37, op := Go.Op.fieldAddr 39 (Go.Operand.tmp 36) 0, type := 0, pos := "ref.go:57", after := #[{ on := 16, ground := Go.Ground.data }, { on := 0, ground := Go.Ground.phase }, { on := 1, ground := Go.Ground.phase }, { on := 2, ground := Go.Ground.phase }, { on := 3, ground := Go.Ground.phase }, { on := 4, ground := Go.Ground.phase }, { on := 5, ground := Go.Ground.phase }, { on := 6, ground := Go.Ground.phase }, { on := 7, ground := Go.Ground.phase }, { on := 8, ground := Go.Ground.phase }, { on := 9, ground := Go.Ground.phase }, { on := 10, ground := Go.Ground.phase }, { on := 11, ground := Go.Ground.phase }, { on := 12, ground := Go.Ground.phase }, { on := 13, ground := Go.Ground.phase }, { on := 14, ground := Go.Ground.phase }, { on := 15, ground := Go.Ground.phase }], guard := none }) (v := ?_) rfl (by kernel_rfl) (by kernel_rfl) (by kernel_rfl) (fun _ _ _ h => h) (Or.inl ⟨by rfl, ?_⟩) (by assumption) ?_
        rotate_left 1
        focus ((intro wS hSw; (try dsimp only at hSw); go_simp) <;> (try with_reducible rfl))
        simp only [Act.put, List.setIfInBounds_toArray, List.set_cons_zero, List.set_cons_succ]
        refine wpAnyH_ready (rs := [18]) (by kernel_rfl) (by simp) ?_
        refine AllReadyH.cons (o := { dst := none, op := Go.Op.store 22 (Go.Operand.tmp 37) (Go.Operand.tmp 35), type := 0, pos := "ref.go:57", after := #[{ on := 17, ground := Go.Ground.data }, { on := 15, ground := Go.Ground.data }, { on := 15, ground := Go.Ground.chain }, { on := 0, ground := Go.Ground.phase }, { on := 1, ground := Go.Ground.phase }, { on := 2, ground := Go.Ground.phase }, { on := 3, ground := Go.Ground.phase }, { on := 4, ground := Go.Ground.phase }, { on := 5, ground := Go.Ground.phase }, { on := 6, ground := Go.Ground.phase }, { on := 7, ground := Go.Ground.phase }, { on := 8, ground := Go.Ground.phase }, { on := 9, ground := Go.Ground.phase }, { on := 10, ground := Go.Ground.phase }, { on := 11, ground := Go.Ground.phase }, { on := 12, ground := Go.Ground.phase }, { on := 13, ground := Go.Ground.phase }, { on := 14, ground := Go.Ground.phase }, { on := 15, ground := Go.Ground.phase }], guard := none }) rfl (fun K hK => ?_) AllReadyH.nil
        refine step_store_one rfl 22 (.tmp 37) (.tmp 35) rfl g 0 rfl (.slice va (n + 1) vc) rfl rfl S22.out 39 [.slice a n cap] (GB.out _ D25.out) (by simp) ?_
        intro z26 o26 t26
        have RES : Hid (AddP w g ys ⟨⟨⟨k, p, m, t, (L : Int)⟩, d⟩, x, xc⟩ (.returned (.int .i64 0)) z26) := FIN.out va vc xb xcb _ _ D25.out O25.out B25.out o26 t26
        have ks26 : (fun w' : World => w'.cell? ⟨w.heap.size, 0, none⟩ = some (.int .i64 k) ∧ w'.cell? ⟨w.heap.size, 1, none⟩ = some (.string p) ∧ w'.cell? ⟨w.heap.size, 2, none⟩ = some (.int .i64 m) ∧ w'.cell? ⟨w.heap.size, 3, none⟩ = some (.string t) ∧ w'.cell? ⟨w.heap.size, 4, none⟩ = some (.int .i64 (L : Int)) ∧ w'.cell? ⟨w.heap.size, 5, none⟩ = some (.slice x L xc)) z26 := KT.out _ _ D25.out t26
        clear o26 t26
        refine hK.out _ _ (ks26) (fun hHeld => ?_)
        clear hK K
        (try simp only [Act.put])
        refine wpAnyH_done (by kernel_rfl) ?_ _
        go_wp2_with fail
        go_ret
        exact RES.out
      
    · refine step_lit_k0 rfl 28 5 .u8 rfl Tryd.underlying28 I8.out ?_
      intro z25 o25 b25
      have B25 : Hid (z25.ownsRow wz.heap.size 5 1 (.slice (some ⟨z11.heap.size, 0, none⟩) 0 0) 0 (([] : List Int).map (.int .u8))) := own_lower o25 D11.out.size
      have D25 : Hid (Below wz.heap.size wz z25) := D11.out.trans (b25.mono D11.out.size)
      have O25 := Lib.hid (own_stay' O11.out b25 (Nat.le_refl _))
      clear o25 b25
      refine hK.out _ _ (KS.out _ D25.out) (fun hHeld => ?_)
      clear hK K
      (try simp only [Act.put, List.setIfInBounds_toArray, List.set_cons_zero, List.set_cons_succ])
      refine wpAnyH_ready (rs := [5]) (by kernel_rfl) (by simp) ?_
      refine AllReadyH.cons (o := { dst := some 25, op := Go.Op.load 22 (Go.Operand.tmp 24), type := 22, pos := "ref.go:57", after := #[{ on := 4, ground := Go.Ground.data }], guard := none }) rfl (fun K hK => ?_) AllReadyH.nil
      refine step_load_run rfl 22 (.tmp 24) rfl ⟨g, 0, none⟩ rfl (.slice a n cap) (LG.out _ (GO.out _ D25.out)) ?_
      refine hK.out _ _ (KS.out _ D25.out) (fun hHeld => ?_)
      clear hK K
      (try simp only [Act.put, List.setIfInBounds_toArray, List.set_cons_zero, List.set_cons_succ])
      refine wpAnyH_ready (rs := [6]) (by kernel_rfl) (by simp) ?_
      refine AllReadyH.cons (o := { dst := some 26, op := Go.Op.call { callee := Go.Callee.builtin Go.Builtin.append, args := #[Go.Operand.tmp 21, Go.Operand.tmp 25], argTypes := #[22, 22] }, type := 22, pos := "ref.go:57", after := #[{ on := 1, ground := Go.Ground.data }, { on := 5, ground := Go.Ground.data }], guard := none }) rfl (fun K hK => ?_) AllReadyH.nil
      refine step_append_mms rfl (.tmp 21) (.tmp 25) 22 rfl wz.heap.size 30 i0 _ Tryd.underlying22 HI0 rfl (.slice (some ⟨wz.heap.size, 0, none⟩) 0 0) 0 [] rfl O25.out a n cap ys rfl (INW.out _ D25.out) HN.out (by have := N40.out; omega) D25.out.size ?_
      intro v27 z27 o27 b27 k27
      rw [Nat.zero_add, List.nil_append] at o27
      have O27 : Hid (z27.ownsRow wz.heap.size 30 6 v27 n (mbCells ys)) := o27
      have D27 : Hid (Below wz.heap.size wz z27) := D25.out.trans b27
      have B27 := Lib.hid (own_other B25.out O25.out (by decide) k27)
      clear o27 b27 k27
      refine hK.out _ _ (KS.out _ D27.out) (fun hHeld => ?_)
      clear hK K
      (try simp only [Act.put, List.setIfInBounds_toArray, List.set_cons_zero, List.set_cons_succ])
      refine wpAnyH_ready (rs := [12]) (by kernel_rfl) (by simp) ?_
      refine AllReadyH.cons (o := { dst := some 32, op := Go.Op.call { callee := Go.Callee.builtin Go.Builtin.append, args := #[Go.Operand.tmp 29, Go.Operand.tmp 31], argTypes := #[28, 28] }, type := 28, pos := "ref.go:57", after := #[{ on := 9, ground := Go.Ground.data }, { on := 11, ground := Go.Ground.data }, { on := 6, ground := Go.Ground.chain }], guard := none }) rfl (fun K hK => ?_) AllReadyH.nil
      refine step_append_kk rfl (.tmp 29) (.tmp 31) 28 rfl wz.heap.size 5 .u8 1 Tryd.underlying28 U8.out (.slice (some ⟨z11.heap.size, 0, none⟩) 0 0) 0 [] rfl B27.out x L xc d rfl (IK.out _ D27.out) HL.out (by have := DL.out; unfold maxLen; omega) (by have := DL.out; omega) D27.out.size ?_
      intro v28 z28 o28 b28 k28
      rw [Nat.zero_add, List.nil_append] at o28
      have O28 := Lib.hid (own_other O27.out B27.out (by decide) k28)
      have D28 : Hid (Below wz.heap.size wz z28) := D27.out.trans b28
      obtain ⟨xb, xcb, rfl, FD28⟩ : ∃ xb xcb, v28 = .slice xb L xcb ∧ z28.ownsRow wz.heap.size 5 1 v28 L (d.map (.int .u8)) := by
        obtain ⟨xb, xcb, hv, _⟩ := own_any o28
        exact ⟨xb, xcb, hv, o28⟩
      have B28 := Lib.hid FD28
      clear o28 b28 k28 FD28
      refine hK.out _ _ (KS.out _ D28.out) (fun hHeld => ?_)
      clear hK K
      (try simp only [Act.put, List.setIfInBounds_toArray, List.set_cons_zero, List.set_cons_succ])
      refine wpAnyH_take (i := 13) (oi := { dst := some 33, op := Go.Op.build 30 #[(0, Go.Operand.tmp 28), (1, Go.Operand.tmp 32)], type := 30, pos := "ref.go:57", after := #[{ on := 8, ground := Go.Ground.data }, { on := 12, ground := Go.Ground.data }], guard := none }) (v := ?_) rfl (by kernel_rfl) (by kernel_rfl) (by kernel_rfl) (fun _ _ _ h => h) (Or.inl ⟨by rfl, ?_⟩) (by assumption) ?_
      rotate_left 1
      focus ((intro wS hSw; (try dsimp only at hSw); go_simp) <;> (try with_reducible rfl))
      simp only [Act.put, List.setIfInBounds_toArray, List.set_cons_zero, List.set_cons_succ]
      refine wpAnyH_ready (rs := [14]) (by kernel_rfl) (by simp) ?_
      refine AllReadyH.cons (o := { dst := some 34, op := Go.Op.buildSlice 22 1 #[(0, Go.Operand.tmp 33)], type := 22, pos := "ref.go:57", after := #[{ on := 13, ground := Go.Ground.data }], guard := none }) rfl (fun K hK => ?_) AllReadyH.nil
      refine step_lit_mb1 rfl 22 30 (.tmp 33) rfl Tryd.underlying22 _ I6.out ⟨⟨⟨k, p, m, t, (L : Int)⟩, d⟩, xb, xcb⟩ (by show _ = Value.agg (mbC k p m t (L : Int) xb d.length xcb).toArray; rw [HL.out]; rfl) ?_
      intro z31 l31 b31
      have L31 : Hid (ObjAt z31 z28.heap.size 30 (mbCells [⟨⟨⟨k, p, m, t, (L : Int)⟩, d⟩, xb, xcb⟩])) := l31
      have D31 : Hid (Below wz.heap.size wz z31) := D28.out.trans (b31.mono D28.out.size)
      have O31 := Lib.hid (own_stay' O28.out b31 (Nat.le_refl _))
      have B31 := Lib.hid (own_stay' B28.out b31 (Nat.le_refl _))
      clear l31 b31
      refine hK.out _ _ (KS.out _ D31.out) (fun hHeld => ?_)
      clear hK K
      (try simp only [Act.put, List.setIfInBounds_toArray, List.set_cons_zero, List.set_cons_succ])
      refine wpAnyH_ready (rs := [15]) (by kernel_rfl) (by simp) ?_
      refine AllReadyH.cons (o := { dst := some 35, op := Go.Op.call { callee := Go.Callee.builtin Go.Builtin.append, args := #[Go.Operand.tmp 26, Go.Operand.tmp 34], argTypes := #[22, 22] }, type := 22, pos := "ref.go:57", after := #[{ on := 6, ground := Go.Ground.data }, { on := 14, ground := Go.Ground.data }, { on := 12, ground := Go.Ground.chain }], guard := none }) rfl (fun K hK => ?_) AllReadyH.nil
      refine step_append_mms rfl (.tmp 26) (.tmp 34) 22 rfl wz.heap.size 30 i0 _ Tryd.underlying22 HI0 rfl _ n ys rfl O31.out (some ⟨z28.heap.size, 0, none⟩) 1 1 [⟨⟨⟨k, p, m, t, (L : Int)⟩, d⟩, xb, xcb⟩] rfl (obj_mms L31.out) rfl (by have := N40.out; omega) D31.out.size ?_
      intro v32 z32 o32 b32 k32
      have B32 := Lib.hid (own_other B31.out O31.out (by decide) k32)
      have D32 : Hid (Below wz.heap.size wz z32) := D31.out.trans b32
      obtain ⟨va, vc, rfl, O32⟩ : ∃ va vc, v32 = .slice va (n + 1) vc ∧ Hid (z32.ownsRow wz.heap.size 30 6 v32 (n + 1) (mbCells (ys ++ [⟨⟨⟨k, p, m, t, (L : Int)⟩, d⟩, xb, xcb⟩]))) := by
        obtain ⟨va, vc, hv, _⟩ := MbsIn.of_own o32
        exact ⟨va, vc, hv, o32⟩
      clear o32 b32 k32
      refine hK.out _ _ (KS.out _ D32.out) (fun hHeld => ?_)
      clear hK K
      (try simp only [Act.put, List.setIfInBounds_toArray, List.set_cons_zero, List.set_cons_succ])
      refine wpAnyH_take (i := 16) (oi := { dst := some 36, op := Go.Op.nilCheck (Go.Operand.tmp 20), type := 0, pos := "ref.go:57", after := #[{ on := 0, ground := Go.Ground.data }, { on := 0, ground := Go.Ground.phase }, { on := 1, ground := Go.Ground.phase }, { on := 2, ground := Go.Ground.phase }, { on := 3, ground := Go.Ground.phase }, { on := 4, ground := Go.Ground.phase }, { on := 5, ground := Go.Ground.phase }, { on := 6, ground := Go.Ground.phase }, { on := 7, ground := Go.Ground.phase }, { on := 8, ground := Go.Ground.phase }, { on := 9, ground := Go.Ground.phase }, { on := 10, ground := Go.Ground.phase }, { on := 11, ground := Go.Ground.phase }, { on := 12, ground := Go.Ground.phase }, { on := 13, ground := Go.Ground.phase }, { on := 14, ground := Go.Ground.phase }, { on := 15, ground := Go.Ground.phase }], guard := none }) (v := ?_) rfl (by kernel_rfl) (by kernel_rfl) (by kernel_rfl) (fun _ _ _ h => h) (Or.inl ⟨by rfl, ?_⟩) (by assumption) ?_
      rotate_left 1
      focus ((intro wS hSw; (try dsimp only at hSw); go_simp) <;> (try with_reducible rfl))
      simp only [Act.put, List.setIfInBounds_toArray, List.set_cons_zero, List.set_cons_succ]
      refine wpAnyH_take (i := 17) (oi := { dst := some 37, op := Go.Op.fieldAddr 39 (Go.Operand.tmp 36) 0, type := 0, pos := "ref.go:57", after := #[{ on := 16, ground := Go.Ground.data }, { on := 0, ground := Go.Ground.phase }, { on := 1, ground := Go.Ground.phase }, { on := 2, ground := Go.Ground.phase }, { on := 3, ground := Go.Ground.phase }, { on := 4, ground := Go.Ground.phase }, { on := 5, ground := Go.Ground.phase }, { on := 6, ground := Go.Ground.phase }, { on := 7, ground := Go.Ground.phase }, { on := 8, ground := Go.Ground.phase }, { on := 9, ground := Go.Ground.phase }, { on := 10, ground := Go.Ground.phase }, { on := 11, ground := Go.Ground.phase }, { on := 12, ground := Go.Ground.phase }, { on := 13, ground := Go.Ground.phase }, { on := 14, ground := Go.Ground.phase }, { on := 15, ground := Go.Ground.phase }], guard := none }) (v := ?_) rfl (by kernel_rfl) (by kernel_rfl) (by kernel_rfl) (fun _ _ _ h => h) (Or.inl ⟨by rfl, ?_⟩) (by assumption) ?_
      rotate_left 1
      focus ((intro wS hSw; (try dsimp only at hSw); go_simp) <;> (try with_reducible rfl))
      simp only [Act.put, List.setIfInBounds_toArray, List.set_cons_zero, List.set_cons_succ]
      refine wpAnyH_ready (rs := [18]) (by kernel_rfl) (by simp) ?_
      refine AllReadyH.cons (o := { dst := none, op := Go.Op.store 22 (Go.Operand.tmp 37) (Go.Operand.tmp 35), type := 0, pos := "ref.go:57", after := #[{ on := 17, ground := Go.Ground.data }, { on := 15, ground := Go.Ground.data }, { on := 15, ground := Go.Ground.chain }, { on := 0, ground := Go.Ground.phase }, { on := 1, ground := Go.Ground.phase }, { on := 2, ground := Go.Ground.phase }, { on := 3, ground := Go.Ground.phase }, { on := 4, ground := Go.Ground.phase }, { on := 5, ground := Go.Ground.phase }, { on := 6, ground := Go.Ground.phase }, { on := 7, ground := Go.Ground.phase }, { on := 8, ground := Go.Ground.phase }, { on := 9, ground := Go.Ground.phase }, { on := 10, ground := Go.Ground.phase }, { on := 11, ground := Go.Ground.phase }, { on := 12, ground := Go.Ground.phase }, { on := 13, ground := Go.Ground.phase }, { on := 14, ground := Go.Ground.phase }, { on := 15, ground := Go.Ground.phase }], guard := none }) rfl (fun K hK => ?_) AllReadyH.nil
      refine step_store_one rfl 22 (.tmp 37) (.tmp 35) rfl g 0 rfl (.slice va (n + 1) vc) rfl rfl S22.out 39 [.slice a n cap] (GB.out _ D32.out) (by simp) ?_
      intro z33 o33 t33
      have RES : Hid (AddP w g ys ⟨⟨⟨k, p, m, t, (L : Int)⟩, d⟩, x, xc⟩ (.returned (.int .i64 0)) z33) := FIN.out va vc xb xcb _ _ D32.out O32.out B32.out o33 t33
      have ks33 : (fun w' : World => w'.cell? ⟨w.heap.size, 0, none⟩ = some (.int .i64 k) ∧ w'.cell? ⟨w.heap.size, 1, none⟩ = some (.string p) ∧ w'.cell? ⟨w.heap.size, 2, none⟩ = some (.int .i64 m) ∧ w'.cell? ⟨w.heap.size, 3, none⟩ = some (.string t) ∧ w'.cell? ⟨w.heap.size, 4, none⟩ = some (.int .i64 (L : Int)) ∧ w'.cell? ⟨w.heap.size, 5, none⟩ = some (.slice x L xc)) z33 := KT.out _ _ D32.out t33
      clear o33 t33
      refine hK.out _ _ (ks33) (fun hHeld => ?_)
      clear hK K
      (try simp only [Act.put])
      refine wpAnyH_done (by kernel_rfl) ?_ _
      go_wp2_with fail
      go_ret
      exact RES.out
    
  · refine step_load_run rfl 22 (.tmp 24) rfl ⟨g, 0, none⟩ rfl (.slice a n cap) (LG.out _ (GO.out _ D0.out)) ?_
    refine hK.out _ _ (KS.out _ D0.out) (fun hHeld => ?_)
    clear hK K
    (try simp only [Act.put, List.setIfInBounds_toArray, List.set_cons_zero, List.set_cons_succ])
    refine wpAnyH_ready (rs := [1, 9]) (by kernel_rfl) (by simp) ?_
    refine AllReadyH.cons (o := { dst := some 21, op := Go.Op.buildSlice 22 0 #[], type := 22, pos := "ref.go:57", after := #[], guard := none }) rfl (fun K hK => ?_) (AllReadyH.cons (o := { dst := some 29, op := Go.Op.buildSlice 28 0 #[], type := 28, pos := "ref.go:57", after := #[], guard := none }) rfl (fun K hK => ?_) AllReadyH.nil)
    · refine step_lit_mb0 rfl 22 30 rfl Tryd.underlying22 _ I6.out ?_
      intro z33 o33 b33
      have O33 : Hid (z33.ownsRow wz.heap.size 30 6 (.slice (some ⟨wz.heap.size, 0, none⟩) 0 0) 0 (mbCells [])) := own_lower o33 D0.out.size
      have D33 : Hid (Below wz.heap.size wz z33) := D0.out.trans (b33.mono D0.out.size)
      clear o33 b33
      refine hK.out _ _ (KS.out _ D33.out) (fun hHeld => ?_)
      clear hK K
      (try simp only [Act.put, List.setIfInBounds_toArray, List.set_cons_zero, List.set_cons_succ])
      refine wpAnyH_ready (rs := [6, 9]) (by kernel_rfl) (by simp) ?_
      refine AllReadyH.cons (o := { dst := some 26, op := Go.Op.call { callee := Go.Callee.builtin Go.Builtin.append, args := #[Go.Operand.tmp 21, Go.Operand.tmp 25], argTypes := #[22, 22] }, type := 22, pos := "ref.go:57", after := #[{ on := 1, ground := Go.Ground.data }, { on := 5, ground := Go.Ground.data }], guard := none }) rfl (fun K hK => ?_) (AllReadyH.cons (o := { dst := some 29, op := Go.Op.buildSlice 28 0 #[], type := 28, pos := "ref.go:57", after := #[], guard := none }) rfl (fun K hK => ?_) AllReadyH.nil)
      · refine step_append_mms rfl (.tmp 21) (.tmp 25) 22 rfl wz.heap.size 30 i0 _ Tryd.underlying22 HI0 rfl (.slice (some ⟨wz.heap.size, 0, none⟩) 0 0) 0 [] rfl O33.out a n cap ys rfl (INW.out _ D33.out) HN.out (by have := N40.out; omega) D33.out.size ?_
        intro v34 z34 o34 b34 k34
        rw [Nat.zero_add, List.nil_append] at o34
        have O34 : Hid (z34.ownsRow wz.heap.size 30 6 v34 n (mbCells ys)) := o34
        have D34 : Hid (Below wz.heap.size wz z34) := D33.out.trans b34
        clear o34 b34 k34
        refine hK.out _ _ (KS.out _ D34.out) (fun hHeld => ?_)
        clear hK K
        (try simp only [Act.put, List.setIfInBounds_toArray, List.set_cons_zero, List.set_cons_succ])
        refine wpAnyH_ready (rs := [9]) (by kernel_rfl) (by simp) ?_
        refine AllReadyH.cons (o := { dst := some 29, op := Go.Op.buildSlice 28 0 #[], type := 28, pos := "ref.go:57", after := #[], guard := none }) rfl (fun K hK => ?_) AllReadyH.nil
        refine step_lit_k0 rfl 28 5 .u8 rfl Tryd.underlying28 I8.out ?_
        intro z35 o35 b35
        have B35 : Hid (z35.ownsRow wz.heap.size 5 1 (.slice (some ⟨z34.heap.size, 0, none⟩) 0 0) 0 (([] : List Int).map (.int .u8))) := own_lower o35 D34.out.size
        have D35 : Hid (Below wz.heap.size wz z35) := D34.out.trans (b35.mono D34.out.size)
        have O35 := Lib.hid (own_stay' O34.out b35 (Nat.le_refl _))
        clear o35 b35
        refine hK.out _ _ (KS.out _ D35.out) (fun hHeld => ?_)
        clear hK K
        (try simp only [Act.put, List.setIfInBounds_toArray, List.set_cons_zero, List.set_cons_succ])
        refine wpAnyH_ready (rs := [12]) (by kernel_rfl) (by simp) ?_
        refine AllReadyH.cons (o := { dst := some 32, op := Go.Op.call { callee := Go.Callee.builtin Go.Builtin.append, args := #[Go.Operand.tmp 29, Go.Operand.tmp 31], argTypes := #[28, 28] }, type := 28, pos := "ref.go:57", after := #[{ on := 9, ground := Go.Ground.data }, { on := 11, ground := Go.Ground.data }, { on := 6, ground := Go.Ground.chain }], guard := none }) rfl (fun K hK => ?_) AllReadyH.nil
        refine step_append_kk rfl (.tmp 29) (.tmp 31) 28 rfl wz.heap.size 5 .u8 1 Tryd.underlying28 U8.out (.slice (some ⟨z34.heap.size, 0, none⟩) 0 0) 0 [] rfl B35.out x L xc d rfl (IK.out _ D35.out) HL.out (by have := DL.out; unfold maxLen; omega) (by have := DL.out; omega) D35.out.size ?_
        intro v36 z36 o36 b36 k36
        rw [Nat.zero_add, List.nil_append] at o36
        have O36 := Lib.hid (own_other O35.out B35.out (by decide) k36)
        have D36 : Hid (Below wz.heap.size wz z36) := D35.out.trans b36
        obtain ⟨xb, xcb, rfl, FD36⟩ : ∃ xb xcb, v36 = .slice xb L xcb ∧ z36.ownsRow wz.heap.size 5 1 v36 L (d.map (.int .u8)) := by
          obtain ⟨xb, xcb, hv, _⟩ := own_any o36
          exact ⟨xb, xcb, hv, o36⟩
        have B36 := Lib.hid FD36
        clear o36 b36 k36 FD36
        refine hK.out _ _ (KS.out _ D36.out) (fun hHeld => ?_)
        clear hK K
        (try simp only [Act.put, List.setIfInBounds_toArray, List.set_cons_zero, List.set_cons_succ])
        refine wpAnyH_take (i := 13) (oi := { dst := some 33, op := Go.Op.build 30 #[(0, Go.Operand.tmp 28), (1, Go.Operand.tmp 32)], type := 30, pos := "ref.go:57", after := #[{ on := 8, ground := Go.Ground.data }, { on := 12, ground := Go.Ground.data }], guard := none }) (v := ?_) rfl (by kernel_rfl) (by kernel_rfl) (by kernel_rfl) (fun _ _ _ h => h) (Or.inl ⟨by rfl, ?_⟩) (by assumption) ?_
        rotate_left 1
        focus ((intro wS hSw; (try dsimp only at hSw); go_simp) <;> (try with_reducible rfl))
        simp only [Act.put, List.setIfInBounds_toArray, List.set_cons_zero, List.set_cons_succ]
        refine wpAnyH_ready (rs := [14]) (by kernel_rfl) (by simp) ?_
        refine AllReadyH.cons (o := { dst := some 34, op := Go.Op.buildSlice 22 1 #[(0, Go.Operand.tmp 33)], type := 22, pos := "ref.go:57", after := #[{ on := 13, ground := Go.Ground.data }], guard := none }) rfl (fun K hK => ?_) AllReadyH.nil
        refine step_lit_mb1 rfl 22 30 (.tmp 33) rfl Tryd.underlying22 _ I6.out ⟨⟨⟨k, p, m, t, (L : Int)⟩, d⟩, xb, xcb⟩ (by show _ = Value.agg (mbC k p m t (L : Int) xb d.length xcb).toArray; rw [HL.out]; rfl) ?_
        intro z39 l39 b39
        have L39 : Hid (ObjAt z39 z36.heap.size 30 (mbCells [⟨⟨⟨k, p, m, t, (L : Int)⟩, d⟩, xb, xcb⟩])) := l39
        have D39 : Hid (Below wz.heap.size wz z39) := D36.out.trans (b39.mono D36.out.size)
        have O39 := Lib.hid (own_stay' O36.out b39 (Nat.le_refl _))
        have B39 := Lib.hid (own_stay' B36.out b39 (Nat.le_refl _))
        clear l39 b39
        refine hK.out _ _ (KS.out _ D39.out) (fun hHeld => ?_)
        clear hK K
        (try simp only [Act.put, List.setIfInBounds_toArray, List.set_cons_zero, List.set_cons_succ])
        refine wpAnyH_ready (rs := [15]) (by kernel_rfl) (by simp) ?_
        refine AllReadyH.cons (o := { dst := some 35, op := Go.Op.call { callee := Go.Callee.builtin Go.Builtin.append, args := #[Go.Operand.tmp 26, Go.Operand.tmp 34], argTypes := #[22, 22] }, type := 22, pos := "ref.go:57", after := #[{ on := 6, ground := Go.Ground.data }, { on := 14, ground := Go.Ground.data }, { on := 12, ground := Go.Ground.chain }], guard := none }) rfl (fun K hK => ?_) AllReadyH.nil
        refine step_append_mms rfl (.tmp 26) (.tmp 34) 22 rfl wz.heap.size 30 i0 _ Tryd.underlying22 HI0 rfl _ n ys rfl O39.out (some ⟨z36.heap.size, 0, none⟩) 1 1 [⟨⟨⟨k, p, m, t, (L : Int)⟩, d⟩, xb, xcb⟩] rfl (obj_mms L39.out) rfl (by have := N40.out; omega) D39.out.size ?_
        intro v40 z40 o40 b40 k40
        have B40 := Lib.hid (own_other B39.out O39.out (by decide) k40)
        have D40 : Hid (Below wz.heap.size wz z40) := D39.out.trans b40
        obtain ⟨va, vc, rfl, O40⟩ : ∃ va vc, v40 = .slice va (n + 1) vc ∧ Hid (z40.ownsRow wz.heap.size 30 6 v40 (n + 1) (mbCells (ys ++ [⟨⟨⟨k, p, m, t, (L : Int)⟩, d⟩, xb, xcb⟩]))) := by
          obtain ⟨va, vc, hv, _⟩ := MbsIn.of_own o40
          exact ⟨va, vc, hv, o40⟩
        clear o40 b40 k40
        refine hK.out _ _ (KS.out _ D40.out) (fun hHeld => ?_)
        clear hK K
        (try simp only [Act.put, List.setIfInBounds_toArray, List.set_cons_zero, List.set_cons_succ])
        refine wpAnyH_take (i := 16) (oi := { dst := some 36, op := Go.Op.nilCheck (Go.Operand.tmp 20), type := 0, pos := "ref.go:57", after := #[{ on := 0, ground := Go.Ground.data }, { on := 0, ground := Go.Ground.phase }, { on := 1, ground := Go.Ground.phase }, { on := 2, ground := Go.Ground.phase }, { on := 3, ground := Go.Ground.phase }, { on := 4, ground := Go.Ground.phase }, { on := 5, ground := Go.Ground.phase }, { on := 6, ground := Go.Ground.phase }, { on := 7, ground := Go.Ground.phase }, { on := 8, ground := Go.Ground.phase }, { on := 9, ground := Go.Ground.phase }, { on := 10, ground := Go.Ground.phase }, { on := 11, ground := Go.Ground.phase }, { on := 12, ground := Go.Ground.phase }, { on := 13, ground := Go.Ground.phase }, { on := 14, ground := Go.Ground.phase }, { on := 15, ground := Go.Ground.phase }], guard := none }) (v := ?_) rfl (by kernel_rfl) (by kernel_rfl) (by kernel_rfl) (fun _ _ _ h => h) (Or.inl ⟨by rfl, ?_⟩) (by assumption) ?_
        rotate_left 1
        focus ((intro wS hSw; (try dsimp only at hSw); go_simp) <;> (try with_reducible rfl))
        simp only [Act.put, List.setIfInBounds_toArray, List.set_cons_zero, List.set_cons_succ]
        refine wpAnyH_take (i := 17) (oi := { dst := some 37, op := Go.Op.fieldAddr 39 (Go.Operand.tmp 36) 0, type := 0, pos := "ref.go:57", after := #[{ on := 16, ground := Go.Ground.data }, { on := 0, ground := Go.Ground.phase }, { on := 1, ground := Go.Ground.phase }, { on := 2, ground := Go.Ground.phase }, { on := 3, ground := Go.Ground.phase }, { on := 4, ground := Go.Ground.phase }, { on := 5, ground := Go.Ground.phase }, { on := 6, ground := Go.Ground.phase }, { on := 7, ground := Go.Ground.phase }, { on := 8, ground := Go.Ground.phase }, { on := 9, ground := Go.Ground.phase }, { on := 10, ground := Go.Ground.phase }, { on := 11, ground := Go.Ground.phase }, { on := 12, ground := Go.Ground.phase }, { on := 13, ground := Go.Ground.phase }, { on := 14, ground := Go.Ground.phase }, { on := 15, ground := Go.Ground.phase }], guard := none }) (v := ?_) rfl (by kernel_rfl) (by kernel_rfl) (by kernel_rfl) (fun _ _ _ h => h) (Or.inl ⟨by rfl, ?_⟩) (by assumption) ?_
        rotate_left 1
        focus ((intro wS hSw; (try dsimp only at hSw); go_simp) <;> (try with_reducible rfl))
        simp only [Act.put, List.setIfInBounds_toArray, List.set_cons_zero, List.set_cons_succ]
        refine wpAnyH_ready (rs := [18]) (by kernel_rfl) (by simp) ?_
        refine AllReadyH.cons (o := { dst := none, op := Go.Op.store 22 (Go.Operand.tmp 37) (Go.Operand.tmp 35), type := 0, pos := "ref.go:57", after := #[{ on := 17, ground := Go.Ground.data }, { on := 15, ground := Go.Ground.data }, { on := 15, ground := Go.Ground.chain }, { on := 0, ground := Go.Ground.phase }, { on := 1, ground := Go.Ground.phase }, { on := 2, ground := Go.Ground.phase }, { on := 3, ground := Go.Ground.phase }, { on := 4, ground := Go.Ground.phase }, { on := 5, ground := Go.Ground.phase }, { on := 6, ground := Go.Ground.phase }, { on := 7, ground := Go.Ground.phase }, { on := 8, ground := Go.Ground.phase }, { on := 9, ground := Go.Ground.phase }, { on := 10, ground := Go.Ground.phase }, { on := 11, ground := Go.Ground.phase }, { on := 12, ground := Go.Ground.phase }, { on := 13, ground := Go.Ground.phase }, { on := 14, ground := Go.Ground.phase }, { on := 15, ground := Go.Ground.phase }], guard := none }) rfl (fun K hK => ?_) AllReadyH.nil
        refine step_store_one rfl 22 (.tmp 37) (.tmp 35) rfl g 0 rfl (.slice va (n + 1) vc) rfl rfl S22.out 39 [.slice a n cap] (GB.out _ D40.out) (by simp) ?_
        intro z41 o41 t41
        have RES : Hid (AddP w g ys ⟨⟨⟨k, p, m, t, (L : Int)⟩, d⟩, x, xc⟩ (.returned (.int .i64 0)) z41) := FIN.out va vc xb xcb _ _ D40.out O40.out B40.out o41 t41
        have ks41 : (fun w' : World => w'.cell? ⟨w.heap.size, 0, none⟩ = some (.int .i64 k) ∧ w'.cell? ⟨w.heap.size, 1, none⟩ = some (.string p) ∧ w'.cell? ⟨w.heap.size, 2, none⟩ = some (.int .i64 m) ∧ w'.cell? ⟨w.heap.size, 3, none⟩ = some (.string t) ∧ w'.cell? ⟨w.heap.size, 4, none⟩ = some (.int .i64 (L : Int)) ∧ w'.cell? ⟨w.heap.size, 5, none⟩ = some (.slice x L xc)) z41 := KT.out _ _ D40.out t41
        clear o41 t41
        refine hK.out _ _ (ks41) (fun hHeld => ?_)
        clear hK K
        (try simp only [Act.put])
        refine wpAnyH_done (by kernel_rfl) ?_ _
        go_wp2_with fail
        go_ret
        exact RES.out
      · refine step_lit_k0 rfl 28 5 .u8 rfl Tryd.underlying28 I8.out ?_
        intro z40 o40 b40
        have B40 : Hid (z40.ownsRow wz.heap.size 5 1 (.slice (some ⟨z33.heap.size, 0, none⟩) 0 0) 0 (([] : List Int).map (.int .u8))) := own_lower o40 D33.out.size
        have D40 : Hid (Below wz.heap.size wz z40) := D33.out.trans (b40.mono D33.out.size)
        have O40 := Lib.hid (own_stay' O33.out b40 (Nat.le_refl _))
        clear o40 b40
        refine hK.out _ _ (KS.out _ D40.out) (fun hHeld => ?_)
        clear hK K
        (try simp only [Act.put, List.setIfInBounds_toArray, List.set_cons_zero, List.set_cons_succ])
        refine wpAnyH_ready (rs := [6]) (by kernel_rfl) (by simp) ?_
        refine AllReadyH.cons (o := { dst := some 26, op := Go.Op.call { callee := Go.Callee.builtin Go.Builtin.append, args := #[Go.Operand.tmp 21, Go.Operand.tmp 25], argTypes := #[22, 22] }, type := 22, pos := "ref.go:57", after := #[{ on := 1, ground := Go.Ground.data }, { on := 5, ground := Go.Ground.data }], guard := none }) rfl (fun K hK => ?_) AllReadyH.nil
        refine step_append_mms rfl (.tmp 21) (.tmp 25) 22 rfl wz.heap.size 30 i0 _ Tryd.underlying22 HI0 rfl (.slice (some ⟨wz.heap.size, 0, none⟩) 0 0) 0 [] rfl O40.out a n cap ys rfl (INW.out _ D40.out) HN.out (by have := N40.out; omega) D40.out.size ?_
        intro v41 z41 o41 b41 k41
        rw [Nat.zero_add, List.nil_append] at o41
        have O41 : Hid (z41.ownsRow wz.heap.size 30 6 v41 n (mbCells ys)) := o41
        have D41 : Hid (Below wz.heap.size wz z41) := D40.out.trans b41
        have B41 := Lib.hid (own_other B40.out O40.out (by decide) k41)
        clear o41 b41 k41
        refine hK.out _ _ (KS.out _ D41.out) (fun hHeld => ?_)
        clear hK K
        (try simp only [Act.put, List.setIfInBounds_toArray, List.set_cons_zero, List.set_cons_succ])
        refine wpAnyH_ready (rs := [12]) (by kernel_rfl) (by simp) ?_
        refine AllReadyH.cons (o := { dst := some 32, op := Go.Op.call { callee := Go.Callee.builtin Go.Builtin.append, args := #[Go.Operand.tmp 29, Go.Operand.tmp 31], argTypes := #[28, 28] }, type := 28, pos := "ref.go:57", after := #[{ on := 9, ground := Go.Ground.data }, { on := 11, ground := Go.Ground.data }, { on := 6, ground := Go.Ground.chain }], guard := none }) rfl (fun K hK => ?_) AllReadyH.nil
        refine step_append_kk rfl (.tmp 29) (.tmp 31) 28 rfl wz.heap.size 5 .u8 1 Tryd.underlying28 U8.out (.slice (some ⟨z33.heap.size, 0, none⟩) 0 0) 0 [] rfl B41.out x L xc d rfl (IK.out _ D41.out) HL.out (by have := DL.out; unfold maxLen; omega) (by have := DL.out; omega) D41.out.size ?_
        intro v42 z42 o42 b42 k42
        rw [Nat.zero_add, List.nil_append] at o42
        have O42 := Lib.hid (own_other O41.out B41.out (by decide) k42)
        have D42 : Hid (Below wz.heap.size wz z42) := D41.out.trans b42
        obtain ⟨xb, xcb, rfl, FD42⟩ : ∃ xb xcb, v42 = .slice xb L xcb ∧ z42.ownsRow wz.heap.size 5 1 v42 L (d.map (.int .u8)) := by
          obtain ⟨xb, xcb, hv, _⟩ := own_any o42
          exact ⟨xb, xcb, hv, o42⟩
        have B42 := Lib.hid FD42
        clear o42 b42 k42 FD42
        refine hK.out _ _ (KS.out _ D42.out) (fun hHeld => ?_)
        clear hK K
        (try simp only [Act.put, List.setIfInBounds_toArray, List.set_cons_zero, List.set_cons_succ])
        refine wpAnyH_take (i := 13) (oi := { dst := some 33, op := Go.Op.build 30 #[(0, Go.Operand.tmp 28), (1, Go.Operand.tmp 32)], type := 30, pos := "ref.go:57", after := #[{ on := 8, ground := Go.Ground.data }, { on := 12, ground := Go.Ground.data }], guard := none }) (v := ?_) rfl (by kernel_rfl) (by kernel_rfl) (by kernel_rfl) (fun _ _ _ h => h) (Or.inl ⟨by rfl, ?_⟩) (by assumption) ?_
        rotate_left 1
        focus ((intro wS hSw; (try dsimp only at hSw); go_simp) <;> (try with_reducible rfl))
        simp only [Act.put, List.setIfInBounds_toArray, List.set_cons_zero, List.set_cons_succ]
        refine wpAnyH_ready (rs := [14]) (by kernel_rfl) (by simp) ?_
        refine AllReadyH.cons (o := { dst := some 34, op := Go.Op.buildSlice 22 1 #[(0, Go.Operand.tmp 33)], type := 22, pos := "ref.go:57", after := #[{ on := 13, ground := Go.Ground.data }], guard := none }) rfl (fun K hK => ?_) AllReadyH.nil
        refine step_lit_mb1 rfl 22 30 (.tmp 33) rfl Tryd.underlying22 _ I6.out ⟨⟨⟨k, p, m, t, (L : Int)⟩, d⟩, xb, xcb⟩ (by show _ = Value.agg (mbC k p m t (L : Int) xb d.length xcb).toArray; rw [HL.out]; rfl) ?_
        intro z45 l45 b45
        have L45 : Hid (ObjAt z45 z42.heap.size 30 (mbCells [⟨⟨⟨k, p, m, t, (L : Int)⟩, d⟩, xb, xcb⟩])) := l45
        have D45 : Hid (Below wz.heap.size wz z45) := D42.out.trans (b45.mono D42.out.size)
        have O45 := Lib.hid (own_stay' O42.out b45 (Nat.le_refl _))
        have B45 := Lib.hid (own_stay' B42.out b45 (Nat.le_refl _))
        clear l45 b45
        refine hK.out _ _ (KS.out _ D45.out) (fun hHeld => ?_)
        clear hK K
        (try simp only [Act.put, List.setIfInBounds_toArray, List.set_cons_zero, List.set_cons_succ])
        refine wpAnyH_ready (rs := [15]) (by kernel_rfl) (by simp) ?_
        refine AllReadyH.cons (o := { dst := some 35, op := Go.Op.call { callee := Go.Callee.builtin Go.Builtin.append, args := #[Go.Operand.tmp 26, Go.Operand.tmp 34], argTypes := #[22, 22] }, type := 22, pos := "ref.go:57", after := #[{ on := 6, ground := Go.Ground.data }, { on := 14, ground := Go.Ground.data }, { on := 12, ground := Go.Ground.chain }], guard := none }) rfl (fun K hK => ?_) AllReadyH.nil
        refine step_append_mms rfl (.tmp 26) (.tmp 34) 22 rfl wz.heap.size 30 i0 _ Tryd.underlying22 HI0 rfl _ n ys rfl O45.out (some ⟨z42.heap.size, 0, none⟩) 1 1 [⟨⟨⟨k, p, m, t, (L : Int)⟩, d⟩, xb, xcb⟩] rfl (obj_mms L45.out) rfl (by have := N40.out; omega) D45.out.size ?_
        intro v46 z46 o46 b46 k46
        have B46 := Lib.hid (own_other B45.out O45.out (by decide) k46)
        have D46 : Hid (Below wz.heap.size wz z46) := D45.out.trans b46
        obtain ⟨va, vc, rfl, O46⟩ : ∃ va vc, v46 = .slice va (n + 1) vc ∧ Hid (z46.ownsRow wz.heap.size 30 6 v46 (n + 1) (mbCells (ys ++ [⟨⟨⟨k, p, m, t, (L : Int)⟩, d⟩, xb, xcb⟩]))) := by
          obtain ⟨va, vc, hv, _⟩ := MbsIn.of_own o46
          exact ⟨va, vc, hv, o46⟩
        clear o46 b46 k46
        refine hK.out _ _ (KS.out _ D46.out) (fun hHeld => ?_)
        clear hK K
        (try simp only [Act.put, List.setIfInBounds_toArray, List.set_cons_zero, List.set_cons_succ])
        refine wpAnyH_take (i := 16) (oi := { dst := some 36, op := Go.Op.nilCheck (Go.Operand.tmp 20), type := 0, pos := "ref.go:57", after := #[{ on := 0, ground := Go.Ground.data }, { on := 0, ground := Go.Ground.phase }, { on := 1, ground := Go.Ground.phase }, { on := 2, ground := Go.Ground.phase }, { on := 3, ground := Go.Ground.phase }, { on := 4, ground := Go.Ground.phase }, { on := 5, ground := Go.Ground.phase }, { on := 6, ground := Go.Ground.phase }, { on := 7, ground := Go.Ground.phase }, { on := 8, ground := Go.Ground.phase }, { on := 9, ground := Go.Ground.phase }, { on := 10, ground := Go.Ground.phase }, { on := 11, ground := Go.Ground.phase }, { on := 12, ground := Go.Ground.phase }, { on := 13, ground := Go.Ground.phase }, { on := 14, ground := Go.Ground.phase }, { on := 15, ground := Go.Ground.phase }], guard := none }) (v := ?_) rfl (by kernel_rfl) (by kernel_rfl) (by kernel_rfl) (fun _ _ _ h => h) (Or.inl ⟨by rfl, ?_⟩) (by assumption) ?_
        rotate_left 1
        focus ((intro wS hSw; (try dsimp only at hSw); go_simp) <;> (try with_reducible rfl))
        simp only [Act.put, List.setIfInBounds_toArray, List.set_cons_zero, List.set_cons_succ]
        refine wpAnyH_take (i := 17) (oi := { dst := some 37, op := Go.Op.fieldAddr 39 (Go.Operand.tmp 36) 0, type := 0, pos := "ref.go:57", after := #[{ on := 16, ground := Go.Ground.data }, { on := 0, ground := Go.Ground.phase }, { on := 1, ground := Go.Ground.phase }, { on := 2, ground := Go.Ground.phase }, { on := 3, ground := Go.Ground.phase }, { on := 4, ground := Go.Ground.phase }, { on := 5, ground := Go.Ground.phase }, { on := 6, ground := Go.Ground.phase }, { on := 7, ground := Go.Ground.phase }, { on := 8, ground := Go.Ground.phase }, { on := 9, ground := Go.Ground.phase }, { on := 10, ground := Go.Ground.phase }, { on := 11, ground := Go.Ground.phase }, { on := 12, ground := Go.Ground.phase }, { on := 13, ground := Go.Ground.phase }, { on := 14, ground := Go.Ground.phase }, { on := 15, ground := Go.Ground.phase }], guard := none }) (v := ?_) rfl (by kernel_rfl) (by kernel_rfl) (by kernel_rfl) (fun _ _ _ h => h) (Or.inl ⟨by rfl, ?_⟩) (by assumption) ?_
        rotate_left 1
        focus ((intro wS hSw; (try dsimp only at hSw); go_simp) <;> (try with_reducible rfl))
        simp only [Act.put, List.setIfInBounds_toArray, List.set_cons_zero, List.set_cons_succ]
        refine wpAnyH_ready (rs := [18]) (by kernel_rfl) (by simp) ?_
        refine AllReadyH.cons (o := { dst := none, op := Go.Op.store 22 (Go.Operand.tmp 37) (Go.Operand.tmp 35), type := 0, pos := "ref.go:57", after := #[{ on := 17, ground := Go.Ground.data }, { on := 15, ground := Go.Ground.data }, { on := 15, ground := Go.Ground.chain }, { on := 0, ground := Go.Ground.phase }, { on := 1, ground := Go.Ground.phase }, { on := 2, ground := Go.Ground.phase }, { on := 3, ground := Go.Ground.phase }, { on := 4, ground := Go.Ground.phase }, { on := 5, ground := Go.Ground.phase }, { on := 6, ground := Go.Ground.phase }, { on := 7, ground := Go.Ground.phase }, { on := 8, ground := Go.Ground.phase }, { on := 9, ground := Go.Ground.phase }, { on := 10, ground := Go.Ground.phase }, { on := 11, ground := Go.Ground.phase }, { on := 12, ground := Go.Ground.phase }, { on := 13, ground := Go.Ground.phase }, { on := 14, ground := Go.Ground.phase }, { on := 15, ground := Go.Ground.phase }], guard := none }) rfl (fun K hK => ?_) AllReadyH.nil
        refine step_store_one rfl 22 (.tmp 37) (.tmp 35) rfl g 0 rfl (.slice va (n + 1) vc) rfl rfl S22.out 39 [.slice a n cap] (GB.out _ D46.out) (by simp) ?_
        intro z47 o47 t47
        have RES : Hid (AddP w g ys ⟨⟨⟨k, p, m, t, (L : Int)⟩, d⟩, x, xc⟩ (.returned (.int .i64 0)) z47) := FIN.out va vc xb xcb _ _ D46.out O46.out B46.out o47 t47
        have ks47 : (fun w' : World => w'.cell? ⟨w.heap.size, 0, none⟩ = some (.int .i64 k) ∧ w'.cell? ⟨w.heap.size, 1, none⟩ = some (.string p) ∧ w'.cell? ⟨w.heap.size, 2, none⟩ = some (.int .i64 m) ∧ w'.cell? ⟨w.heap.size, 3, none⟩ = some (.string t) ∧ w'.cell? ⟨w.heap.size, 4, none⟩ = some (.int .i64 (L : Int)) ∧ w'.cell? ⟨w.heap.size, 5, none⟩ = some (.slice x L xc)) z47 := KT.out _ _ D46.out t47
        clear o47 t47
        refine hK.out _ _ (ks47) (fun hHeld => ?_)
        clear hK K
        (try simp only [Act.put])
        refine wpAnyH_done (by kernel_rfl) ?_ _
        go_wp2_with fail
        go_ret
        exact RES.out
      
    · refine step_lit_k0 rfl 28 5 .u8 rfl Tryd.underlying28 I8.out ?_
      intro z46 o46 b46
      have B46 : Hid (z46.ownsRow wz.heap.size 5 1 (.slice (some ⟨wz.heap.size, 0, none⟩) 0 0) 0 (([] : List Int).map (.int .u8))) := own_lower o46 D0.out.size
      have D46 : Hid (Below wz.heap.size wz z46) := D0.out.trans (b46.mono D0.out.size)
      clear o46 b46
      refine hK.out _ _ (KS.out _ D46.out) (fun hHeld => ?_)
      clear hK K
      (try simp only [Act.put, List.setIfInBounds_toArray, List.set_cons_zero, List.set_cons_succ])
      refine wpAnyH_ready (rs := [1]) (by kernel_rfl) (by simp) ?_
      refine AllReadyH.cons (o := { dst := some 21, op := Go.Op.buildSlice 22 0 #[], type := 22, pos := "ref.go:57", after := #[], guard := none }) rfl (fun K hK => ?_) AllReadyH.nil
      refine step_lit_mb0 rfl 22 30 rfl Tryd.underlying22 _ I6.out ?_
      intro z47 o47 b47
      have O47 : Hid (z47.ownsRow wz.heap.size 30 6 (.slice (some ⟨z46.heap.size, 0, none⟩) 0 0) 0 (mbCells [])) := own_lower o47 D46.out.size
      have D47 : Hid (Below wz.heap.size wz z47) := D46.out.trans (b47.mono D46.out.size)
      have B47 := Lib.hid (own_stay' B46.out b47 (Nat.le_refl _))
      clear o47 b47
      refine hK.out _ _ (KS.out _ D47.out) (fun hHeld => ?_)
      clear hK K
      (try simp only [Act.put, List.setIfInBounds_toArray, List.set_cons_zero, List.set_cons_succ])
      refine wpAnyH_ready (rs := [6]) (by kernel_rfl) (by simp) ?_
      refine AllReadyH.cons (o := { dst := some 26, op := Go.Op.call { callee := Go.Callee.builtin Go.Builtin.append, args := #[Go.Operand.tmp 21, Go.Operand.tmp 25], argTypes := #[22, 22] }, type := 22, pos := "ref.go:57", after := #[{ on := 1, ground := Go.Ground.data }, { on := 5, ground := Go.Ground.data }], guard := none }) rfl (fun K hK => ?_) AllReadyH.nil
      refine step_append_mms rfl (.tmp 21) (.tmp 25) 22 rfl wz.heap.size 30 i0 _ Tryd.underlying22 HI0 rfl (.slice (some ⟨z46.heap.size, 0, none⟩) 0 0) 0 [] rfl O47.out a n cap ys rfl (INW.out _ D47.out) HN.out (by have := N40.out; omega) D47.out.size ?_
      intro v48 z48 o48 b48 k48
      rw [Nat.zero_add, List.nil_append] at o48
      have O48 : Hid (z48.ownsRow wz.heap.size 30 6 v48 n (mbCells ys)) := o48
      have D48 : Hid (Below wz.heap.size wz z48) := D47.out.trans b48
      have B48 := Lib.hid (own_other B47.out O47.out (by decide) k48)
      clear o48 b48 k48
      refine hK.out _ _ (KS.out _ D48.out) (fun hHeld => ?_)
      clear hK K
      (try simp only [Act.put, List.setIfInBounds_toArray, List.set_cons_zero, List.set_cons_succ])
      refine wpAnyH_ready (rs := [12]) (by kernel_rfl) (by simp) ?_
      refine AllReadyH.cons (o := { dst := some 32, op := Go.Op.call { callee := Go.Callee.builtin Go.Builtin.append, args := #[Go.Operand.tmp 29, Go.Operand.tmp 31], argTypes := #[28, 28] }, type := 28, pos := "ref.go:57", after := #[{ on := 9, ground := Go.Ground.data }, { on := 11, ground := Go.Ground.data }, { on := 6, ground := Go.Ground.chain }], guard := none }) rfl (fun K hK => ?_) AllReadyH.nil
      refine step_append_kk rfl (.tmp 29) (.tmp 31) 28 rfl wz.heap.size 5 .u8 1 Tryd.underlying28 U8.out (.slice (some ⟨wz.heap.size, 0, none⟩) 0 0) 0 [] rfl B48.out x L xc d rfl (IK.out _ D48.out) HL.out (by have := DL.out; unfold maxLen; omega) (by have := DL.out; omega) D48.out.size ?_
      intro v49 z49 o49 b49 k49
      rw [Nat.zero_add, List.nil_append] at o49
      have O49 := Lib.hid (own_other O48.out B48.out (by decide) k49)
      have D49 : Hid (Below wz.heap.size wz z49) := D48.out.trans b49
      obtain ⟨xb, xcb, rfl, FD49⟩ : ∃ xb xcb, v49 = .slice xb L xcb ∧ z49.ownsRow wz.heap.size 5 1 v49 L (d.map (.int .u8)) := by
        obtain ⟨xb, xcb, hv, _⟩ := own_any o49
        exact ⟨xb, xcb, hv, o49⟩
      have B49 := Lib.hid FD49
      clear o49 b49 k49 FD49
      refine hK.out _ _ (KS.out _ D49.out) (fun hHeld => ?_)
      clear hK K
      (try simp only [Act.put, List.setIfInBounds_toArray, List.set_cons_zero, List.set_cons_succ])
      refine wpAnyH_take (i := 13) (oi := { dst := some 33, op := Go.Op.build 30 #[(0, Go.Operand.tmp 28), (1, Go.Operand.tmp 32)], type := 30, pos := "ref.go:57", after := #[{ on := 8, ground := Go.Ground.data }, { on := 12, ground := Go.Ground.data }], guard := none }) (v := ?_) rfl (by kernel_rfl) (by kernel_rfl) (by kernel_rfl) (fun _ _ _ h => h) (Or.inl ⟨by rfl, ?_⟩) (by assumption) ?_
      rotate_left 1
      focus ((intro wS hSw; (try dsimp only at hSw); go_simp) <;> (try with_reducible rfl))
      simp only [Act.put, List.setIfInBounds_toArray, List.set_cons_zero, List.set_cons_succ]
      refine wpAnyH_ready (rs := [14]) (by kernel_rfl) (by simp) ?_
      refine AllReadyH.cons (o := { dst := some 34, op := Go.Op.buildSlice 22 1 #[(0, Go.Operand.tmp 33)], type := 22, pos := "ref.go:57", after := #[{ on := 13, ground := Go.Ground.data }], guard := none }) rfl (fun K hK => ?_) AllReadyH.nil
      refine step_lit_mb1 rfl 22 30 (.tmp 33) rfl Tryd.underlying22 _ I6.out ⟨⟨⟨k, p, m, t, (L : Int)⟩, d⟩, xb, xcb⟩ (by show _ = Value.agg (mbC k p m t (L : Int) xb d.length xcb).toArray; rw [HL.out]; rfl) ?_
      intro z52 l52 b52
      have L52 : Hid (ObjAt z52 z49.heap.size 30 (mbCells [⟨⟨⟨k, p, m, t, (L : Int)⟩, d⟩, xb, xcb⟩])) := l52
      have D52 : Hid (Below wz.heap.size wz z52) := D49.out.trans (b52.mono D49.out.size)
      have O52 := Lib.hid (own_stay' O49.out b52 (Nat.le_refl _))
      have B52 := Lib.hid (own_stay' B49.out b52 (Nat.le_refl _))
      clear l52 b52
      refine hK.out _ _ (KS.out _ D52.out) (fun hHeld => ?_)
      clear hK K
      (try simp only [Act.put, List.setIfInBounds_toArray, List.set_cons_zero, List.set_cons_succ])
      refine wpAnyH_ready (rs := [15]) (by kernel_rfl) (by simp) ?_
      refine AllReadyH.cons (o := { dst := some 35, op := Go.Op.call { callee := Go.Callee.builtin Go.Builtin.append, args := #[Go.Operand.tmp 26, Go.Operand.tmp 34], argTypes := #[22, 22] }, type := 22, pos := "ref.go:57", after := #[{ on := 6, ground := Go.Ground.data }, { on := 14, ground := Go.Ground.data }, { on := 12, ground := Go.Ground.chain }], guard := none }) rfl (fun K hK => ?_) AllReadyH.nil
      refine step_append_mms rfl (.tmp 26) (.tmp 34) 22 rfl wz.heap.size 30 i0 _ Tryd.underlying22 HI0 rfl _ n ys rfl O52.out (some ⟨z49.heap.size, 0, none⟩) 1 1 [⟨⟨⟨k, p, m, t, (L : Int)⟩, d⟩, xb, xcb⟩] rfl (obj_mms L52.out) rfl (by have := N40.out; omega) D52.out.size ?_
      intro v53 z53 o53 b53 k53
      have B53 := Lib.hid (own_other B52.out O52.out (by decide) k53)
      have D53 : Hid (Below wz.heap.size wz z53) := D52.out.trans b53
      obtain ⟨va, vc, rfl, O53⟩ : ∃ va vc, v53 = .slice va (n + 1) vc ∧ Hid (z53.ownsRow wz.heap.size 30 6 v53 (n + 1) (mbCells (ys ++ [⟨⟨⟨k, p, m, t, (L : Int)⟩, d⟩, xb, xcb⟩]))) := by
        obtain ⟨va, vc, hv, _⟩ := MbsIn.of_own o53
        exact ⟨va, vc, hv, o53⟩
      clear o53 b53 k53
      refine hK.out _ _ (KS.out _ D53.out) (fun hHeld => ?_)
      clear hK K
      (try simp only [Act.put, List.setIfInBounds_toArray, List.set_cons_zero, List.set_cons_succ])
      refine wpAnyH_take (i := 16) (oi := { dst := some 36, op := Go.Op.nilCheck (Go.Operand.tmp 20), type := 0, pos := "ref.go:57", after := #[{ on := 0, ground := Go.Ground.data }, { on := 0, ground := Go.Ground.phase }, { on := 1, ground := Go.Ground.phase }, { on := 2, ground := Go.Ground.phase }, { on := 3, ground := Go.Ground.phase }, { on := 4, ground := Go.Ground.phase }, { on := 5, ground := Go.Ground.phase }, { on := 6, ground := Go.Ground.phase }, { on := 7, ground := Go.Ground.phase }, { on := 8, ground := Go.Ground.phase }, { on := 9, ground := Go.Ground.phase }, { on := 10, ground := Go.Ground.phase }, { on := 11, ground := Go.Ground.phase }, { on := 12, ground := Go.Ground.phase }, { on := 13, ground := Go.Ground.phase }, { on := 14, ground := Go.Ground.phase }, { on := 15, ground := Go.Ground.phase }], guard := none }) (v := ?_) rfl (by kernel_rfl) (by kernel_rfl) (by kernel_rfl) (fun _ _ _ h => h) (Or.inl ⟨by rfl, ?_⟩) (by assumption) ?_
      rotate_left 1
      focus ((intro wS hSw; (try dsimp only at hSw); go_simp) <;> (try with_reducible rfl))
      simp only [Act.put, List.setIfInBounds_toArray, List.set_cons_zero, List.set_cons_succ]
      refine wpAnyH_take (i := 17) (oi := { dst := some 37, op := Go.Op.fieldAddr 39 (Go.Operand.tmp 36) 0, type := 0, pos := "ref.go:57", after := #[{ on := 16, ground := Go.Ground.data }, { on := 0, ground := Go.Ground.phase }, { on := 1, ground := Go.Ground.phase }, { on := 2, ground := Go.Ground.phase }, { on := 3, ground := Go.Ground.phase }, { on := 4, ground := Go.Ground.phase }, { on := 5, ground := Go.Ground.phase }, { on := 6, ground := Go.Ground.phase }, { on := 7, ground := Go.Ground.phase }, { on := 8, ground := Go.Ground.phase }, { on := 9, ground := Go.Ground.phase }, { on := 10, ground := Go.Ground.phase }, { on := 11, ground := Go.Ground.phase }, { on := 12, ground := Go.Ground.phase }, { on := 13, ground := Go.Ground.phase }, { on := 14, ground := Go.Ground.phase }, { on := 15, ground := Go.Ground.phase }], guard := none }) (v := ?_) rfl (by kernel_rfl) (by kernel_rfl) (by kernel_rfl) (fun _ _ _ h => h) (Or.inl ⟨by rfl, ?_⟩) (by assumption) ?_
      rotate_left 1
      focus ((intro wS hSw; (try dsimp only at hSw); go_simp) <;> (try with_reducible rfl))
      simp only [Act.put, List.setIfInBounds_toArray, List.set_cons_zero, List.set_cons_succ]
      refine wpAnyH_ready (rs := [18]) (by kernel_rfl) (by simp) ?_
      refine AllReadyH.cons (o := { dst := none, op := Go.Op.store 22 (Go.Operand.tmp 37) (Go.Operand.tmp 35), type := 0, pos := "ref.go:57", after := #[{ on := 17, ground := Go.Ground.data }, { on := 15, ground := Go.Ground.data }, { on := 15, ground := Go.Ground.chain }, { on := 0, ground := Go.Ground.phase }, { on := 1, ground := Go.Ground.phase }, { on := 2, ground := Go.Ground.phase }, { on := 3, ground := Go.Ground.phase }, { on := 4, ground := Go.Ground.phase }, { on := 5, ground := Go.Ground.phase }, { on := 6, ground := Go.Ground.phase }, { on := 7, ground := Go.Ground.phase }, { on := 8, ground := Go.Ground.phase }, { on := 9, ground := Go.Ground.phase }, { on := 10, ground := Go.Ground.phase }, { on := 11, ground := Go.Ground.phase }, { on := 12, ground := Go.Ground.phase }, { on := 13, ground := Go.Ground.phase }, { on := 14, ground := Go.Ground.phase }, { on := 15, ground := Go.Ground.phase }], guard := none }) rfl (fun K hK => ?_) AllReadyH.nil
      refine step_store_one rfl 22 (.tmp 37) (.tmp 35) rfl g 0 rfl (.slice va (n + 1) vc) rfl rfl S22.out 39 [.slice a n cap] (GB.out _ D53.out) (by simp) ?_
      intro z54 o54 t54
      have RES : Hid (AddP w g ys ⟨⟨⟨k, p, m, t, (L : Int)⟩, d⟩, x, xc⟩ (.returned (.int .i64 0)) z54) := FIN.out va vc xb xcb _ _ D53.out O53.out B53.out o54 t54
      have ks54 : (fun w' : World => w'.cell? ⟨w.heap.size, 0, none⟩ = some (.int .i64 k) ∧ w'.cell? ⟨w.heap.size, 1, none⟩ = some (.string p) ∧ w'.cell? ⟨w.heap.size, 2, none⟩ = some (.int .i64 m) ∧ w'.cell? ⟨w.heap.size, 3, none⟩ = some (.string t) ∧ w'.cell? ⟨w.heap.size, 4, none⟩ = some (.int .i64 (L : Int)) ∧ w'.cell? ⟨w.heap.size, 5, none⟩ = some (.slice x L xc)) z54 := KT.out _ _ D53.out t54
      clear o54 t54
      refine hK.out _ _ (ks54) (fun hHeld => ?_)
      clear hK K
      (try simp only [Act.put])
      refine wpAnyH_done (by kernel_rfl) ?_ _
      go_wp2_with fail
      go_ret
      exact RES.out
    
  · refine step_lit_k0 rfl 28 5 .u8 rfl Tryd.underlying28 I8.out ?_
    intro z53 o53 b53
    have B53 : Hid (z53.ownsRow wz.heap.size 5 1 (.slice (some ⟨wz.heap.size, 0, none⟩) 0 0) 0 (([] : List Int).map (.int .u8))) := own_lower o53 D0.out.size
    have D53 : Hid (Below wz.heap.size wz z53) := D0.out.trans (b53.mono D0.out.size)
    clear o53 b53
    refine hK.out _ _ (KS.out _ D53.out) (fun hHeld => ?_)
    clear hK K
    (try simp only [Act.put, List.setIfInBounds_toArray, List.set_cons_zero, List.set_cons_succ])
    refine wpAnyH_ready (rs := [1, 5]) (by kernel_rfl) (by simp) ?_
    refine AllReadyH.cons (o := { dst := some 21, op := Go.Op.buildSlice 22 0 #[], type := 22, pos := "ref.go:57", after := #[], guard := none }) rfl (fun K hK => ?_) (AllReadyH.cons (o := { dst := some 25, op := Go.Op.load 22 (Go.Operand.tmp 24), type := 22, pos := "ref.go:57", after := #[{ on := 4, ground := Go.Ground.data }], guard := none }) rfl (fun K hK => ?_) AllReadyH.nil)
    · refine step_lit_mb0 rfl 22 30 rfl Tryd.underlying22 _ I6.out ?_
      intro z54 o54 b54
      have O54 : Hid (z54.ownsRow wz.heap.size 30 6 (.slice (some ⟨z53.heap.size, 0, none⟩) 0 0) 0 (mbCells [])) := own_lower o54 D53.out.size
      have D54 : Hid (Below wz.heap.size wz z54) := D53.out.trans (b54.mono D53.out.size)
      have B54 := Lib.hid (own_stay' B53.out b54 (Nat.le_refl _))
      clear o54 b54
      refine hK.out _ _ (KS.out _ D54.out) (fun hHeld => ?_)
      clear hK K
      (try simp only [Act.put, List.setIfInBounds_toArray, List.set_cons_zero, List.set_cons_succ])
      refine wpAnyH_ready (rs := [5]) (by kernel_rfl) (by simp) ?_
      refine AllReadyH.cons (o := { dst := some 25, op := Go.Op.load 22 (Go.Operand.tmp 24), type := 22, pos := "ref.go:57", after := #[{ on := 4, ground := Go.Ground.data }], guard := none }) rfl (fun K hK => ?_) AllReadyH.nil
      refine step_load_run rfl 22 (.tmp 24) rfl ⟨g, 0, none⟩ rfl (.slice a n cap) (LG.out _ (GO.out _ D54.out)) ?_
      refine hK.out _ _ (KS.out _ D54.out) (fun hHeld => ?_)
      clear hK K
      (try simp only [Act.put, List.setIfInBounds_toArray, List.set_cons_zero, List.set_cons_succ])
      refine wpAnyH_ready (rs := [6]) (by kernel_rfl) (by simp) ?_
      refine AllReadyH.cons (o := { dst := some 26, op := Go.Op.call { callee := Go.Callee.builtin Go.Builtin.append, args := #[Go.Operand.tmp 21, Go.Operand.tmp 25], argTypes := #[22, 22] }, type := 22, pos := "ref.go:57", after := #[{ on := 1, ground := Go.Ground.data }, { on := 5, ground := Go.Ground.data }], guard := none }) rfl (fun K hK => ?_) AllReadyH.nil
      refine step_append_mms rfl (.tmp 21) (.tmp 25) 22 rfl wz.heap.size 30 i0 _ Tryd.underlying22 HI0 rfl (.slice (some ⟨z53.heap.size, 0, none⟩) 0 0) 0 [] rfl O54.out a n cap ys rfl (INW.out _ D54.out) HN.out (by have := N40.out; omega) D54.out.size ?_
      intro v56 z56 o56 b56 k56
      rw [Nat.zero_add, List.nil_append] at o56
      have O56 : Hid (z56.ownsRow wz.heap.size 30 6 v56 n (mbCells ys)) := o56
      have D56 : Hid (Below wz.heap.size wz z56) := D54.out.trans b56
      have B56 := Lib.hid (own_other B54.out O54.out (by decide) k56)
      clear o56 b56 k56
      refine hK.out _ _ (KS.out _ D56.out) (fun hHeld => ?_)
      clear hK K
      (try simp only [Act.put, List.setIfInBounds_toArray, List.set_cons_zero, List.set_cons_succ])
      refine wpAnyH_ready (rs := [12]) (by kernel_rfl) (by simp) ?_
      refine AllReadyH.cons (o := { dst := some 32, op := Go.Op.call { callee := Go.Callee.builtin Go.Builtin.append, args := #[Go.Operand.tmp 29, Go.Operand.tmp 31], argTypes := #[28, 28] }, type := 28, pos := "ref.go:57", after := #[{ on := 9, ground := Go.Ground.data }, { on := 11, ground := Go.Ground.data }, { on := 6, ground := Go.Ground.chain }], guard := none }) rfl (fun K hK => ?_) AllReadyH.nil
      refine step_append_kk rfl (.tmp 29) (.tmp 31) 28 rfl wz.heap.size 5 .u8 1 Tryd.underlying28 U8.out (.slice (some ⟨wz.heap.size, 0, none⟩) 0 0) 0 [] rfl B56.out x L xc d rfl (IK.out _ D56.out) HL.out (by have := DL.out; unfold maxLen; omega) (by have := DL.out; omega) D56.out.size ?_
      intro v57 z57 o57 b57 k57
      rw [Nat.zero_add, List.nil_append] at o57
      have O57 := Lib.hid (own_other O56.out B56.out (by decide) k57)
      have D57 : Hid (Below wz.heap.size wz z57) := D56.out.trans b57
      obtain ⟨xb, xcb, rfl, FD57⟩ : ∃ xb xcb, v57 = .slice xb L xcb ∧ z57.ownsRow wz.heap.size 5 1 v57 L (d.map (.int .u8)) := by
        obtain ⟨xb, xcb, hv, _⟩ := own_any o57
        exact ⟨xb, xcb, hv, o57⟩
      have B57 := Lib.hid FD57
      clear o57 b57 k57 FD57
      refine hK.out _ _ (KS.out _ D57.out) (fun hHeld => ?_)
      clear hK K
      (try simp only [Act.put, List.setIfInBounds_toArray, List.set_cons_zero, List.set_cons_succ])
      refine wpAnyH_take (i := 13) (oi := { dst := some 33, op := Go.Op.build 30 #[(0, Go.Operand.tmp 28), (1, Go.Operand.tmp 32)], type := 30, pos := "ref.go:57", after := #[{ on := 8, ground := Go.Ground.data }, { on := 12, ground := Go.Ground.data }], guard := none }) (v := ?_) rfl (by kernel_rfl) (by kernel_rfl) (by kernel_rfl) (fun _ _ _ h => h) (Or.inl ⟨by rfl, ?_⟩) (by assumption) ?_
      rotate_left 1
      focus ((intro wS hSw; (try dsimp only at hSw); go_simp) <;> (try with_reducible rfl))
      simp only [Act.put, List.setIfInBounds_toArray, List.set_cons_zero, List.set_cons_succ]
      refine wpAnyH_ready (rs := [14]) (by kernel_rfl) (by simp) ?_
      refine AllReadyH.cons (o := { dst := some 34, op := Go.Op.buildSlice 22 1 #[(0, Go.Operand.tmp 33)], type := 22, pos := "ref.go:57", after := #[{ on := 13, ground := Go.Ground.data }], guard := none }) rfl (fun K hK => ?_) AllReadyH.nil
      refine step_lit_mb1 rfl 22 30 (.tmp 33) rfl Tryd.underlying22 _ I6.out ⟨⟨⟨k, p, m, t, (L : Int)⟩, d⟩, xb, xcb⟩ (by show _ = Value.agg (mbC k p m t (L : Int) xb d.length xcb).toArray; rw [HL.out]; rfl) ?_
      intro z60 l60 b60
      have L60 : Hid (ObjAt z60 z57.heap.size 30 (mbCells [⟨⟨⟨k, p, m, t, (L : Int)⟩, d⟩, xb, xcb⟩])) := l60
      have D60 : Hid (Below wz.heap.size wz z60) := D57.out.trans (b60.mono D57.out.size)
      have O60 := Lib.hid (own_stay' O57.out b60 (Nat.le_refl _))
      have B60 := Lib.hid (own_stay' B57.out b60 (Nat.le_refl _))
      clear l60 b60
      refine hK.out _ _ (KS.out _ D60.out) (fun hHeld => ?_)
      clear hK K
      (try simp only [Act.put, List.setIfInBounds_toArray, List.set_cons_zero, List.set_cons_succ])
      refine wpAnyH_ready (rs := [15]) (by kernel_rfl) (by simp) ?_
      refine AllReadyH.cons (o := { dst := some 35, op := Go.Op.call { callee := Go.Callee.builtin Go.Builtin.append, args := #[Go.Operand.tmp 26, Go.Operand.tmp 34], argTypes := #[22, 22] }, type := 22, pos := "ref.go:57", after := #[{ on := 6, ground := Go.Ground.data }, { on := 14, ground := Go.Ground.data }, { on := 12, ground := Go.Ground.chain }], guard := none }) rfl (fun K hK => ?_) AllReadyH.nil
      refine step_append_mms rfl (.tmp 26) (.tmp 34) 22 rfl wz.heap.size 30 i0 _ Tryd.underlying22 HI0 rfl _ n ys rfl O60.out (some ⟨z57.heap.size, 0, none⟩) 1 1 [⟨⟨⟨k, p, m, t, (L : Int)⟩, d⟩, xb, xcb⟩] rfl (obj_mms L60.out) rfl (by have := N40.out; omega) D60.out.size ?_
      intro v61 z61 o61 b61 k61
      have B61 := Lib.hid (own_other B60.out O60.out (by decide) k61)
      have D61 : Hid (Below wz.heap.size wz z61) := D60.out.trans b61
      obtain ⟨va, vc, rfl, O61⟩ : ∃ va vc, v61 = .slice va (n + 1) vc ∧ Hid (z61.ownsRow wz.heap.size 30 6 v61 (n + 1) (mbCells (ys ++ [⟨⟨⟨k, p, m, t, (L : Int)⟩, d⟩, xb, xcb⟩]))) := by
        obtain ⟨va, vc, hv, _⟩ := MbsIn.of_own o61
        exact ⟨va, vc, hv, o61⟩
      clear o61 b61 k61
      refine hK.out _ _ (KS.out _ D61.out) (fun hHeld => ?_)
      clear hK K
      (try simp only [Act.put, List.setIfInBounds_toArray, List.set_cons_zero, List.set_cons_succ])
      refine wpAnyH_take (i := 16) (oi := { dst := some 36, op := Go.Op.nilCheck (Go.Operand.tmp 20), type := 0, pos := "ref.go:57", after := #[{ on := 0, ground := Go.Ground.data }, { on := 0, ground := Go.Ground.phase }, { on := 1, ground := Go.Ground.phase }, { on := 2, ground := Go.Ground.phase }, { on := 3, ground := Go.Ground.phase }, { on := 4, ground := Go.Ground.phase }, { on := 5, ground := Go.Ground.phase }, { on := 6, ground := Go.Ground.phase }, { on := 7, ground := Go.Ground.phase }, { on := 8, ground := Go.Ground.phase }, { on := 9, ground := Go.Ground.phase }, { on := 10, ground := Go.Ground.phase }, { on := 11, ground := Go.Ground.phase }, { on := 12, ground := Go.Ground.phase }, { on := 13, ground := Go.Ground.phase }, { on := 14, ground := Go.Ground.phase }, { on := 15, ground := Go.Ground.phase }], guard := none }) (v := ?_) rfl (by kernel_rfl) (by kernel_rfl) (by kernel_rfl) (fun _ _ _ h => h) (Or.inl ⟨by rfl, ?_⟩) (by assumption) ?_
      rotate_left 1
      focus ((intro wS hSw; (try dsimp only at hSw); go_simp) <;> (try with_reducible rfl))
      simp only [Act.put, List.setIfInBounds_toArray, List.set_cons_zero, List.set_cons_succ]
      refine wpAnyH_take (i := 17) (oi := { dst := some 37, op := Go.Op.fieldAddr 39 (Go.Operand.tmp 36) 0, type := 0, pos := "ref.go:57", after := #[{ on := 16, ground := Go.Ground.data }, { on := 0, ground := Go.Ground.phase }, { on := 1, ground := Go.Ground.phase }, { on := 2, ground := Go.Ground.phase }, { on := 3, ground := Go.Ground.phase }, { on := 4, ground := Go.Ground.phase }, { on := 5, ground := Go.Ground.phase }, { on := 6, ground := Go.Ground.phase }, { on := 7, ground := Go.Ground.phase }, { on := 8, ground := Go.Ground.phase }, { on := 9, ground := Go.Ground.phase }, { on := 10, ground := Go.Ground.phase }, { on := 11, ground := Go.Ground.phase }, { on := 12, ground := Go.Ground.phase }, { on := 13, ground := Go.Ground.phase }, { on := 14, ground := Go.Ground.phase }, { on := 15, ground := Go.Ground.phase }], guard := none }) (v := ?_) rfl (by kernel_rfl) (by kernel_rfl) (by kernel_rfl) (fun _ _ _ h => h) (Or.inl ⟨by rfl, ?_⟩) (by assumption) ?_
      rotate_left 1
      focus ((intro wS hSw; (try dsimp only at hSw); go_simp) <;> (try with_reducible rfl))
      simp only [Act.put, List.setIfInBounds_toArray, List.set_cons_zero, List.set_cons_succ]
      refine wpAnyH_ready (rs := [18]) (by kernel_rfl) (by simp) ?_
      refine AllReadyH.cons (o := { dst := none, op := Go.Op.store 22 (Go.Operand.tmp 37) (Go.Operand.tmp 35), type := 0, pos := "ref.go:57", after := #[{ on := 17, ground := Go.Ground.data }, { on := 15, ground := Go.Ground.data }, { on := 15, ground := Go.Ground.chain }, { on := 0, ground := Go.Ground.phase }, { on := 1, ground := Go.Ground.phase }, { on := 2, ground := Go.Ground.phase }, { on := 3, ground := Go.Ground.phase }, { on := 4, ground := Go.Ground.phase }, { on := 5, ground := Go.Ground.phase }, { on := 6, ground := Go.Ground.phase }, { on := 7, ground := Go.Ground.phase }, { on := 8, ground := Go.Ground.phase }, { on := 9, ground := Go.Ground.phase }, { on := 10, ground := Go.Ground.phase }, { on := 11, ground := Go.Ground.phase }, { on := 12, ground := Go.Ground.phase }, { on := 13, ground := Go.Ground.phase }, { on := 14, ground := Go.Ground.phase }, { on := 15, ground := Go.Ground.phase }], guard := none }) rfl (fun K hK => ?_) AllReadyH.nil
      refine step_store_one rfl 22 (.tmp 37) (.tmp 35) rfl g 0 rfl (.slice va (n + 1) vc) rfl rfl S22.out 39 [.slice a n cap] (GB.out _ D61.out) (by simp) ?_
      intro z62 o62 t62
      have RES : Hid (AddP w g ys ⟨⟨⟨k, p, m, t, (L : Int)⟩, d⟩, x, xc⟩ (.returned (.int .i64 0)) z62) := FIN.out va vc xb xcb _ _ D61.out O61.out B61.out o62 t62
      have ks62 : (fun w' : World => w'.cell? ⟨w.heap.size, 0, none⟩ = some (.int .i64 k) ∧ w'.cell? ⟨w.heap.size, 1, none⟩ = some (.string p) ∧ w'.cell? ⟨w.heap.size, 2, none⟩ = some (.int .i64 m) ∧ w'.cell? ⟨w.heap.size, 3, none⟩ = some (.string t) ∧ w'.cell? ⟨w.heap.size, 4, none⟩ = some (.int .i64 (L : Int)) ∧ w'.cell? ⟨w.heap.size, 5, none⟩ = some (.slice x L xc)) z62 := KT.out _ _ D61.out t62
      clear o62 t62
      refine hK.out _ _ (ks62) (fun hHeld => ?_)
      clear hK K
      (try simp only [Act.put])
      refine wpAnyH_done (by kernel_rfl) ?_ _
      go_wp2_with fail
      go_ret
      exact RES.out
    · refine step_load_run rfl 22 (.tmp 24) rfl ⟨g, 0, none⟩ rfl (.slice a n cap) (LG.out _ (GO.out _ D53.out)) ?_
      refine hK.out _ _ (KS.out _ D53.out) (fun hHeld => ?_)
      clear hK K
      (try simp only [Act.put, List.setIfInBounds_toArray, List.set_cons_zero, List.set_cons_succ])
      refine wpAnyH_ready (rs := [1]) (by kernel_rfl) (by simp) ?_
      refine AllReadyH.cons (o := { dst := some 21, op := Go.Op.buildSlice 22 0 #[], type := 22, pos := "ref.go:57", after := #[], guard := none }) rfl (fun K hK => ?_) AllReadyH.nil
      refine step_lit_mb0 rfl 22 30 rfl Tryd.underlying22 _ I6.out ?_
      intro z62 o62 b62
      have O62 : Hid (z62.ownsRow wz.heap.size 30 6 (.slice (some ⟨z53.heap.size, 0, none⟩) 0 0) 0 (mbCells [])) := own_lower o62 D53.out.size
      have D62 : Hid (Below wz.heap.size wz z62) := D53.out.trans (b62.mono D53.out.size)
      have B62 := Lib.hid (own_stay' B53.out b62 (Nat.le_refl _))
      clear o62 b62
      refine hK.out _ _ (KS.out _ D62.out) (fun hHeld => ?_)
      clear hK K
      (try simp only [Act.put, List.setIfInBounds_toArray, List.set_cons_zero, List.set_cons_succ])
      refine wpAnyH_ready (rs := [6]) (by kernel_rfl) (by simp) ?_
      refine AllReadyH.cons (o := { dst := some 26, op := Go.Op.call { callee := Go.Callee.builtin Go.Builtin.append, args := #[Go.Operand.tmp 21, Go.Operand.tmp 25], argTypes := #[22, 22] }, type := 22, pos := "ref.go:57", after := #[{ on := 1, ground := Go.Ground.data }, { on := 5, ground := Go.Ground.data }], guard := none }) rfl (fun K hK => ?_) AllReadyH.nil
      refine step_append_mms rfl (.tmp 21) (.tmp 25) 22 rfl wz.heap.size 30 i0 _ Tryd.underlying22 HI0 rfl (.slice (some ⟨z53.heap.size, 0, none⟩) 0 0) 0 [] rfl O62.out a n cap ys rfl (INW.out _ D62.out) HN.out (by have := N40.out; omega) D62.out.size ?_
      intro v63 z63 o63 b63 k63
      rw [Nat.zero_add, List.nil_append] at o63
      have O63 : Hid (z63.ownsRow wz.heap.size 30 6 v63 n (mbCells ys)) := o63
      have D63 : Hid (Below wz.heap.size wz z63) := D62.out.trans b63
      have B63 := Lib.hid (own_other B62.out O62.out (by decide) k63)
      clear o63 b63 k63
      refine hK.out _ _ (KS.out _ D63.out) (fun hHeld => ?_)
      clear hK K
      (try simp only [Act.put, List.setIfInBounds_toArray, List.set_cons_zero, List.set_cons_succ])
      refine wpAnyH_ready (rs := [12]) (by kernel_rfl) (by simp) ?_
      refine AllReadyH.cons (o := { dst := some 32, op := Go.Op.call { callee := Go.Callee.builtin Go.Builtin.append, args := #[Go.Operand.tmp 29, Go.Operand.tmp 31], argTypes := #[28, 28] }, type := 28, pos := "ref.go:57", after := #[{ on := 9, ground := Go.Ground.data }, { on := 11, ground := Go.Ground.data }, { on := 6, ground := Go.Ground.chain }], guard := none }) rfl (fun K hK => ?_) AllReadyH.nil
      refine step_append_kk rfl (.tmp 29) (.tmp 31) 28 rfl wz.heap.size 5 .u8 1 Tryd.underlying28 U8.out (.slice (some ⟨wz.heap.size, 0, none⟩) 0 0) 0 [] rfl B63.out x L xc d rfl (IK.out _ D63.out) HL.out (by have := DL.out; unfold maxLen; omega) (by have := DL.out; omega) D63.out.size ?_
      intro v64 z64 o64 b64 k64
      rw [Nat.zero_add, List.nil_append] at o64
      have O64 := Lib.hid (own_other O63.out B63.out (by decide) k64)
      have D64 : Hid (Below wz.heap.size wz z64) := D63.out.trans b64
      obtain ⟨xb, xcb, rfl, FD64⟩ : ∃ xb xcb, v64 = .slice xb L xcb ∧ z64.ownsRow wz.heap.size 5 1 v64 L (d.map (.int .u8)) := by
        obtain ⟨xb, xcb, hv, _⟩ := own_any o64
        exact ⟨xb, xcb, hv, o64⟩
      have B64 := Lib.hid FD64
      clear o64 b64 k64 FD64
      refine hK.out _ _ (KS.out _ D64.out) (fun hHeld => ?_)
      clear hK K
      (try simp only [Act.put, List.setIfInBounds_toArray, List.set_cons_zero, List.set_cons_succ])
      refine wpAnyH_take (i := 13) (oi := { dst := some 33, op := Go.Op.build 30 #[(0, Go.Operand.tmp 28), (1, Go.Operand.tmp 32)], type := 30, pos := "ref.go:57", after := #[{ on := 8, ground := Go.Ground.data }, { on := 12, ground := Go.Ground.data }], guard := none }) (v := ?_) rfl (by kernel_rfl) (by kernel_rfl) (by kernel_rfl) (fun _ _ _ h => h) (Or.inl ⟨by rfl, ?_⟩) (by assumption) ?_
      rotate_left 1
      focus ((intro wS hSw; (try dsimp only at hSw); go_simp) <;> (try with_reducible rfl))
      simp only [Act.put, List.setIfInBounds_toArray, List.set_cons_zero, List.set_cons_succ]
      refine wpAnyH_ready (rs := [14]) (by kernel_rfl) (by simp) ?_
      refine AllReadyH.cons (o := { dst := some 34, op := Go.Op.buildSlice 22 1 #[(0, Go.Operand.tmp 33)], type := 22, pos := "ref.go:57", after := #[{ on := 13, ground := Go.Ground.data }], guard := none }) rfl (fun K hK => ?_) AllReadyH.nil
      refine step_lit_mb1 rfl 22 30 (.tmp 33) rfl Tryd.underlying22 _ I6.out ⟨⟨⟨k, p, m, t, (L : Int)⟩, d⟩, xb, xcb⟩ (by show _ = Value.agg (mbC k p m t (L : Int) xb d.length xcb).toArray; rw [HL.out]; rfl) ?_
      intro z67 l67 b67
      have L67 : Hid (ObjAt z67 z64.heap.size 30 (mbCells [⟨⟨⟨k, p, m, t, (L : Int)⟩, d⟩, xb, xcb⟩])) := l67
      have D67 : Hid (Below wz.heap.size wz z67) := D64.out.trans (b67.mono D64.out.size)
      have O67 := Lib.hid (own_stay' O64.out b67 (Nat.le_refl _))
      have B67 := Lib.hid (own_stay' B64.out b67 (Nat.le_refl _))
      clear l67 b67
      refine hK.out _ _ (KS.out _ D67.out) (fun hHeld => ?_)
      clear hK K
      (try simp only [Act.put, List.setIfInBounds_toArray, List.set_cons_zero, List.set_cons_succ])
      refine wpAnyH_ready (rs := [15]) (by kernel_rfl) (by simp) ?_
      refine AllReadyH.cons (o := { dst := some 35, op := Go.Op.call { callee := Go.Callee.builtin Go.Builtin.append, args := #[Go.Operand.tmp 26, Go.Operand.tmp 34], argTypes := #[22, 22] }, type := 22, pos := "ref.go:57", after := #[{ on := 6, ground := Go.Ground.data }, { on := 14, ground := Go.Ground.data }, { on := 12, ground := Go.Ground.chain }], guard := none }) rfl (fun K hK => ?_) AllReadyH.nil
      refine step_append_mms rfl (.tmp 26) (.tmp 34) 22 rfl wz.heap.size 30 i0 _ Tryd.underlying22 HI0 rfl _ n ys rfl O67.out (some ⟨z64.heap.size, 0, none⟩) 1 1 [⟨⟨⟨k, p, m, t, (L : Int)⟩, d⟩, xb, xcb⟩] rfl (obj_mms L67.out) rfl (by have := N40.out; omega) D67.out.size ?_
      intro v68 z68 o68 b68 k68
      have B68 := Lib.hid (own_other B67.out O67.out (by decide) k68)
      have D68 : Hid (Below wz.heap.size wz z68) := D67.out.trans b68
      obtain ⟨va, vc, rfl, O68⟩ : ∃ va vc, v68 = .slice va (n + 1) vc ∧ Hid (z68.ownsRow wz.heap.size 30 6 v68 (n + 1) (mbCells (ys ++ [⟨⟨⟨k, p, m, t, (L : Int)⟩, d⟩, xb, xcb⟩]))) := by
        obtain ⟨va, vc, hv, _⟩ := MbsIn.of_own o68
        exact ⟨va, vc, hv, o68⟩
      clear o68 b68 k68
      refine hK.out _ _ (KS.out _ D68.out) (fun hHeld => ?_)
      clear hK K
      (try simp only [Act.put, List.setIfInBounds_toArray, List.set_cons_zero, List.set_cons_succ])
      refine wpAnyH_take (i := 16) (oi := { dst := some 36, op := Go.Op.nilCheck (Go.Operand.tmp 20), type := 0, pos := "ref.go:57", after := #[{ on := 0, ground := Go.Ground.data }, { on := 0, ground := Go.Ground.phase }, { on := 1, ground := Go.Ground.phase }, { on := 2, ground := Go.Ground.phase }, { on := 3, ground := Go.Ground.phase }, { on := 4, ground := Go.Ground.phase }, { on := 5, ground := Go.Ground.phase }, { on := 6, ground := Go.Ground.phase }, { on := 7, ground := Go.Ground.phase }, { on := 8, ground := Go.Ground.phase }, { on := 9, ground := Go.Ground.phase }, { on := 10, ground := Go.Ground.phase }, { on := 11, ground := Go.Ground.phase }, { on := 12, ground := Go.Ground.phase }, { on := 13, ground := Go.Ground.phase }, { on := 14, ground := Go.Ground.phase }, { on := 15, ground := Go.Ground.phase }], guard := none }) (v := ?_) rfl (by kernel_rfl) (by kernel_rfl) (by kernel_rfl) (fun _ _ _ h => h) (Or.inl ⟨by rfl, ?_⟩) (by assumption) ?_
      rotate_left 1
      focus ((intro wS hSw; (try dsimp only at hSw); go_simp) <;> (try with_reducible rfl))
      simp only [Act.put, List.setIfInBounds_toArray, List.set_cons_zero, List.set_cons_succ]
      refine wpAnyH_take (i := 17) (oi := { dst := some 37, op := Go.Op.fieldAddr 39 (Go.Operand.tmp 36) 0, type := 0, pos := "ref.go:57", after := #[{ on := 16, ground := Go.Ground.data }, { on := 0, ground := Go.Ground.phase }, { on := 1, ground := Go.Ground.phase }, { on := 2, ground := Go.Ground.phase }, { on := 3, ground := Go.Ground.phase }, { on := 4, ground := Go.Ground.phase }, { on := 5, ground := Go.Ground.phase }, { on := 6, ground := Go.Ground.phase }, { on := 7, ground := Go.Ground.phase }, { on := 8, ground := Go.Ground.phase }, { on := 9, ground := Go.Ground.phase }, { on := 10, ground := Go.Ground.phase }, { on := 11, ground := Go.Ground.phase }, { on := 12, ground := Go.Ground.phase }, { on := 13, ground := Go.Ground.phase }, { on := 14, ground := Go.Ground.phase }, { on := 15, ground := Go.Ground.phase }], guard := none }) (v := ?_) rfl (by kernel_rfl) (by kernel_rfl) (by kernel_rfl) (fun _ _ _ h => h) (Or.inl ⟨by rfl, ?_⟩) (by assumption) ?_
      rotate_left 1
      focus ((intro wS hSw; (try dsimp only at hSw); go_simp) <;> (try with_reducible rfl))
      simp only [Act.put, List.setIfInBounds_toArray, List.set_cons_zero, List.set_cons_succ]
      refine wpAnyH_ready (rs := [18]) (by kernel_rfl) (by simp) ?_
      refine AllReadyH.cons (o := { dst := none, op := Go.Op.store 22 (Go.Operand.tmp 37) (Go.Operand.tmp 35), type := 0, pos := "ref.go:57", after := #[{ on := 17, ground := Go.Ground.data }, { on := 15, ground := Go.Ground.data }, { on := 15, ground := Go.Ground.chain }, { on := 0, ground := Go.Ground.phase }, { on := 1, ground := Go.Ground.phase }, { on := 2, ground := Go.Ground.phase }, { on := 3, ground := Go.Ground.phase }, { on := 4, ground := Go.Ground.phase }, { on := 5, ground := Go.Ground.phase }, { on := 6, ground := Go.Ground.phase }, { on := 7, ground := Go.Ground.phase }, { on := 8, ground := Go.Ground.phase }, { on := 9, ground := Go.Ground.phase }, { on := 10, ground := Go.Ground.phase }, { on := 11, ground := Go.Ground.phase }, { on := 12, ground := Go.Ground.phase }, { on := 13, ground := Go.Ground.phase }, { on := 14, ground := Go.Ground.phase }, { on := 15, ground := Go.Ground.phase }], guard := none }) rfl (fun K hK => ?_) AllReadyH.nil
      refine step_store_one rfl 22 (.tmp 37) (.tmp 35) rfl g 0 rfl (.slice va (n + 1) vc) rfl rfl S22.out 39 [.slice a n cap] (GB.out _ D68.out) (by simp) ?_
      intro z69 o69 t69
      have RES : Hid (AddP w g ys ⟨⟨⟨k, p, m, t, (L : Int)⟩, d⟩, x, xc⟩ (.returned (.int .i64 0)) z69) := FIN.out va vc xb xcb _ _ D68.out O68.out B68.out o69 t69
      have ks69 : (fun w' : World => w'.cell? ⟨w.heap.size, 0, none⟩ = some (.int .i64 k) ∧ w'.cell? ⟨w.heap.size, 1, none⟩ = some (.string p) ∧ w'.cell? ⟨w.heap.size, 2, none⟩ = some (.int .i64 m) ∧ w'.cell? ⟨w.heap.size, 3, none⟩ = some (.string t) ∧ w'.cell? ⟨w.heap.size, 4, none⟩ = some (.int .i64 (L : Int)) ∧ w'.cell? ⟨w.heap.size, 5, none⟩ = some (.slice x L xc)) z69 := KT.out _ _ D68.out t69
      clear o69 t69
      refine hK.out _ _ (ks69) (fun hHeld => ?_)
      clear hK K
      (try simp only [Act.put])
      refine wpAnyH_done (by kernel_rfl) ?_ _
      go_wp2_with fail
      go_ret
      exact RES.out
    
end Go.Proofs.YtinmkgpmoclcoaaDoor.Reb
