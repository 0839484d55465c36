/- FitRMg -/
import Derived.Test.YtbbaleambgaanaaGreatDoorQ32
import Derived.Test.YtbbaleambgaanaaGreatDoorQ41
import Derived.Test.YtbbaleambgaanaaGreatDoorQ25
import Derived.Deep.CutRange
import Derived.BigQuiet
import Derived.Test.YtbbaleambgaanaaGreatDoorQ11
namespace Go.Proofs.YtbbaleambgaanaaGreatDoor.Fit
open Go.RowKit Pxr Pnm
theorem foldN_succ {rs : List Rec} {j : Nat} {r : Rec} (e0 : Ent) (h : rs[j]? = some r) : (rs.take (j + 1)).foldl setN e0 = setN ((rs.take j).foldl setN e0) r := by
  obtain ⟨hj, rfl⟩ := List.getElem?_eq_some_iff.1 h
  rw [List.take_succ_eq_append_getElem hj, List.foldl_append]; rfl
theorem num_succ {rs : List Rec} {j : Nat} {r : Rec} (h : rs[j]? = some r) (h1 : allNum (rs.take j)) (h2 : r.1 = kSize → numOk r.2) : allNum (rs.take (j + 1)) := by
  obtain ⟨hj, rfl⟩ := List.getElem?_eq_some_iff.1 h
  rw [List.take_succ_eq_append_getElem hj]
  intro q hq
  rw [List.mem_append, List.mem_singleton] at hq
  rcases hq with hq | rfl
  · exact h1 q hq
  · exact h2
theorem rn_ok {v : ByteArray} (h : numOk v) : rnV 1099511627776 (numsOf v) = decV (numsOf v) ∧ rnE 1099511627776 (numsOf v) = 0 := by
  unfold rnV rnE
  obtain ⟨a, b⟩ := h
  rw [a, if_neg (by decide), if_neg (by omega), if_neg (by decide), if_neg (by omega)]
  exact ⟨rfl, rfl⟩
theorem rn_bad {v : ByteArray} (h : ¬ numOk v) : rnE 1099511627776 (numsOf v) ≠ 0 := by
  unfold rnE
  by_cases a : decOk (numsOf v) = false
  · rw [if_pos a]; decide
  · rw [if_neg a]
    by_cases b : (1099511627776 : Int) < decV (numsOf v)
    · rw [if_pos b]; decide
    · exact absurd ⟨by simpa using a, by omega⟩ h
theorem setN_link (e : Ent) (v : ByteArray) : setN e (kLink, v) = { e with t := v } := by unfold setN; rw [if_pos rfl]
theorem setN_path (e : Ent) (v : ByteArray) : setN e (kPath, v) = { e with p := v } := by unfold setN; rw [if_neg (show ¬ kPath = kLink by decide), if_pos rfl]
theorem setN_size (e : Ent) (v : ByteArray) : setN e (kSize, v) = { e with s := (decV (numsOf v) : Int) } := by unfold setN; rw [if_neg (show ¬ kSize = kLink by decide), if_neg (show ¬ kSize = kPath by decide), if_pos rfl]
theorem setN_no (e : Ent) {k : ByteArray} (v : ByteArray) (h0 : ¬ k = kLink) (h1 : ¬ k = kPath) (h2 : ¬ k = kSize) : setN e (k, v) = e := by unfold setN; rw [if_neg h0, if_neg h1, if_neg h2]
def RmRel (n : Nat) (rs : List Rec) (e0 : Ent) (g q : Nat) (H : Hd) (w : World) (i : Value) (wy : World) : Prop :=
  ∃ (j : Nat) (x : Ent), i = .int .i64 j ∧ j ≤ n ∧ x = (rs.take j).foldl setN e0 ∧ allNum (rs.take j) ∧ ObjAt wy g 23 (enV x.k x.p x.m x.t x.s) ∧ ObjAt wy w.heap.size 67 (Ust.hdV H.T H.nm H.pf H.lk H.md H.sz) ∧ ObjAt wy q 23 (enV 0 emp 0 emp 0) ∧ Below w.heap.size w wy
theorem tys_u4 (j : Nat) (h : j < 4) : (u4 53 48 50 49)[j]? = some (.int .u8 (tyZ j)) := by
  rcases (show j = 0 ∨ j = 1 ∨ j = 2 ∨ j = 3 by omega) with rfl | rfl | rfl | rfl <;> rfl
set_option maxHeartbeats 32000000 in
set_option maxRecDepth 100000 in
theorem rmerge_any (T : Int) (nm pf lk : ByteArray) (md sz : Int) (a : Option Addr) (n c : Nat) (rs : List Rec) (w : World) (hnm : nm.size ≤ 1000000) (hpf : pf.size ≤ 1000000) (hlk : lk.size ≤ 281474976710656)
    (hv : ∀ r ∈ rs, r.2.size ≤ 281474976710656) (hn : rs.length = n) (hR : RecsIn w a rs) (hN : n ≤ 1000000) :
    Calls Tryz.prog 42 #[.agg (Ust.hdV T nm pf lk md sz).toArray, .slice a n c] w (RetM ⟨T, nm, pf, lk, md, sz⟩ rs w) := by
  have HO := Lib.hid hdTr; have EO := Lib.hid enT
  have HZ := Lib.hid zHr; have EZ := Lib.hid zEn
  have S1 := Lib.hid sStr; have S6 := Lib.hid sI64; have S3 := Lib.hid sInt
  have HUB := Lib.hid Tryz.underlying24
  have HJB := Lib.hid u8J
  obtain ⟨PJ, hP⟩ := named (strOfNums (joinZ (numsOf pf) (numsOf nm)))
  have C2 : Hid (∀ w', Calls Tryz.prog 86 #[.string pf, .string nm] w' fun e w'' => e = .returned (.string PJ) ∧ Below w'.heap.size w' w'') := fun w' => (Pnm.rjoin_any pf nm w' hpf hnm).mono fun e w'' ⟨h1, h2⟩ => ⟨by rw [h1, hP.out], h2 ▸ Below.refl _ _⟩
  have E0 : Hid (cmp0 ⟨T, nm, pf, lk, md, sz⟩ = ⟨kdZ T, PJ, md, lk, sz⟩) := by show _ = _; rw [hP.out]; rfl
  have SZ := Lib.hid (cmp_sizes (H := ⟨T, nm, pf, lk, md, sz⟩) hnm hpf hlk hv)
  obtain ⟨FE, hFE⟩ := named (if rs = [] then (6 : Int) else 17)
  have HS := Lib.hid hv; have HN := Lib.hid hn; have HR := Lib.hid hR; have HNN := Lib.hid hN
  have FE0 : Hid (n = 0 → FE = 6) := fun h => by rw [hFE.out, if_pos (List.length_eq_zero_iff.1 (by omega))]
  have FE1 : Hid (0 < n → FE = 17) := fun h => by rw [hFE.out, if_neg (by rintro rfl; simp at hn; omega)]
  have gH : Tryz.prog.eqGuardType Tryz.prog.depth 67 = false := by kernel_rfl
  clear hnm hpf hlk hv hn hR hP
  go_enter Tryz.func42, Tryz.ntmps42
  go_upto_if 18 with (first | (refine wpList_box_obj rfl 67 _ rfl (Ust.hdV T nm pf lk md sz) rfl ?_; intro w1 g1 b1; have H1 := Lib.hid g1; have B1 := Lib.hid b1; clear g1 b1) | (refine wpList_alloc_obj rfl 23 rfl (enV 0 emp 0 emp 0) EZ.out ?_; intro w2 g2 b2; have Q2 := Lib.hid g2; have H2 := Lib.hid (H1.out.below b2 H1.out.lt); have B2 := Lib.hid (belT B1.out b2); clear g2 b2))
  (try simp only [Act.put, List.setIfInBounds_toArray, List.set_cons_zero, List.set_cons_succ])
  go_cut [6] from 16 to 18 (fun s6 wx => s6 = .int .i64 FE ∧ wx = w2)
  case first =>
    by_cases h0 : 0 < n
    · have h0' : (0 : Int) < n := by omega
      have e := FE1.out h0
      clear h0
      go_wp2_with fail
      go_meet
      exact ⟨by rw [e], rfl⟩
    · have h0' : ¬ (0 : Int) < n := by omega
      have e := FE0.out (by omega)
      clear h0
      go_wp2_with fail
      go_meet
      exact ⟨by rw [e], rfl⟩
  case rest =>
  obtain ⟨rfl, hwc⟩ := hcut
  have H3 : Hid (ObjAt wc w.heap.size 67 (Ust.hdV T nm pf lk md sz)) := hwc ▸ H2.out
  have Q3 : Hid (ObjAt wc w1.heap.size 23 (enV 0 emp 0 emp 0)) := hwc ▸ Q2.out
  have B3 : Hid (Below w.heap.size w wc) := hwc ▸ B2.out
  have LW : Hid (w.heap.size ≤ w1.heap.size) := B1.out.size
  have LHQ : Hid (w.heap.size < w1.heap.size) := H1.out.lt
  have HFE := hFE
  clear hwc FE0 FE1 H2 Q2 B2 hFE
  go_upto_region 4 with fail
  have KS : Hid (∀ w', Below wc.heap.size wc w' → (fun w' : World => w'.cell? ⟨w.heap.size, 1, none⟩ = some (.string nm) ∧ w'.cell? ⟨w.heap.size, 2, none⟩ = some (.string pf) ∧ w'.cell? ⟨w.heap.size, 3, none⟩ = some (.string lk) ∧ w'.cell? ⟨w.heap.size, 4, none⟩ = some (.int .i64 md) ∧ w'.cell? ⟨w.heap.size, 5, none⟩ = some (.int .i64 sz)) w') := fun w' hb => ⟨(H3.out.below hb H3.out.lt).get 1 rfl, (H3.out.below hb H3.out.lt).get 2 rfl, (H3.out.below hb H3.out.lt).get 3 rfl, (H3.out.below hb H3.out.lt).get 4 rfl, (H3.out.below hb H3.out.lt).get 5 rfl⟩
  have D2 : Hid (Below wc.heap.size wc wc.drew) := (Below.refl _ _).drew
  (try simp only [Act.put, List.setIfInBounds_toArray, List.set_cons_zero, List.set_cons_succ])
  go_cut [7] from 19 to 30 (fun s7 wx => ∃ g : Nat, s7 = .pointer (some ⟨g, 0, none⟩) ∧ ObjAt wx g 23 (enV (-1) PJ md lk sz) ∧ Below wc.heap.size wc wx ∧ wc.heap.size ≤ g)
  case first =>
    refine wp_region_held_drew (S := (fun w' : World => w'.cell? ⟨w.heap.size, 1, none⟩ = some (.string nm) ∧ w'.cell? ⟨w.heap.size, 2, none⟩ = some (.string pf) ∧ w'.cell? ⟨w.heap.size, 3, none⟩ = some (.string lk) ∧ w'.cell? ⟨w.heap.size, 4, none⟩ = some (.int .i64 md) ∧ w'.cell? ⟨w.heap.size, 5, none⟩ = some (.int .i64 sz))) (by kernel_rfl) (KS.out _ D2.out) (fun hHeld => ?_)
    refine tk 0 { dst := some 19, op := Go.Op.fieldAddr 67 (Go.Operand.tmp 2) 2, type := 0, pos := "ref.go:111", after := #[], guard := none } ?_ ?_ ?_
    rotate_left 1
    focus ((intro wS hSw; (try dsimp only at hSw); go_simp) <;> (try with_reducible rfl))
    simp only [Act.put, List.setIfInBounds_toArray, List.set_cons_zero, List.set_cons_succ]
    refine tk 1 { dst := some 20, op := Go.Op.load 9 (Go.Operand.tmp 19), type := 9, pos := "ref.go:111", after := #[{ on := 0, ground := Go.Ground.data }], guard := none } ?_ ?_ ?_
    rotate_left 1
    focus ((intro wS hSw; (try dsimp only at hSw); go_simp) <;> (try with_reducible rfl))
    simp only [Act.put, List.setIfInBounds_toArray, List.set_cons_zero, List.set_cons_succ]
    refine tk 2 { dst := some 21, op := Go.Op.fieldAddr 67 (Go.Operand.tmp 2) 1, type := 0, pos := "ref.go:111", after := #[], guard := none } ?_ ?_ ?_
    rotate_left 1
    focus ((intro wS hSw; (try dsimp only at hSw); go_simp) <;> (try with_reducible rfl))
    simp only [Act.put, List.setIfInBounds_toArray, List.set_cons_zero, List.set_cons_succ]
    refine tk 3 { dst := some 22, op := Go.Op.load 9 (Go.Operand.tmp 21), type := 9, pos := "ref.go:111", after := #[{ on := 2, ground := Go.Ground.data }], guard := none } ?_ ?_ ?_
    rotate_left 1
    focus ((intro wS hSw; (try dsimp only at hSw); go_simp) <;> (try with_reducible rfl))
    simp only [Act.put, List.setIfInBounds_toArray, List.set_cons_zero, List.set_cons_succ]
    refine tk 5 { dst := some 24, op := Go.Op.fieldAddr 67 (Go.Operand.tmp 2) 4, type := 0, pos := "ref.go:111", after := #[], guard := none } ?_ ?_ ?_
    rotate_left 1
    focus ((intro wS hSw; (try dsimp only at hSw); go_simp) <;> (try with_reducible rfl))
    simp only [Act.put, List.setIfInBounds_toArray, List.set_cons_zero, List.set_cons_succ]
    refine tk 6 { dst := some 25, op := Go.Op.load 3 (Go.Operand.tmp 24), type := 3, pos := "ref.go:111", after := #[{ on := 5, ground := Go.Ground.data }], guard := none } ?_ ?_ ?_
    rotate_left 1
    focus ((intro wS hSw; (try dsimp only at hSw); go_simp) <;> (try with_reducible rfl))
    simp only [Act.put, List.setIfInBounds_toArray, List.set_cons_zero, List.set_cons_succ]
    refine tk 7 { dst := some 26, op := Go.Op.fieldAddr 67 (Go.Operand.tmp 2) 3, type := 0, pos := "ref.go:111", after := #[], guard := none } ?_ ?_ ?_
    rotate_left 1
    focus ((intro wS hSw; (try dsimp only at hSw); go_simp) <;> (try with_reducible rfl))
    simp only [Act.put, List.setIfInBounds_toArray, List.set_cons_zero, List.set_cons_succ]
    refine tk 8 { dst := some 27, op := Go.Op.load 9 (Go.Operand.tmp 26), type := 9, pos := "ref.go:111", after := #[{ on := 7, ground := Go.Ground.data }], guard := none } ?_ ?_ ?_
    rotate_left 1
    focus ((intro wS hSw; (try dsimp only at hSw); go_simp) <;> (try with_reducible rfl))
    simp only [Act.put, List.setIfInBounds_toArray, List.set_cons_zero, List.set_cons_succ]
    refine tk 9 { dst := some 28, op := Go.Op.fieldAddr 67 (Go.Operand.tmp 2) 5, type := 0, pos := "ref.go:111", after := #[], guard := none } ?_ ?_ ?_
    rotate_left 1
    focus ((intro wS hSw; (try dsimp only at hSw); go_simp) <;> (try with_reducible rfl))
    simp only [Act.put, List.setIfInBounds_toArray, List.set_cons_zero, List.set_cons_succ]
    refine tk 10 { dst := some 29, op := Go.Op.load 2 (Go.Operand.tmp 28), type := 2, pos := "ref.go:111", after := #[{ on := 9, ground := Go.Ground.data }], guard := none } ?_ ?_ ?_
    rotate_left 1
    focus ((intro wS hSw; (try dsimp only at hSw); go_simp) <;> (try with_reducible rfl))
    simp only [Act.put, List.setIfInBounds_toArray, List.set_cons_zero, List.set_cons_succ]
    refine wpAnyH_ready (rs := [4, 12]) (by kernel_rfl) (by simp) ?_
    refine AllReadyH.cons (o := { dst := some 23, op := Go.Op.call { callee := Go.Callee.value (Go.Operand.func 86), args := #[Go.Operand.tmp 20, Go.Operand.tmp 22], argTypes := #[9, 9] }, type := 9, pos := "ref.go:111", after := #[{ on := 1, ground := Go.Ground.data }, { on := 3, ground := Go.Ground.data }], guard := none }) rfl (fun K hK => ?_) (AllReadyH.cons (o := { dst := some 7, op := Go.Op.alloc 23, type := 0, pos := "ref.go:111", after := #[], guard := none }) rfl (fun K hK => ?_) AllReadyH.nil)
    · go_simp
      refine (C2.out _).mono ?_; rintro e w11 ⟨rfl, b11⟩
      have D11 : Hid (Below wc.heap.size wc w11) := D2.out.trans (b11.mono D2.out.size)
      clear b11
      go_wp2_with fail
      refine hK.out _ _ (KS.out _ D11.out) (fun hHeld => ?_)
      clear hK K
      (try simp only [Act.put, List.setIfInBounds_toArray, List.set_cons_zero, List.set_cons_succ])
      refine tk 11 { dst := some 30, op := Go.Op.build 23 #[(0, Go.Operand.const (Go.Value.int Go.IntKind.i64 (-1))), (1, Go.Operand.tmp 23), (2, Go.Operand.tmp 25), (3, Go.Operand.tmp 27), (4, Go.Operand.tmp 29)], type := 23, pos := "ref.go:111", after := #[{ on := 4, ground := Go.Ground.data }, { on := 6, ground := Go.Ground.data }, { on := 8, ground := Go.Ground.data }, { on := 10, ground := Go.Ground.data }], guard := none } ?_ ?_ ?_
      rotate_left 1
      focus ((intro wS hSw; (try dsimp only at hSw); go_simp) <;> (try with_reducible rfl))
      simp only [Act.put, List.setIfInBounds_toArray, List.set_cons_zero, List.set_cons_succ]
      refine wpAnyH_ready (rs := [12]) (by kernel_rfl) (by simp) ?_
      refine AllReadyH.cons (o := { dst := some 7, op := Go.Op.alloc 23, type := 0, pos := "ref.go:111", after := #[], guard := none }) rfl (fun K hK => ?_) AllReadyH.nil
      · refine step_alloc_obj rfl 23 rfl (enV 0 emp 0 emp 0) EZ.out ?_
        intro w12 g12 b12
        have X12 : Hid (ObjAt w12 w11.heap.size 23 (enV 0 emp 0 emp 0)) := g12
        have D12 : Hid (Below wc.heap.size wc w12) := D11.out.trans (b12.mono D11.out.size)
        clear g12 b12
        refine hK.out _ _ (KS.out _ D12.out) (fun hHeld => ?_)
        clear hK K
        (try simp only [Act.put, List.setIfInBounds_toArray, List.set_cons_zero, List.set_cons_succ])
        refine wpAnyH_ready (rs := [13]) (by kernel_rfl) (by simp) ?_
        refine AllReadyH.cons (o := { dst := none, op := Go.Op.store 23 (Go.Operand.tmp 7) (Go.Operand.tmp 30), type := 0, pos := "ref.go:111", after := #[{ on := 12, ground := Go.Ground.data }, { on := 11, ground := Go.Ground.data }, { on := 4, ground := Go.Ground.chain }, { on := 0, ground := Go.Ground.phase }, { on := 1, ground := Go.Ground.phase }, { on := 2, ground := Go.Ground.phase }, { on := 3, ground := Go.Ground.phase }, { on := 4, ground := Go.Ground.phase }, { on := 5, ground := Go.Ground.phase }, { on := 6, ground := Go.Ground.phase }, { on := 7, ground := Go.Ground.phase }, { on := 8, ground := Go.Ground.phase }, { on := 9, ground := Go.Ground.phase }, { on := 10, ground := Go.Ground.phase }, { on := 11, ground := Go.Ground.phase }, { on := 12, ground := Go.Ground.phase }], guard := none }) rfl (fun K hK => ?_) AllReadyH.nil
        refine step_store_obj rfl 23 (.tmp 7) (.tmp 30) rfl w11.heap.size rfl (enV (-1) PJ md lk sz) (enV 0 emp 0 emp 0) rfl 23 X12.out EO.out.2 rfl (en_one _ _ _ _ _) ?_
        intro w13 g13 t13
        have X13 : Hid (ObjAt w13 w11.heap.size 23 (enV (-1) PJ md lk sz)) := g13
        have D13 : Hid (Below wc.heap.size wc w13) := D12.out.trans (t13.below (D11.out.size))
        clear g13 t13
        refine hK.out _ _ (KS.out _ D13.out) (fun hHeld => ?_)
        clear hK K
        (try simp only [Act.put])
        refine wpAnyH_done (by kernel_rfl) ?_ _
        go_wp2_with fail
        go_meet
        exact ⟨_, rfl, X13.out, D13.out, D11.out.size⟩
      
    · refine step_alloc_obj rfl 23 rfl (enV 0 emp 0 emp 0) EZ.out ?_
      intro w11 g11 b11
      have X11 : Hid (ObjAt w11 wc.heap.size 23 (enV 0 emp 0 emp 0)) := g11
      have D11 : Hid (Below wc.heap.size wc w11) := D2.out.trans (b11.mono D2.out.size)
      clear g11 b11
      refine hK.out _ _ (KS.out _ D11.out) (fun hHeld => ?_)
      clear hK K
      (try simp only [Act.put, List.setIfInBounds_toArray, List.set_cons_zero, List.set_cons_succ])
      refine wpAnyH_ready (rs := [4]) (by kernel_rfl) (by simp) ?_
      refine AllReadyH.cons (o := { dst := some 23, op := Go.Op.call { callee := Go.Callee.value (Go.Operand.func 86), args := #[Go.Operand.tmp 20, Go.Operand.tmp 22], argTypes := #[9, 9] }, type := 9, pos := "ref.go:111", after := #[{ on := 1, ground := Go.Ground.data }, { on := 3, ground := Go.Ground.data }], guard := none }) rfl (fun K hK => ?_) AllReadyH.nil
      · go_simp
        refine (C2.out _).mono ?_; rintro e w12 ⟨rfl, b12⟩
        have D12 : Hid (Below wc.heap.size wc w12) := D11.out.trans (b12.mono D11.out.size)
        have X12 : Hid (ObjAt w12 wc.heap.size 23 (enV 0 emp 0 emp 0)) := X11.out.below b12 X11.out.lt
        clear b12
        go_wp2_with fail
        refine hK.out _ _ (KS.out _ D12.out) (fun hHeld => ?_)
        clear hK K
        (try simp only [Act.put, List.setIfInBounds_toArray, List.set_cons_zero, List.set_cons_succ])
        refine tk 11 { dst := some 30, op := Go.Op.build 23 #[(0, Go.Operand.const (Go.Value.int Go.IntKind.i64 (-1))), (1, Go.Operand.tmp 23), (2, Go.Operand.tmp 25), (3, Go.Operand.tmp 27), (4, Go.Operand.tmp 29)], type := 23, pos := "ref.go:111", after := #[{ on := 4, ground := Go.Ground.data }, { on := 6, ground := Go.Ground.data }, { on := 8, ground := Go.Ground.data }, { on := 10, ground := Go.Ground.data }], guard := none } ?_ ?_ ?_
        rotate_left 1
        focus ((intro wS hSw; (try dsimp only at hSw); go_simp) <;> (try with_reducible rfl))
        simp only [Act.put, List.setIfInBounds_toArray, List.set_cons_zero, List.set_cons_succ]
        refine wpAnyH_ready (rs := [13]) (by kernel_rfl) (by simp) ?_
        refine AllReadyH.cons (o := { dst := none, op := Go.Op.store 23 (Go.Operand.tmp 7) (Go.Operand.tmp 30), type := 0, pos := "ref.go:111", after := #[{ on := 12, ground := Go.Ground.data }, { on := 11, ground := Go.Ground.data }, { on := 4, ground := Go.Ground.chain }, { on := 0, ground := Go.Ground.phase }, { on := 1, ground := Go.Ground.phase }, { on := 2, ground := Go.Ground.phase }, { on := 3, ground := Go.Ground.phase }, { on := 4, ground := Go.Ground.phase }, { on := 5, ground := Go.Ground.phase }, { on := 6, ground := Go.Ground.phase }, { on := 7, ground := Go.Ground.phase }, { on := 8, ground := Go.Ground.phase }, { on := 9, ground := Go.Ground.phase }, { on := 10, ground := Go.Ground.phase }, { on := 11, ground := Go.Ground.phase }, { on := 12, ground := Go.Ground.phase }], guard := none }) rfl (fun K hK => ?_) AllReadyH.nil
        refine step_store_obj rfl 23 (.tmp 7) (.tmp 30) rfl wc.heap.size rfl (enV (-1) PJ md lk sz) (enV 0 emp 0 emp 0) rfl 23 X12.out EO.out.2 rfl (en_one _ _ _ _ _) ?_
        intro w13 g13 t13
        have X13 : Hid (ObjAt w13 wc.heap.size 23 (enV (-1) PJ md lk sz)) := g13
        have D13 : Hid (Below wc.heap.size wc w13) := D12.out.trans (t13.below (Nat.le_refl _))
        clear g13 t13
        refine hK.out _ _ (KS.out _ D13.out) (fun hHeld => ?_)
        clear hK K
        (try simp only [Act.put])
        refine wpAnyH_done (by kernel_rfl) ?_ _
        go_wp2_with fail
        go_meet
        exact ⟨_, rfl, X13.out, D13.out, Nat.le_refl _⟩
      
  case rest =>
  obtain ⟨g, rfl, hx, hb, hg⟩ := hcut
  have X4 := Lib.hid hx
  have H4 := Lib.hid (H3.out.below hb H3.out.lt)
  have Q4 := Lib.hid (Q3.out.below hb Q3.out.lt)
  have B4 := Lib.hid (belT B3.out hb)
  have LG : Hid (w1.heap.size < g) := Nat.lt_of_lt_of_le Q3.out.lt hg
  have LX : Hid (g < wc.heap.size) := hx.lt
  clear hx hb hg KS D2 C2 H3 Q3 B3
  go_wp2_with (first | (refine wpList_lit_u8_4 rfl 24 5 (.const (.int .u8 53)) (.const (.int .u8 48)) (.const (.int .u8 50)) (.const (.int .u8 49)) rfl HUB.out HJB.out 53 48 50 49 rfl rfl rfl rfl ?_; intro w5 g5 b5; have U5 := Lib.hid g5; have X5 := Lib.hid (X4.out.below b5 X4.out.lt); have H5 := Lib.hid (H4.out.below b5 H4.out.lt); have Q5 := Lib.hid (Q4.out.below b5 Q4.out.lt); have B5 := Lib.hid (belT B4.out b5); clear g5 b5))
  go_loopw [9] (fun i wr => ∃ (j : Nat) (kq : Int), i = .int .i64 j ∧ j ≤ 4 ∧ ((kq = -1 ∧ ∀ q : Nat, q < j → tyZ q ≠ T) ∨ kq = kdZ T) ∧ ObjAt wr g 23 (enV kq PJ md lk sz) ∧ ObjAt wr wc.heap.size 5 (u4 53 48 50 49) ∧ ObjAt wr w.heap.size 67 (Ust.hdV T nm pf lk md sz) ∧ ObjAt wr w1.heap.size 23 (enV 0 emp 0 emp 0) ∧ Below w.heap.size w wr) (fun i _ => 4 - (intOf i).toNat)
  case atStart => exact ⟨0, -1, rfl, by decide, .inl ⟨rfl, fun q hq => by omega⟩, X5.out, U5.out, H5.out, Q5.out, B5.out⟩
  case round =>
    obtain ⟨j, kq, rfl, hj, hk, hX, hU, hH, hQ, hB⟩ := hrel
    have HK := Lib.hid hk; have XR := Lib.hid hX; have UR := Lib.hid hU; have HRr := Lib.hid hH; have QR := Lib.hid hQ; have BR := Lib.hid hB
    clear hk hX hU hH hQ hB
    by_cases hlt : j < 4
    · obtain ⟨z, hz⟩ := named (tyZ j)
      have u0 : wr.cell? ⟨wc.heap.size, j, none⟩ = some (.int .u8 z) := by rw [hz.out]; exact UR.out.get j (tys_u4 j hlt)
      have h0 := HRr.out.get 0 rfl
      have j1 : (j : Int) < 4 := by omega
      by_cases he : z = T
      · have HZ1 : Hid (tyZ j = T) := by show _ = _; rw [← hz.out]; exact he
        subst he
        have HKJ : Hid ((j : Int) = kdZ z) := (kd_hit hlt HZ1.out).symm
        have XD : Hid (∀ q, ObjAt (wr.drewN q) g 23 (enV kq PJ md lk sz)) := fun _ => XR.out
        have UD : Hid (∀ q, ObjAt (wr.drewN q) wc.heap.size 5 (u4 53 48 50 49)) := fun _ => UR.out
        have HD : Hid (∀ q, ObjAt (wr.drewN q) w.heap.size 67 (Ust.hdV z nm pf lk md sz)) := fun _ => HRr.out
        have QD : Hid (∀ q, ObjAt (wr.drewN q) w1.heap.size 23 (enV 0 emp 0 emp 0)) := fun _ => QR.out
        clear hz hlt
        go_wp2_with fail
        go_quiet (fail)
        go_wp2_with (first | (refine wpList_store_cell rfl 3 _ _ rfl g 0 rfl (.int .i64 (j : Int)) rfl rfl S3.out 23 _ (XD.out _) (by show 0 < 5; decide) ?_; intro w6 g6 t6; have X6 := Lib.hid g6; have U6 := Lib.hid ((UD.out _).turnB t6 (Nat.ne_of_gt LX.out)); have H6 := Lib.hid ((HD.out _).turnB t6 (Nat.ne_of_lt (Nat.lt_trans LHQ.out LG.out))); have Q6 := Lib.hid ((QD.out _).turnB t6 (Nat.ne_of_lt LG.out)); have B6 := Lib.hid ((BR.out.trans (drewN_below _ _ _)).trans (t6.below (Nat.le_trans LW.out (Nat.le_of_lt LG.out)))); clear g6 t6))
        go_roundw
        case rel => exact ⟨j + 1, (j : Int), by go_num, by omega, .inr HKJ.out, X6.out, U6.out, H6.out, Q6.out, B6.out⟩
        case measure => simp [intOf]; omega
      · have n1 : (z == T) = false := by simpa using he
        have HNE : Hid (tyZ j ≠ T) := by show _ ≠ _; rw [← hz.out]; exact he
        clear hz he
        go_wp2_with fail
        go_quiet (fail)
        go_wp2
        go_roundw
        case rel => exact ⟨j + 1, kq, by go_num, by omega, by
          rcases HK.out with ⟨h1, h2⟩ | h1
          · exact .inl ⟨h1, fun q hq => by
              by_cases h' : q < j
              · exact h2 q h'
              · obtain rfl : q = j := by omega
                exact HNE.out⟩
          · exact .inr h1, XR.out, UR.out, HRr.out, QR.out, BR.out.trans (drewN_below _ _ _)⟩
        case measure => simp [intOf]; omega
    · obtain rfl : j = 4 := by omega
      have hkq : kq = kdZ T := by
        rcases HK.out with ⟨h1, h2⟩ | h1
        · rw [h1, kd_miss h2]
        · exact h1
      have HKQ := Lib.hid hkq
      clear hkq HK hlt U5 X5 H5 Q5 B5 UR hj
      go_wp2_with fail
      go_loopw [10] (fun i wy => RmRel n rs ⟨kdZ T, PJ, md, lk, sz⟩ g w1.heap.size ⟨T, nm, pf, lk, md, sz⟩ w i wy) (fun i _ => n - (intOf i).toNat)
      case atStart => exact ⟨0, ⟨kdZ T, PJ, md, lk, sz⟩, rfl, Nat.zero_le _, rfl, fun r hr => by simp at hr, by rw [← HKQ.out]; exact XR.out, HRr.out, QR.out, BR.out⟩
      case round =>
        obtain ⟨j, x, rfl, hj, hx, hnu, hX, hH, hQ, hB⟩ := hrel
        have HX := Lib.hid hx; have HNU := Lib.hid hnu; have X2 := Lib.hid hX; have H2 := Lib.hid hH; have Q2 := Lib.hid hQ; have B2 := Lib.hid hB
        obtain ⟨xk, xp, xm, xt, xs⟩ := x
        clear hx hnu hX hH hQ hB
        by_cases hjn : j < n
        · obtain ⟨r, hr⟩ := get_some (show j < rs.length by rw [HN.out]; exact hjn)
          obtain ⟨Ke, Va⟩ := r
          have HVa : Hid (Va.size ≤ 281474976710656) := HS.out _ (List.mem_of_getElem? hr)
          have FS := Lib.hid (foldN_succ ⟨kdZ T, PJ, md, lk, sz⟩ hr)
          have HRJ := Lib.hid hr
          obtain ⟨b1, o1, hbe, _, c0', c1'⟩ := (HR.out.below B2.out).get j _ hr
          have j1 : (j : Int) < n := by omega
          have c0 : wr.cell? ⟨b1, o1 + j * 2, none⟩ = some (.string Ke) := c0'
          have c1 : wr.cell? ⟨b1, o1 + j * 2 + 1, none⟩ = some (.string Va) := c1'
          obtain ⟨t0, t1, t2⟩ := key_tests Ke _ _ _ rfl rfl rfl
          clear c0' c1' hr hjn
          subst hbe
          by_cases k0 : Ke = kLink
          · have HKe := Lib.hid k0
            rw [decide_eq_true k0] at t0
            clear k0 t1 t2
            go_wp2_with (first | (refine wpList_store_cell rfl 9 _ _ rfl g 3 rfl (.string Va) rfl rfl S1.out 23 _ X2.out (by show 3 < 5; decide) ?_; intro w6 g6 t6; have X6 := Lib.hid g6; have H6 := Lib.hid (H2.out.turnB t6 (Nat.ne_of_lt (Nat.lt_trans LHQ.out LG.out))); have Q6 := Lib.hid (Q2.out.turnB t6 (Nat.ne_of_lt LG.out)); have B6 := Lib.hid (B2.out.trans (t6.below (Nat.le_trans LW.out (Nat.le_of_lt LG.out)))); clear g6 t6))
            go_roundw
            case rel => first | exact ⟨j + 1, ⟨xk, xp, xm, Va, xs⟩, by go_num, by omega, by rw [FS.out, ← HX.out, HKe.out, setN_link], num_succ HRJ.out HNU.out (fun h => absurd (HKe.out.symm.trans h) (by decide)), X6.out, H6.out, Q6.out, B6.out⟩ | ((repeat apply Exists.intro); exact ⟨⟨j + 1, ⟨xk, xp, xm, Va, xs⟩, by go_num, by omega, by rw [FS.out, ← HX.out, HKe.out, setN_link], num_succ HRJ.out HNU.out (fun h => absurd (HKe.out.symm.trans h) (by decide)), X6.out, H6.out, Q6.out, B6.out⟩, rfl⟩)
            (try (case measure => simp [intOf]; omega))
          · rw [decide_eq_false k0] at t0
            by_cases k1 : Ke = kPath
            · have HKe := Lib.hid k1
              rw [decide_eq_true k1] at t1
              clear k0 k1 t2
              go_wp2_with (first | (refine wpList_store_cell rfl 9 _ _ rfl g 1 rfl (.string Va) rfl rfl S1.out 23 _ X2.out (by show 1 < 5; decide) ?_; intro w6 g6 t6; have X6 := Lib.hid g6; have H6 := Lib.hid (H2.out.turnB t6 (Nat.ne_of_lt (Nat.lt_trans LHQ.out LG.out))); have Q6 := Lib.hid (Q2.out.turnB t6 (Nat.ne_of_lt LG.out)); have B6 := Lib.hid (B2.out.trans (t6.below (Nat.le_trans LW.out (Nat.le_of_lt LG.out)))); clear g6 t6))
              go_roundw
              case rel => first | exact ⟨j + 1, ⟨xk, Va, xm, xt, xs⟩, by go_num, by omega, by rw [FS.out, ← HX.out, HKe.out, setN_path], num_succ HRJ.out HNU.out (fun h => absurd (HKe.out.symm.trans h) (by decide)), X6.out, H6.out, Q6.out, B6.out⟩ | ((repeat apply Exists.intro); exact ⟨⟨j + 1, ⟨xk, Va, xm, xt, xs⟩, by go_num, by omega, by rw [FS.out, ← HX.out, HKe.out, setN_path], num_succ HRJ.out HNU.out (fun h => absurd (HKe.out.symm.trans h) (by decide)), X6.out, H6.out, Q6.out, B6.out⟩, rfl⟩)
              (try (case measure => simp [intOf]; omega))
            · rw [decide_eq_false k1] at t1
              by_cases k2 : Ke = kSize
              · have HKe := Lib.hid k2
                rw [decide_eq_true k2] at t2
                clear k0 k1 k2
                have NB := Lib.hid fun w' => rnum_any Va 1099511627776 w' (Nat.le_trans HVa.out (by unfold maxLen; decide)) (by decide) (by decide)
                by_cases hnum : numOk Va
                · obtain ⟨q1, q2⟩ := rn_ok hnum
                  rw [q1, q2] at NB
                  obtain ⟨DV, hDV⟩ := named ((decV (numsOf Va) : Nat) : Int)
                  rw [← hDV.out] at NB
                  have HDV := hDV
                  have HNUM := Lib.hid hnum
                  clear q1 q2 hnum hDV
                  go_wp2_with fail
                  refine (NB.out _).mono ?_; rintro e wn ⟨rfl, hwn⟩
                  subst hwn
                  go_wp2_with (first | (refine wpList_store_cell rfl 2 _ _ rfl g 4 rfl (.int .i64 DV) rfl rfl S6.out 23 _ X2.out (by show 4 < 5; decide) ?_; intro w6 g6 t6; have X6 := Lib.hid g6; have H6 := Lib.hid (H2.out.turnB t6 (Nat.ne_of_lt (Nat.lt_trans LHQ.out LG.out))); have Q6 := Lib.hid (Q2.out.turnB t6 (Nat.ne_of_lt LG.out)); have B6 := Lib.hid (B2.out.trans (t6.below (Nat.le_trans LW.out (Nat.le_of_lt LG.out)))); clear g6 t6))
                  go_roundw
                  case rel => first | exact ⟨j + 1, ⟨xk, xp, xm, xt, DV⟩, by go_num, by omega, by rw [FS.out, ← HX.out, HKe.out, setN_size, ← HDV.out], num_succ HRJ.out HNU.out (fun _ => HNUM.out), X6.out, H6.out, Q6.out, B6.out⟩ | ((repeat apply Exists.intro); exact ⟨⟨j + 1, ⟨xk, xp, xm, xt, DV⟩, by go_num, by omega, by rw [FS.out, ← HX.out, HKe.out, setN_size, ← HDV.out], num_succ HRJ.out HNU.out (fun _ => HNUM.out), X6.out, H6.out, Q6.out, B6.out⟩, rfl⟩)
                  (try (case measure => simp [intOf]; omega))
                · have hne := rn_bad hnum
                  obtain ⟨NE, hNE⟩ := named (rnE 1099511627776 (numsOf Va))
                  obtain ⟨NV, hNV⟩ := named (rnV 1099511627776 (numsOf Va))
                  rw [← hNE.out, ← hNV.out] at NB
                  have n2 : (NE != 0) = true := by rw [hNE.out]; simpa using hne
                  have HB : Hid (¬ mgOk ⟨T, nm, pf, lk, md, sz⟩ rs) := fun h => hnum (mg_num h (Ke, Va) (List.mem_of_getElem? HRJ.out) HKe.out)
                  clear hne hNE hNV hnum
                  go_wp2_with fail
                  refine (NB.out _).mono ?_; rintro e wn ⟨rfl, hwn⟩
                  subst hwn
                  go_wp2_with (first | (refine wpList_store_obj rfl 23 _ _ rfl w1.heap.size rfl (enV 0 emp 0 emp 0) (enV 0 emp 0 emp 0) rfl 23 Q2.out EO.out.2 rfl (en_one _ _ _ _ _) ?_; intro y1 gy ty; have QY := Lib.hid gy; have TY := Lib.hid ty; clear gy ty))
                  exact bodyPost_ret (results_obj_tmp Tryz.results42 EO.out _ w1.heap.size rfl _ (enV 0 emp 0 emp 0) QY.out rfl) rfl ⟨⟨0, emp, 0, emp, 0⟩, FE, rfl, .inr ⟨HB.out, rfl, HFE.out⟩, B2.out.trans (TY.out.below LW.out)⟩
              · rw [decide_eq_false k2] at t2
                have K0 := Lib.hid k0; have K1 := Lib.hid k1; have K2 := Lib.hid k2
                clear k0 k1 k2
                go_wp2
                go_roundw
                case rel => exact ⟨j + 1, ⟨xk, xp, xm, xt, xs⟩, by go_num, by omega, by rw [FS.out, ← HX.out, setN_no _ _ K0.out K1.out K2.out], num_succ HRJ.out HNU.out (fun h => absurd h K2.out), X2.out, H2.out, Q2.out, B2.out⟩
                case measure => simp [intOf]; omega
        · obtain rfl : j = n := by omega
          have j1 : ¬ (j : Int) < j := by omega
          have hNU : allNum rs := by have := HNU.out; rwa [List.take_of_length_le (by rw [HN.out]; exact Nat.le_refl _)] at this
          have hfin : (⟨xk, xp, xm, xt, xs⟩ : Ent) = cmpE ⟨T, nm, pf, lk, md, sz⟩ rs := by
            rw [HX.out, List.take_of_length_le (by rw [HN.out]; exact Nat.le_refl _), fold_num _ hNU]; unfold cmpE; rw [E0.out]
          have HF := Lib.hid hfin
          have PS : Hid (xp.size ≤ maxLen ∧ xt.size ≤ maxLen) := by have := SZ.out; rwa [← hfin] at this
          have MG := Lib.hid (mg_iff (H := ⟨T, nm, pf, lk, md, sz⟩) hfin)
          dsimp only at MG
          clear hjn hfin hNU HX HNU SZ
          have PL := Lib.hid fun w' => rplan_any ⟨xk, xp, xm, xt, xs⟩ w' PS.out.1 PS.out.2
          have HL := Lib.hid (show (plLz ⟨xk, xp, xm, xt, xs⟩).length ≤ 3 by unfold plLz; split; exact pl_len _; decide)
          unfold RetP at PL
          obtain ⟨T', hT'⟩ := named (plHz ⟨xk, xp, xm, xt, xs⟩).T
          obtain ⟨nm', hnm'⟩ := named (plHz ⟨xk, xp, xm, xt, xs⟩).nm
          obtain ⟨pf', hpf'⟩ := named (plHz ⟨xk, xp, xm, xt, xs⟩).pf
          obtain ⟨lk', hlk'⟩ := named (plHz ⟨xk, xp, xm, xt, xs⟩).lk
          obtain ⟨md', hmd'⟩ := named (plHz ⟨xk, xp, xm, xt, xs⟩).md
          obtain ⟨sz', hsz'⟩ := named (plHz ⟨xk, xp, xm, xt, xs⟩).sz
          obtain ⟨L', hL'⟩ := named (plLz ⟨xk, xp, xm, xt, xs⟩)
          obtain ⟨E', hE'⟩ := named (ckE ⟨xk, xp, xm, xt, xs⟩)
          rw [← hT'.out, ← hnm'.out, ← hpf'.out, ← hlk'.out, ← hmd'.out, ← hsz'.out, ← hL'.out, ← hE'.out] at PL
          rw [← hT'.out, ← hnm'.out, ← hpf'.out, ← hlk'.out, ← hmd'.out, ← hsz'.out, ← hL'.out, ← hE'.out] at MG
          rw [← hL'.out] at HL
          clear hT' hnm' hpf' hlk' hmd' hsz' hL' hE'
          have e0 := X2.out.get 0 rfl; have e1 := X2.out.get 1 rfl; have e2 := X2.out.get 2 rfl; have e3 := X2.out.get 3 rfl; have e4 := X2.out.get 4 rfl
          go_wp2_with fail
          refine (PL.out _).mono ?_; rintro e w6 ⟨b, n', c', rfl, hn', hc', hm', hR', b6⟩
          have H6 := Lib.hid (H2.out.below b6 H2.out.lt)
          have Q6 := Lib.hid (Q2.out.below b6 Q2.out.lt)
          have X6 := Lib.hid (X2.out.below b6 X2.out.lt)
          have B6 := Lib.hid (belT B2.out b6)
          have I6 := Lib.hid hR'; have HN' := Lib.hid hn'
          clear b6 hR' hn' hc' hm' e0 e1 e2 e3 e4 PL
          have QH := Lib.hid fun (w' : World) => Ust.run_eqH 67 Tryz.underlying67 (by kernel_rfl) T' nm' pf' lk' md' sz' T nm pf lk md sz w'
          by_cases hE : E' = 0
          · subst hE
            by_cases hH : T' = T ∧ nm' = nm ∧ pf' = pf ∧ lk' = lk ∧ md' = md ∧ sz' = sz
            · have qH := QH.out; simp only [decide_eq_true hH] at qH
              have HHd := Lib.hid hH; clear hH
              have EQ := Lib.hid fun (w' : World) (hr : RecsIn w' b L') (hb : Below w.heap.size w w') => same_any a j c b n' c' rs L' w' HN.out HN'.out (HR.out.below hb) hr (by have := HNN.out; omega)
              go_wp2_with (first | (refine wpList_alloc_obj rfl 67 rfl Ust.hd0 HZ.out ?_; intro w7 g7 b7; have R7 := Lib.hid g7; have A7 := Lib.hid b7; clear g7 b7) | (refine wpList_store_obj rfl 67 _ _ rfl w6.heap.size rfl (Ust.hdV T' nm' pf' lk' md' sz') Ust.hd0 rfl 67 R7.out HO.out.2 rfl (hd_one _ _ _ _ _ _) ?_; intro w8 g8 t8; have A8 := Lib.hid (A7.out.trans (t8.below (Nat.le_refl _))); have Y8 := Lib.hid g8; have H8 := Lib.hid (H6.out.below A8.out H6.out.lt); have Q8 := Lib.hid (Q6.out.below A8.out Q6.out.lt); have X8 := Lib.hid (X6.out.below A8.out X6.out.lt); have I8 := Lib.hid (I6.out.below A8.out); have B8 := Lib.hid (belT B6.out A8.out); have d0 := Y8.out.get 0 rfl; have d1 := Y8.out.get 1 rfl; have d2 := Y8.out.get 2 rfl; have d3 := Y8.out.get 3 rfl; have d4 := Y8.out.get 4 rfl; have d5 := Y8.out.get 5 rfl; have c0 := H8.out.get 0 rfl; have c1 := H8.out.get 1 rfl; have c2 := H8.out.get 2 rfl; have c3 := H8.out.get 3 rfl; have c4 := H8.out.get 4 rfl; have c5 := H8.out.get 5 rfl; have e0 := X8.out.get 0 rfl; have e1 := X8.out.get 1 rfl; have e2 := X8.out.get 2 rfl; have e3 := X8.out.get 3 rfl; have e4 := X8.out.get 4 rfl; clear g8 t8))
              refine (EQ.out w8 I8.out B8.out).mono ?_; rintro e w9 ⟨rfl, b9⟩
              have Q9 := Lib.hid (Q8.out.below b9 Q8.out.lt)
              have X9 := Lib.hid (X8.out.below b9 X8.out.lt)
              have B9 := Lib.hid (belT B8.out b9)
              clear b9 c0 c1 c2 c3 c4 c5 d0 d1 d2 d3 d4 d5 e0 e1 e2 e3 e4 qH EQ
              by_cases hL : rs = L'
              · rw [decide_eq_true hL]
                have OKM : Hid (mgOk ⟨T, nm, pf, lk, md, sz⟩ rs) := MG.out.2 ⟨by first | rfl | trivial, HHd.out, hL.symm⟩
                clear hL
                have e0 := X9.out.get 0 rfl; have e1 := X9.out.get 1 rfl; have e2 := X9.out.get 2 rfl; have e3 := X9.out.get 3 rfl; have e4 := X9.out.get 4 rfl
                go_wp2_with (first | (refine wpList_store_obj rfl 23 _ _ rfl w1.heap.size rfl (enV xk xp xm xt xs) (enV 0 emp 0 emp 0) rfl 23 Q9.out EO.out.2 rfl (en_one _ _ _ _ _) ?_; intro y1 gy ty; have QY := Lib.hid gy; have TY := Lib.hid ty; clear gy ty))
                exact bodyPost_ret (results_obj_tmp Tryz.results42 EO.out _ w1.heap.size rfl _ (enV xk xp xm xt xs) QY.out rfl) rfl ⟨⟨xk, xp, xm, xt, xs⟩, 0, rfl, .inl ⟨OKM.out, HF.out, rfl⟩, B9.out.trans (TY.out.below LW.out)⟩
              · rw [decide_eq_false hL]
                have HB : Hid (¬ mgOk ⟨T, nm, pf, lk, md, sz⟩ rs) := fun h => hL (MG.out.1 h).2.2.symm
                clear hL
                go_wp2_with (first | (refine wpList_store_obj rfl 23 _ _ rfl w1.heap.size rfl (enV 0 emp 0 emp 0) (enV 0 emp 0 emp 0) rfl 23 Q9.out EO.out.2 rfl (en_one _ _ _ _ _) ?_; intro y1 gy ty; have QY := Lib.hid gy; have TY := Lib.hid ty; clear gy ty))
                exact bodyPost_ret (results_obj_tmp Tryz.results42 EO.out _ w1.heap.size rfl _ (enV 0 emp 0 emp 0) QY.out rfl) rfl ⟨⟨0, emp, 0, emp, 0⟩, FE, rfl, .inr ⟨HB.out, rfl, HFE.out⟩, B9.out.trans (TY.out.below LW.out)⟩
            · have qH := QH.out; simp only [decide_eq_false hH] at qH
              have HB : Hid (¬ mgOk ⟨T, nm, pf, lk, md, sz⟩ rs) := fun h => hH (MG.out.1 h).2.1
              clear hH
              go_wp2_with (first | (refine wpList_alloc_obj rfl 67 rfl Ust.hd0 HZ.out ?_; intro w7 g7 b7; have R7 := Lib.hid g7; have A7 := Lib.hid b7; clear g7 b7) | (refine wpList_store_obj rfl 67 _ _ rfl w6.heap.size rfl (Ust.hdV T' nm' pf' lk' md' sz') Ust.hd0 rfl 67 R7.out HO.out.2 rfl (hd_one _ _ _ _ _ _) ?_; intro w8 g8 t8; have A8 := Lib.hid (A7.out.trans (t8.below (Nat.le_refl _))); have Y8 := Lib.hid g8; have H8 := Lib.hid (H6.out.below A8.out H6.out.lt); have Q8 := Lib.hid (Q6.out.below A8.out Q6.out.lt); have X8 := Lib.hid (X6.out.below A8.out X6.out.lt); have I8 := Lib.hid (I6.out.below A8.out); have B8 := Lib.hid (belT B6.out A8.out); have d0 := Y8.out.get 0 rfl; have d1 := Y8.out.get 1 rfl; have d2 := Y8.out.get 2 rfl; have d3 := Y8.out.get 3 rfl; have d4 := Y8.out.get 4 rfl; have d5 := Y8.out.get 5 rfl; have c0 := H8.out.get 0 rfl; have c1 := H8.out.get 1 rfl; have c2 := H8.out.get 2 rfl; have c3 := H8.out.get 3 rfl; have c4 := H8.out.get 4 rfl; have c5 := H8.out.get 5 rfl; have e0 := X8.out.get 0 rfl; have e1 := X8.out.get 1 rfl; have e2 := X8.out.get 2 rfl; have e3 := X8.out.get 3 rfl; have e4 := X8.out.get 4 rfl; clear g8 t8) | (refine wpList_store_obj rfl 23 _ _ rfl w1.heap.size rfl (enV 0 emp 0 emp 0) (enV 0 emp 0 emp 0) rfl 23 Q8.out EO.out.2 rfl (en_one _ _ _ _ _) ?_; intro y1 gy ty; have QY := Lib.hid gy; have TY := Lib.hid ty; clear gy ty))
              exact bodyPost_ret (results_obj_tmp Tryz.results42 EO.out _ w1.heap.size rfl _ (enV 0 emp 0 emp 0) QY.out rfl) rfl ⟨⟨0, emp, 0, emp, 0⟩, FE, rfl, .inr ⟨HB.out, rfl, HFE.out⟩, B8.out.trans (TY.out.below LW.out)⟩
          · have n0 : (E' != 0) = true := by simpa using hE
            have HB : Hid (¬ mgOk ⟨T, nm, pf, lk, md, sz⟩ rs) := fun h => hE (MG.out.1 h).1
            clear hE
            go_wp2_with (first | (refine wpList_alloc_obj rfl 67 rfl Ust.hd0 HZ.out ?_; intro w7 g7 b7; have R7 := Lib.hid g7; have A7 := Lib.hid b7; clear g7 b7) | (refine wpList_store_obj rfl 67 _ _ rfl w6.heap.size rfl (Ust.hdV T' nm' pf' lk' md' sz') Ust.hd0 rfl 67 R7.out HO.out.2 rfl (hd_one _ _ _ _ _ _) ?_; intro w8 g8 t8; have A8 := Lib.hid (A7.out.trans (t8.below (Nat.le_refl _))); have Y8 := Lib.hid g8; have H8 := Lib.hid (H6.out.below A8.out H6.out.lt); have Q8 := Lib.hid (Q6.out.below A8.out Q6.out.lt); have X8 := Lib.hid (X6.out.below A8.out X6.out.lt); have I8 := Lib.hid (I6.out.below A8.out); have B8 := Lib.hid (belT B6.out A8.out); have d0 := Y8.out.get 0 rfl; have d1 := Y8.out.get 1 rfl; have d2 := Y8.out.get 2 rfl; have d3 := Y8.out.get 3 rfl; have d4 := Y8.out.get 4 rfl; have d5 := Y8.out.get 5 rfl; have c0 := H8.out.get 0 rfl; have c1 := H8.out.get 1 rfl; have c2 := H8.out.get 2 rfl; have c3 := H8.out.get 3 rfl; have c4 := H8.out.get 4 rfl; have c5 := H8.out.get 5 rfl; have e0 := X8.out.get 0 rfl; have e1 := X8.out.get 1 rfl; have e2 := X8.out.get 2 rfl; have e3 := X8.out.get 3 rfl; have e4 := X8.out.get 4 rfl; clear g8 t8) | (refine wpList_store_obj rfl 23 _ _ rfl w1.heap.size rfl (enV 0 emp 0 emp 0) (enV 0 emp 0 emp 0) rfl 23 Q8.out EO.out.2 rfl (en_one _ _ _ _ _) ?_; intro y1 gy ty; have QY := Lib.hid gy; have TY := Lib.hid ty; clear gy ty))
            exact bodyPost_ret (results_obj_tmp Tryz.results42 EO.out _ w1.heap.size rfl _ (enV 0 emp 0 emp 0) QY.out rfl) rfl ⟨⟨0, emp, 0, emp, 0⟩, FE, rfl, .inr ⟨HB.out, rfl, HFE.out⟩, B8.out.trans (TY.out.below LW.out)⟩
end Go.Proofs.YtbbaleambgaanaaGreatDoor.Fit
