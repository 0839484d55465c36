/- FitComp -/
import Derived.Test.YtbbaleambgaanaaGreatDoorQ30
import Derived.Deep.CutRange
import Derived.Test.YtbbaleambgaanaaGreatDoorQ11
namespace Go.Proofs.YtbbaleambgaanaaGreatDoor.Fit
open Go.RowKit Pxr Pnm
theorem drT : ObjT Tryz.prog 200 5 := ⟨⟨_, Tryz.underlying200⟩, by kernel_rfl⟩
theorem zDr : (Tryz.prog.info? 200).map (·.zero) = some (some (.agg (enV 0 emp 0 emp 0).toArray)) := by kernel_rfl
def setters (g : Nat) : List (ByteArray × Value) := [(kLink, .func (.func 132) #[.pointer (some ⟨g, 0, none⟩)] #[]), (kPath, .func (.func 133) #[.pointer (some ⟨g, 0, none⟩)] #[]), (kSize, .func (.func 134) #[.pointer (some ⟨g, 0, none⟩)] #[])]
theorem look_link (g : Nat) : lookS (setters g) kLink = some (.func (.func 132) #[.pointer (some ⟨g, 0, none⟩)] #[]) := by
  unfold lookS setters; rw [List.find?_cons_of_pos (by simp)]; rfl
theorem look_path (g : Nat) : lookS (setters g) kPath = some (.func (.func 133) #[.pointer (some ⟨g, 0, none⟩)] #[]) := by
  unfold lookS setters; rw [List.find?_cons_of_neg (by rw [decide_eq_false (show ¬ kLink = kPath by decide)]; decide), List.find?_cons_of_pos (by simp)]; rfl
theorem look_size (g : Nat) : lookS (setters g) kSize = some (.func (.func 134) #[.pointer (some ⟨g, 0, none⟩)] #[]) := by
  unfold lookS setters; rw [List.find?_cons_of_neg (by rw [decide_eq_false (show ¬ kLink = kSize by decide)]; decide), List.find?_cons_of_neg (by rw [decide_eq_false (show ¬ kPath = kSize by decide)]; decide), List.find?_cons_of_pos (by simp)]; rfl
theorem look_none (g : Nat) {K : ByteArray} (h0 : ¬ K = kLink) (h1 : ¬ K = kPath) (h2 : ¬ K = kSize) : lookS (setters g) K = none := by
  unfold lookS setters
  rw [List.find?_cons_of_neg (by simp; exact fun e => h0 e.symm), List.find?_cons_of_neg (by simp; exact fun e => h1 e.symm), List.find?_cons_of_neg (by simp; exact fun e => h2 e.symm)]
  rfl
theorem fold_succ {rs : List Rec} {j : Nat} {r : Rec} (e0 : Ent) (h : rs[j]? = some r) : (rs.take (j + 1)).foldl setR e0 = setR ((rs.take j).foldl setR e0) r := by
  obtain ⟨hj, rfl⟩ := List.getElem?_eq_some_iff.1 h
  rw [List.take_succ_eq_append_getElem hj, List.foldl_append]; rfl
set_option maxHeartbeats 16000000 in
set_option maxRecDepth 100000 in
theorem comp_any (T : Int) (nm pf lk : ByteArray) (md sz : Int) (a : Option Addr) (n c : Nat) (rs : List Rec) (w : World) (V : MVars w) (hnm : nm.size ≤ 1000000) (hpf : pf.size ≤ 1000000)
    (hv : ∀ r ∈ rs, r.2.size ≤ 281474976710656) (hn : rs.length = n) (hR : RecsIn w a rs) (hN : n ≤ 1000000) :
    Calls Tryz.prog 77 #[.agg (Ust.hdV T nm pf lk md sz).toArray, .slice a n c] w fun e w' =>
      ∃ x : Ent, e = .returned (.agg (enV x.k x.p x.m x.t x.s).toArray) ∧ x = cmpE ⟨T, nm, pf, lk, md, sz⟩ rs ∧ Below w.heap.size w w' := by
  have HO := Lib.hid hdTp; have EO := Lib.hid enT; have OD := Lib.hid drT
  have EZ := Lib.hid zEn; have ZD := Lib.hid zDr
  have RZ := Lib.hid recZ; have RO := Lib.hid recO
  have hmf : ∀ (fn : Fn) (first cap : Array Value) (w : World), (Instr.makeFunc fn first cap).run Tryz.prog w = .ok (.func fn first cap) w := fun _ _ _ _ => rfl
  have UM := Lib.hid Tryz.underlying202; have US := Lib.hid Tryz.underlying9
  have ZF : Hid ((Tryz.prog.info? 201).map (·.zero) = some (some .nilFunc)) := by show _ = _; kernel_rfl
  obtain ⟨KD, hK⟩ := named (kdZ T)
  obtain ⟨PJ, hP⟩ := named (strOfNums (joinZ (numsOf pf) (numsOf nm)))
  have C1 : Hid (∀ w', Below w.heap.size w w' → Calls Tryz.prog 130 #[.int .u8 T] w' fun e w'' => e = .returned (.int .i64 KD) ∧ w' = w'') := fun w' hb => by rw [hK.out]; exact kind_any T w' (V.go hb).f
  have C2 : Hid (∀ w', Calls Tryz.prog 131 #[.string pf, .string nm] w' fun e w'' => e = .returned (.string PJ) ∧ Below w'.heap.size w' w'') := fun w' => by rw [hP.out]; exact Pnm.pjoin pf nm w' hpf hnm
  have E0 : Hid (cmp0 ⟨T, nm, pf, lk, md, sz⟩ = ⟨KD, PJ, md, lk, sz⟩) := by show _ = _; rw [hK.out, hP.out]; rfl
  have HV := Lib.hid V; have HS := Lib.hid hv; have HN := Lib.hid hn; have HR := Lib.hid hR
  clear hK hP V hv hn hR hnm hpf
  go_enter Tryz.func77, Tryz.ntmps77
  go_upto_region 1 with (first | (refine wpList_box_obj rfl 56 _ rfl (Ust.hdV T nm pf lk md sz) rfl ?_; intro w1 g1 b1; have H1 := Lib.hid g1; have B1 := Lib.hid b1; clear g1 b1) | (refine wpList_alloc_obj rfl 23 rfl (enV 0 emp 0 emp 0) EZ.out ?_; intro w2 g2 b2; have Q2 := Lib.hid g2; have H2 := Lib.hid (H1.out.below b2 H1.out.lt); have B2 := Lib.hid (belT B1.out b2); clear g2 b2))
  have KS : Hid (∀ w', Below w2.heap.size w2 w' → (fun w' : World => w'.cell? ⟨w.heap.size, 0, none⟩ = some (.int .u8 T) ∧ w'.cell? ⟨w.heap.size, 1, none⟩ = some (.string nm) ∧ w'.cell? ⟨w.heap.size, 2, none⟩ = some (.string pf) ∧ w'.cell? ⟨w.heap.size, 3, none⟩ = some (.string lk) ∧ w'.cell? ⟨w.heap.size, 4, none⟩ = some (.int .i64 md) ∧ w'.cell? ⟨w.heap.size, 5, none⟩ = some (.int .i64 sz)) w') := fun w' hb => ⟨(H2.out.below hb H2.out.lt).get 0 rfl, (H2.out.below hb H2.out.lt).get 1 rfl, (H2.out.below hb H2.out.lt).get 2 rfl, (H2.out.below hb H2.out.lt).get 3 rfl, (H2.out.below hb H2.out.lt).get 4 rfl, (H2.out.below hb H2.out.lt).get 5 rfl⟩
  have D2 : Hid (Below w2.heap.size w2 w2.drew) := (Below.refl _ _).drew
  simp only [Act.put, List.setIfInBounds_toArray, List.set_cons_zero, List.set_cons_succ]
  go_cut [5] from 11 to 25 (fun s5 wx => ∃ g : Nat, s5 = .pointer (some ⟨g, 0, none⟩) ∧ ObjAt wx g 200 (enV KD PJ md lk sz) ∧ Below w2.heap.size w2 wx ∧ w2.heap.size ≤ g)
  case first =>
    refine wp_region_held_drew (S := (fun w' : World => w'.cell? ⟨w.heap.size, 0, none⟩ = some (.int .u8 T) ∧ w'.cell? ⟨w.heap.size, 1, none⟩ = some (.string nm) ∧ w'.cell? ⟨w.heap.size, 2, none⟩ = some (.string pf) ∧ w'.cell? ⟨w.heap.size, 3, none⟩ = some (.string lk) ∧ w'.cell? ⟨w.heap.size, 4, none⟩ = some (.int .i64 md) ∧ w'.cell? ⟨w.heap.size, 5, none⟩ = some (.int .i64 sz))) (by kernel_rfl) (KS.out _ D2.out) (fun hHeld => ?_)
    refine tk 0 { dst := some 11, op := Go.Op.fieldAddr 56 (Go.Operand.tmp 2) 0, type := 0, pos := "fit.go:91", after := #[], guard := none } ?_ ?_ ?_
    rotate_left 1
    focus ((intro wS hSw; (try dsimp only at hSw); go_simp) <;> (try with_reducible rfl))
    simp only [Act.put, List.setIfInBounds_toArray, List.set_cons_zero, List.set_cons_succ]
    refine tk 1 { dst := some 12, op := Go.Op.load 5 (Go.Operand.tmp 11), type := 5, pos := "fit.go:91", after := #[{ on := 0, ground := Go.Ground.data }], guard := none } ?_ ?_ ?_
    rotate_left 1
    focus ((intro wS hSw; (try dsimp only at hSw); go_simp) <;> (try with_reducible rfl))
    simp only [Act.put, List.setIfInBounds_toArray, List.set_cons_zero, List.set_cons_succ]
    refine tk 3 { dst := some 14, op := Go.Op.fieldAddr 56 (Go.Operand.tmp 2) 2, type := 0, pos := "fit.go:91", after := #[], guard := none } ?_ ?_ ?_
    rotate_left 1
    focus ((intro wS hSw; (try dsimp only at hSw); go_simp) <;> (try with_reducible rfl))
    simp only [Act.put, List.setIfInBounds_toArray, List.set_cons_zero, List.set_cons_succ]
    refine tk 4 { dst := some 15, op := Go.Op.load 9 (Go.Operand.tmp 14), type := 9, pos := "fit.go:91", after := #[{ on := 3, ground := Go.Ground.data }], guard := none } ?_ ?_ ?_
    rotate_left 1
    focus ((intro wS hSw; (try dsimp only at hSw); go_simp) <;> (try with_reducible rfl))
    simp only [Act.put, List.setIfInBounds_toArray, List.set_cons_zero, List.set_cons_succ]
    refine tk 5 { dst := some 16, op := Go.Op.fieldAddr 56 (Go.Operand.tmp 2) 1, type := 0, pos := "fit.go:91", after := #[], guard := none } ?_ ?_ ?_
    rotate_left 1
    focus ((intro wS hSw; (try dsimp only at hSw); go_simp) <;> (try with_reducible rfl))
    simp only [Act.put, List.setIfInBounds_toArray, List.set_cons_zero, List.set_cons_succ]
    refine tk 6 { dst := some 17, op := Go.Op.load 9 (Go.Operand.tmp 16), type := 9, pos := "fit.go:91", after := #[{ on := 5, ground := Go.Ground.data }], guard := none } ?_ ?_ ?_
    rotate_left 1
    focus ((intro wS hSw; (try dsimp only at hSw); go_simp) <;> (try with_reducible rfl))
    simp only [Act.put, List.setIfInBounds_toArray, List.set_cons_zero, List.set_cons_succ]
    refine tk 8 { dst := some 19, op := Go.Op.fieldAddr 56 (Go.Operand.tmp 2) 4, type := 0, pos := "fit.go:91", after := #[], guard := none } ?_ ?_ ?_
    rotate_left 1
    focus ((intro wS hSw; (try dsimp only at hSw); go_simp) <;> (try with_reducible rfl))
    simp only [Act.put, List.setIfInBounds_toArray, List.set_cons_zero, List.set_cons_succ]
    refine tk 9 { dst := some 20, op := Go.Op.load 3 (Go.Operand.tmp 19), type := 3, pos := "fit.go:91", after := #[{ on := 8, ground := Go.Ground.data }], guard := none } ?_ ?_ ?_
    rotate_left 1
    focus ((intro wS hSw; (try dsimp only at hSw); go_simp) <;> (try with_reducible rfl))
    simp only [Act.put, List.setIfInBounds_toArray, List.set_cons_zero, List.set_cons_succ]
    refine tk 10 { dst := some 21, op := Go.Op.fieldAddr 56 (Go.Operand.tmp 2) 3, type := 0, pos := "fit.go:91", after := #[], guard := none } ?_ ?_ ?_
    rotate_left 1
    focus ((intro wS hSw; (try dsimp only at hSw); go_simp) <;> (try with_reducible rfl))
    simp only [Act.put, List.setIfInBounds_toArray, List.set_cons_zero, List.set_cons_succ]
    refine tk 11 { dst := some 22, op := Go.Op.load 9 (Go.Operand.tmp 21), type := 9, pos := "fit.go:91", after := #[{ on := 10, ground := Go.Ground.data }], guard := none } ?_ ?_ ?_
    rotate_left 1
    focus ((intro wS hSw; (try dsimp only at hSw); go_simp) <;> (try with_reducible rfl))
    simp only [Act.put, List.setIfInBounds_toArray, List.set_cons_zero, List.set_cons_succ]
    refine tk 12 { dst := some 23, op := Go.Op.fieldAddr 56 (Go.Operand.tmp 2) 5, type := 0, pos := "fit.go:91", after := #[], guard := none } ?_ ?_ ?_
    rotate_left 1
    focus ((intro wS hSw; (try dsimp only at hSw); go_simp) <;> (try with_reducible rfl))
    simp only [Act.put, List.setIfInBounds_toArray, List.set_cons_zero, List.set_cons_succ]
    refine tk 13 { dst := some 24, op := Go.Op.load 2 (Go.Operand.tmp 23), type := 2, pos := "fit.go:91", after := #[{ on := 12, ground := Go.Ground.data }], guard := none } ?_ ?_ ?_
    rotate_left 1
    focus ((intro wS hSw; (try dsimp only at hSw); go_simp) <;> (try with_reducible rfl))
    simp only [Act.put, List.setIfInBounds_toArray, List.set_cons_zero, List.set_cons_succ]
    refine wpAnyH_ready (rs := [2, 15]) (by kernel_rfl) (by simp) ?_
    refine AllReadyH.cons (o := { dst := some 13, op := Go.Op.call { callee := Go.Callee.value (Go.Operand.func 130), args := #[Go.Operand.tmp 12], argTypes := #[5] }, type := 3, pos := "fit.go:91", after := #[{ on := 1, ground := Go.Ground.data }], guard := none }) rfl (fun K hK => ?_) (AllReadyH.cons (o := { dst := some 5, op := Go.Op.alloc 200, type := 0, pos := "fit.go:91", after := #[], guard := none }) rfl (fun K hK => ?_) AllReadyH.nil)
    · go_simp
      refine (C1.out _ (B2.out.trans (D2.out.mono B2.out.size))).mono ?_; rintro e w11 ⟨rfl, hw11⟩
      have D11 : Hid (Below w2.heap.size w2 w11) := hw11 ▸ D2.out
      clear hw11
      go_wp2_with fail
      refine hK.out _ _ (KS.out _ D11.out) (fun hHeld => ?_)
      clear hK K
      (try simp only [Act.put, List.setIfInBounds_toArray, List.set_cons_zero, List.set_cons_succ])
      refine wpAnyH_ready (rs := [7, 15]) (by kernel_rfl) (by simp) ?_
      refine AllReadyH.cons (o := { dst := some 18, op := Go.Op.call { callee := Go.Callee.value (Go.Operand.func 131), args := #[Go.Operand.tmp 15, Go.Operand.tmp 17], argTypes := #[9, 9] }, type := 9, pos := "fit.go:91", after := #[{ on := 4, ground := Go.Ground.data }, { on := 6, ground := Go.Ground.data }, { on := 2, ground := Go.Ground.chain }], guard := none }) rfl (fun K hK => ?_) (AllReadyH.cons (o := { dst := some 5, op := Go.Op.alloc 200, type := 0, pos := "fit.go:91", after := #[], guard := none }) rfl (fun K hK => ?_) AllReadyH.nil)
      · go_simp
        refine (C2.out _).mono ?_; rintro e w12 ⟨rfl, b12⟩
        have D12 : Hid (Below w2.heap.size w2 w12) := D11.out.trans (b12.mono D11.out.size)
        clear b12
        go_wp2_with fail
        refine hK.out _ _ (KS.out _ D12.out) (fun hHeld => ?_)
        clear hK K
        (try simp only [Act.put, List.setIfInBounds_toArray, List.set_cons_zero, List.set_cons_succ])
        refine tk 14 { dst := some 25, op := Go.Op.build 200 #[(0, Go.Operand.tmp 13), (1, Go.Operand.tmp 18), (2, Go.Operand.tmp 20), (3, Go.Operand.tmp 22), (4, Go.Operand.tmp 24)], type := 200, pos := "fit.go:91", after := #[{ on := 2, ground := Go.Ground.data }, { on := 7, ground := Go.Ground.data }, { on := 9, ground := Go.Ground.data }, { on := 11, ground := Go.Ground.data }, { on := 13, ground := Go.Ground.data }], guard := none } ?_ ?_ ?_
        rotate_left 1
        focus ((intro wS hSw; (try dsimp only at hSw); go_simp) <;> (try with_reducible rfl))
        simp only [Act.put, List.setIfInBounds_toArray, List.set_cons_zero, List.set_cons_succ]
        refine wpAnyH_ready (rs := [15]) (by kernel_rfl) (by simp) ?_
        refine AllReadyH.cons (o := { dst := some 5, op := Go.Op.alloc 200, type := 0, pos := "fit.go:91", after := #[], guard := none }) rfl (fun K hK => ?_) AllReadyH.nil
        · refine step_alloc_obj rfl 200 rfl (enV 0 emp 0 emp 0) ZD.out ?_
          intro w13 g13 b13
          have X13 : Hid (ObjAt w13 w12.heap.size 200 (enV 0 emp 0 emp 0)) := g13
          have D13 : Hid (Below w2.heap.size w2 w13) := D12.out.trans (b13.mono D12.out.size)
          clear g13 b13
          refine hK.out _ _ (KS.out _ D13.out) (fun hHeld => ?_)
          clear hK K
          (try simp only [Act.put, List.setIfInBounds_toArray, List.set_cons_zero, List.set_cons_succ])
          refine wpAnyH_ready (rs := [16]) (by kernel_rfl) (by simp) ?_
          refine AllReadyH.cons (o := { dst := none, op := Go.Op.store 200 (Go.Operand.tmp 5) (Go.Operand.tmp 25), type := 0, pos := "fit.go:91", after := #[{ on := 15, ground := Go.Ground.data }, { on := 14, ground := Go.Ground.data }, { on := 7, ground := Go.Ground.chain }, { on := 0, ground := Go.Ground.phase }, { on := 1, ground := Go.Ground.phase }, { on := 2, ground := Go.Ground.phase }, { on := 3, ground := Go.Ground.phase }, { on := 4, ground := Go.Ground.phase }, { on := 5, ground := Go.Ground.phase }, { on := 6, ground := Go.Ground.phase }, { on := 7, ground := Go.Ground.phase }, { on := 8, ground := Go.Ground.phase }, { on := 9, ground := Go.Ground.phase }, { on := 10, ground := Go.Ground.phase }, { on := 11, ground := Go.Ground.phase }, { on := 12, ground := Go.Ground.phase }, { on := 13, ground := Go.Ground.phase }, { on := 14, ground := Go.Ground.phase }, { on := 15, ground := Go.Ground.phase }], guard := none }) rfl (fun K hK => ?_) AllReadyH.nil
          refine step_store_obj rfl 200 (.tmp 5) (.tmp 25) rfl w12.heap.size rfl (enV KD PJ md lk sz) (enV 0 emp 0 emp 0) rfl 200 X13.out OD.out.2 rfl (en_one _ _ _ _ _) ?_
          intro w14 g14 t14
          have X14 : Hid (ObjAt w14 w12.heap.size 200 (enV KD PJ md lk sz)) := g14
          have D14 : Hid (Below w2.heap.size w2 w14) := D13.out.trans (t14.below (D12.out.size))
          clear g14 t14
          refine hK.out _ _ (KS.out _ D14.out) (fun hHeld => ?_)
          clear hK K
          (try simp only [Act.put])
          refine wpAnyH_done (by kernel_rfl) ?_ _
          go_wp2_with fail
          go_meet
          exact ⟨_, rfl, X14.out, D14.out, D12.out.size⟩
        
      · refine step_alloc_obj rfl 200 rfl (enV 0 emp 0 emp 0) ZD.out ?_
        intro w15 g15 b15
        have X15 : Hid (ObjAt w15 w11.heap.size 200 (enV 0 emp 0 emp 0)) := g15
        have D15 : Hid (Below w2.heap.size w2 w15) := D11.out.trans (b15.mono D11.out.size)
        clear g15 b15
        refine hK.out _ _ (KS.out _ D15.out) (fun hHeld => ?_)
        clear hK K
        (try simp only [Act.put, List.setIfInBounds_toArray, List.set_cons_zero, List.set_cons_succ])
        refine wpAnyH_ready (rs := [7]) (by kernel_rfl) (by simp) ?_
        refine AllReadyH.cons (o := { dst := some 18, op := Go.Op.call { callee := Go.Callee.value (Go.Operand.func 131), args := #[Go.Operand.tmp 15, Go.Operand.tmp 17], argTypes := #[9, 9] }, type := 9, pos := "fit.go:91", after := #[{ on := 4, ground := Go.Ground.data }, { on := 6, ground := Go.Ground.data }, { on := 2, ground := Go.Ground.chain }], guard := none }) rfl (fun K hK => ?_) AllReadyH.nil
        · go_simp
          refine (C2.out _).mono ?_; rintro e w16 ⟨rfl, b16⟩
          have D16 : Hid (Below w2.heap.size w2 w16) := D15.out.trans (b16.mono D15.out.size)
          have X16 : Hid (ObjAt w16 w11.heap.size 200 (enV 0 emp 0 emp 0)) := X15.out.below b16 X15.out.lt
          clear b16
          go_wp2_with fail
          refine hK.out _ _ (KS.out _ D16.out) (fun hHeld => ?_)
          clear hK K
          (try simp only [Act.put, List.setIfInBounds_toArray, List.set_cons_zero, List.set_cons_succ])
          refine tk 14 { dst := some 25, op := Go.Op.build 200 #[(0, Go.Operand.tmp 13), (1, Go.Operand.tmp 18), (2, Go.Operand.tmp 20), (3, Go.Operand.tmp 22), (4, Go.Operand.tmp 24)], type := 200, pos := "fit.go:91", after := #[{ on := 2, ground := Go.Ground.data }, { on := 7, ground := Go.Ground.data }, { on := 9, ground := Go.Ground.data }, { on := 11, ground := Go.Ground.data }, { on := 13, ground := Go.Ground.data }], guard := none } ?_ ?_ ?_
          rotate_left 1
          focus ((intro wS hSw; (try dsimp only at hSw); go_simp) <;> (try with_reducible rfl))
          simp only [Act.put, List.setIfInBounds_toArray, List.set_cons_zero, List.set_cons_succ]
          refine wpAnyH_ready (rs := [16]) (by kernel_rfl) (by simp) ?_
          refine AllReadyH.cons (o := { dst := none, op := Go.Op.store 200 (Go.Operand.tmp 5) (Go.Operand.tmp 25), type := 0, pos := "fit.go:91", after := #[{ on := 15, ground := Go.Ground.data }, { on := 14, ground := Go.Ground.data }, { on := 7, ground := Go.Ground.chain }, { on := 0, ground := Go.Ground.phase }, { on := 1, ground := Go.Ground.phase }, { on := 2, ground := Go.Ground.phase }, { on := 3, ground := Go.Ground.phase }, { on := 4, ground := Go.Ground.phase }, { on := 5, ground := Go.Ground.phase }, { on := 6, ground := Go.Ground.phase }, { on := 7, ground := Go.Ground.phase }, { on := 8, ground := Go.Ground.phase }, { on := 9, ground := Go.Ground.phase }, { on := 10, ground := Go.Ground.phase }, { on := 11, ground := Go.Ground.phase }, { on := 12, ground := Go.Ground.phase }, { on := 13, ground := Go.Ground.phase }, { on := 14, ground := Go.Ground.phase }, { on := 15, ground := Go.Ground.phase }], guard := none }) rfl (fun K hK => ?_) AllReadyH.nil
          refine step_store_obj rfl 200 (.tmp 5) (.tmp 25) rfl w11.heap.size rfl (enV KD PJ md lk sz) (enV 0 emp 0 emp 0) rfl 200 X16.out OD.out.2 rfl (en_one _ _ _ _ _) ?_
          intro w17 g17 t17
          have X17 : Hid (ObjAt w17 w11.heap.size 200 (enV KD PJ md lk sz)) := g17
          have D17 : Hid (Below w2.heap.size w2 w17) := D16.out.trans (t17.below (D11.out.size))
          clear g17 t17
          refine hK.out _ _ (KS.out _ D17.out) (fun hHeld => ?_)
          clear hK K
          (try simp only [Act.put])
          refine wpAnyH_done (by kernel_rfl) ?_ _
          go_wp2_with fail
          go_meet
          exact ⟨_, rfl, X17.out, D17.out, D11.out.size⟩
        
      
    · refine step_alloc_obj rfl 200 rfl (enV 0 emp 0 emp 0) ZD.out ?_
      intro w18 g18 b18
      have X18 : Hid (ObjAt w18 w2.heap.size 200 (enV 0 emp 0 emp 0)) := g18
      have D18 : Hid (Below w2.heap.size w2 w18) := D2.out.trans (b18.mono D2.out.size)
      clear g18 b18
      refine hK.out _ _ (KS.out _ D18.out) (fun hHeld => ?_)
      clear hK K
      (try simp only [Act.put, List.setIfInBounds_toArray, List.set_cons_zero, List.set_cons_succ])
      refine wpAnyH_ready (rs := [2]) (by kernel_rfl) (by simp) ?_
      refine AllReadyH.cons (o := { dst := some 13, op := Go.Op.call { callee := Go.Callee.value (Go.Operand.func 130), args := #[Go.Operand.tmp 12], argTypes := #[5] }, type := 3, pos := "fit.go:91", after := #[{ on := 1, ground := Go.Ground.data }], guard := none }) rfl (fun K hK => ?_) AllReadyH.nil
      · go_simp
        refine (C1.out _ (B2.out.trans (D18.out.mono B2.out.size))).mono ?_; rintro e w19 ⟨rfl, hw19⟩
        have D19 : Hid (Below w2.heap.size w2 w19) := hw19 ▸ D18.out
        have X19 : Hid (ObjAt w19 w2.heap.size 200 (enV 0 emp 0 emp 0)) := hw19 ▸ X18.out
        clear hw19
        go_wp2_with fail
        refine hK.out _ _ (KS.out _ D19.out) (fun hHeld => ?_)
        clear hK K
        (try simp only [Act.put, List.setIfInBounds_toArray, List.set_cons_zero, List.set_cons_succ])
        refine wpAnyH_ready (rs := [7]) (by kernel_rfl) (by simp) ?_
        refine AllReadyH.cons (o := { dst := some 18, op := Go.Op.call { callee := Go.Callee.value (Go.Operand.func 131), args := #[Go.Operand.tmp 15, Go.Operand.tmp 17], argTypes := #[9, 9] }, type := 9, pos := "fit.go:91", after := #[{ on := 4, ground := Go.Ground.data }, { on := 6, ground := Go.Ground.data }, { on := 2, ground := Go.Ground.chain }], guard := none }) rfl (fun K hK => ?_) AllReadyH.nil
        · go_simp
          refine (C2.out _).mono ?_; rintro e w20 ⟨rfl, b20⟩
          have D20 : Hid (Below w2.heap.size w2 w20) := D19.out.trans (b20.mono D19.out.size)
          have X20 : Hid (ObjAt w20 w2.heap.size 200 (enV 0 emp 0 emp 0)) := X19.out.below b20 X19.out.lt
          clear b20
          go_wp2_with fail
          refine hK.out _ _ (KS.out _ D20.out) (fun hHeld => ?_)
          clear hK K
          (try simp only [Act.put, List.setIfInBounds_toArray, List.set_cons_zero, List.set_cons_succ])
          refine tk 14 { dst := some 25, op := Go.Op.build 200 #[(0, Go.Operand.tmp 13), (1, Go.Operand.tmp 18), (2, Go.Operand.tmp 20), (3, Go.Operand.tmp 22), (4, Go.Operand.tmp 24)], type := 200, pos := "fit.go:91", after := #[{ on := 2, ground := Go.Ground.data }, { on := 7, ground := Go.Ground.data }, { on := 9, ground := Go.Ground.data }, { on := 11, ground := Go.Ground.data }, { on := 13, ground := Go.Ground.data }], guard := none } ?_ ?_ ?_
          rotate_left 1
          focus ((intro wS hSw; (try dsimp only at hSw); go_simp) <;> (try with_reducible rfl))
          simp only [Act.put, List.setIfInBounds_toArray, List.set_cons_zero, List.set_cons_succ]
          refine wpAnyH_ready (rs := [16]) (by kernel_rfl) (by simp) ?_
          refine AllReadyH.cons (o := { dst := none, op := Go.Op.store 200 (Go.Operand.tmp 5) (Go.Operand.tmp 25), type := 0, pos := "fit.go:91", after := #[{ on := 15, ground := Go.Ground.data }, { on := 14, ground := Go.Ground.data }, { on := 7, ground := Go.Ground.chain }, { on := 0, ground := Go.Ground.phase }, { on := 1, ground := Go.Ground.phase }, { on := 2, ground := Go.Ground.phase }, { on := 3, ground := Go.Ground.phase }, { on := 4, ground := Go.Ground.phase }, { on := 5, ground := Go.Ground.phase }, { on := 6, ground := Go.Ground.phase }, { on := 7, ground := Go.Ground.phase }, { on := 8, ground := Go.Ground.phase }, { on := 9, ground := Go.Ground.phase }, { on := 10, ground := Go.Ground.phase }, { on := 11, ground := Go.Ground.phase }, { on := 12, ground := Go.Ground.phase }, { on := 13, ground := Go.Ground.phase }, { on := 14, ground := Go.Ground.phase }, { on := 15, ground := Go.Ground.phase }], guard := none }) rfl (fun K hK => ?_) AllReadyH.nil
          refine step_store_obj rfl 200 (.tmp 5) (.tmp 25) rfl w2.heap.size rfl (enV KD PJ md lk sz) (enV 0 emp 0 emp 0) rfl 200 X20.out OD.out.2 rfl (en_one _ _ _ _ _) ?_
          intro w21 g21 t21
          have X21 : Hid (ObjAt w21 w2.heap.size 200 (enV KD PJ md lk sz)) := g21
          have D21 : Hid (Below w2.heap.size w2 w21) := D20.out.trans (t21.below (Nat.le_refl _))
          clear g21 t21
          refine hK.out _ _ (KS.out _ D21.out) (fun hHeld => ?_)
          clear hK K
          (try simp only [Act.put])
          refine wpAnyH_done (by kernel_rfl) ?_ _
          go_wp2_with fail
          go_meet
          exact ⟨_, rfl, X21.out, D21.out, Nat.le_refl _⟩
        
      
  case rest =>
  obtain ⟨g, rfl, hx, hb, hg⟩ := hcut
  have X3 := Lib.hid hx
  have Q3 := Lib.hid (Q2.out.below hb Q2.out.lt)
  have B3 := Lib.hid (belT B2.out hb)
  have R3 := Lib.hid (HR.out.below B3.out)
  have LG : Hid (w1.heap.size < g) := Nat.lt_of_lt_of_le Q2.out.lt hg
  have LW : Hid (w.heap.size ≤ w1.heap.size) := B1.out.size
  clear hx hb hg KS D2 C1 C2
  go_wp2_with (first | (refine wpList_make_map rfl 202 rfl ?_; intro w4 g4 b4; have M4 := Lib.hid g4; have X4 := Lib.hid (X3.out.below b4 X3.out.lt); have Q4 := Lib.hid (Q3.out.below b4 Q3.out.lt); have A4 := Lib.hid b4; have LM : Hid (g < wc.heap.size ∧ w1.heap.size < wc.heap.size) := ⟨X3.out.lt, Q3.out.lt⟩; clear g4 b4) | (refine wpList_insert_map rfl 202 _ _ _ rfl 9 201 UM.out US.out wc.heap.size rfl kLink rfl _ rfl [] M4.out (by unfold lookS; rfl) ?_; intro w5 g5 t5; have M5 := Lib.hid g5; have X5 := Lib.hid (X4.out.turnB t5 (Nat.ne_of_lt LM.out.1)); have Q5 := Lib.hid (Q4.out.turnB t5 (Nat.ne_of_lt LM.out.2)); have A5 := Lib.hid (A4.out.trans (t5.below (Nat.le_refl _))); clear g5 t5) | (refine wpList_insert_map rfl 202 _ _ _ rfl 9 201 UM.out US.out wc.heap.size rfl kPath rfl _ rfl [(kLink, .func (.func 132) #[.pointer (some ⟨g, 0, none⟩)] #[])] M5.out (by unfold lookS; rfl) ?_; intro w6 g6 t6; have M6 := Lib.hid g6; have X6 := Lib.hid (X5.out.turnB t6 (Nat.ne_of_lt LM.out.1)); have Q6 := Lib.hid (Q5.out.turnB t6 (Nat.ne_of_lt LM.out.2)); have A6 := Lib.hid (A5.out.trans (t6.below (Nat.le_refl _))); clear g6 t6) | (refine wpList_insert_map rfl 202 _ _ _ rfl 9 201 UM.out US.out wc.heap.size rfl kSize rfl _ rfl [(kLink, .func (.func 132) #[.pointer (some ⟨g, 0, none⟩)] #[]), (kPath, .func (.func 133) #[.pointer (some ⟨g, 0, none⟩)] #[])] M6.out (by unfold lookS; rfl) ?_; intro w7 g7 t7; have M7 := Lib.hid g7; have X7 := Lib.hid (X6.out.turnB t7 (Nat.ne_of_lt LM.out.1)); have Q7 := Lib.hid (Q6.out.turnB t7 (Nat.ne_of_lt LM.out.2)); have A7 := Lib.hid (A6.out.trans (t7.below (Nat.le_refl _))); clear g7 t7))
  have M8 : Hid (MapAt w7 wc.heap.size (setters g)) := M7.out
  have B8 := Lib.hid (belT B3.out A7.out)
  go_loopw [33] (fun i wr => ∃ (j : Nat) (x : Ent), i = .int .i64 j ∧ j ≤ n ∧ x = (rs.take j).foldl setR ⟨KD, PJ, md, lk, sz⟩ ∧ ObjAt wr g 200 (enV x.k x.p x.m x.t x.s) ∧ MapAt wr wc.heap.size (setters g) ∧ ObjAt wr w1.heap.size 23 (enV 0 emp 0 emp 0) ∧ Below w.heap.size w wr) (fun i _ => n - (intOf i).toNat)
  case atStart => exact ⟨0, ⟨KD, PJ, md, lk, sz⟩, rfl, Nat.zero_le _, rfl, X7.out, M8.out, Q7.out, B8.out⟩
  case round =>
    obtain ⟨j, x, rfl, hj, hx, hX, hM, hQ, hB⟩ := hrel
    have HX := Lib.hid hx; have XR := Lib.hid hX; have MR := Lib.hid hM; have QR := Lib.hid hQ; have BR := Lib.hid hB
    obtain ⟨xk, xp, xm, xt, xs⟩ := x
    clear hx hX hM hQ hB
    have WL : Hid (wc.heap.size < wr.heap.size) := MR.out.lt
    by_cases hjn : j < n
    · obtain ⟨r, hr⟩ := get_some (show j < rs.length by rw [HN.out]; exact hjn)
      obtain ⟨Ke, Va⟩ := r
      have HVa : Hid (Va.size ≤ 281474976710656) := HS.out _ (List.mem_of_getElem? hr)
      have FS := Lib.hid (fold_succ ⟨KD, PJ, md, lk, sz⟩ hr)
      obtain ⟨b1, o1, hbe, _, c0', c1'⟩ := (HR.out.below BR.out).get j _ hr
      have j1 : (j : Int) < n := by omega
      have c0 : wr.cell? ⟨b1, o1 + j * 2, none⟩ = some (.string Ke) := c0'
      have c1 : wr.cell? ⟨b1, o1 + j * 2 + 1, none⟩ = some (.string Va) := c1'
      clear c0' c1' hr hjn
      subst hbe
      by_cases k0 : Ke = kLink
      · subst k0
        have LK := Lib.hid fun (w' : World) (hm : MapAt w' wc.heap.size (setters g)) => run_look (P := Tryz.prog) (w := w') 202 9 201 UM.out US.out .nilFunc ZF.out wc.heap.size kLink (setters g) hm true (.func (.func 132) #[.pointer (some ⟨g, 0, none⟩)] #[]) (by rw [look_link g])
        go_wp2_with (first | (refine wpList_alloc_obj rfl 107 rfl rz RZ.out ?_; intro w4 g4 b4; have S4 := Lib.hid g4; have A4 := Lib.hid b4; clear g4 b4) | (refine wpList_store_obj rfl 107 _ _ rfl wr.heap.size rfl [.string kLink, .string Va] rz rfl 107 S4.out RO.out.2 rfl (rec_one _ _) ?_; intro w5 g5 t5; have A5 := Lib.hid (A4.out.trans (t5.below (Nat.le_refl _))); have X5 := Lib.hid (XR.out.below A5.out XR.out.lt); have M5 := Lib.hid (MR.out.below A5.out MR.out.lt); have Q5 := Lib.hid (QR.out.below A5.out QR.out.lt); have B5 := Lib.hid (belT BR.out A5.out); have d0 := g5.get 0 rfl; have d1 := g5.get 1 rfl; have lk5 := LK.out w5 M5.out; clear g5 t5))
        refine (st_target g xk xp xm xt xs Va w5 X5.out).mono ?_; rintro e w6 ⟨rfl, x6, o6⟩
        have X6 := Lib.hid x6
        have M6 := Lib.hid (M5.out.block (o6.block _ M5.out.lt (.inr (Nat.succ_le_of_lt LM.out.1))))
        have Q6 := Lib.hid (Q5.out.out o6 (.inl LG.out))
        have B6 := Lib.hid (B5.out.trans (o6.below (Nat.le_trans LW.out (Nat.le_of_lt LG.out)) B5.out.size))
        clear x6 o6 lk5
        go_wp2
        go_roundw
        case rel => exact ⟨j + 1, ⟨xk, xp, xm, Va, xs⟩, by go_num, by omega, by rw [FS.out, ← HX.out, set_link], X6.out, M6.out, Q6.out, B6.out⟩
        case measure => simp [intOf]; omega
      · by_cases k1 : Ke = kPath
        · subst k1
          clear k0
          have LK := Lib.hid fun (w' : World) (hm : MapAt w' wc.heap.size (setters g)) => run_look (P := Tryz.prog) (w := w') 202 9 201 UM.out US.out .nilFunc ZF.out wc.heap.size kPath (setters g) hm true (.func (.func 133) #[.pointer (some ⟨g, 0, none⟩)] #[]) (by rw [look_path g])
          go_wp2_with (first | (refine wpList_alloc_obj rfl 107 rfl rz RZ.out ?_; intro w4 g4 b4; have S4 := Lib.hid g4; have A4 := Lib.hid b4; clear g4 b4) | (refine wpList_store_obj rfl 107 _ _ rfl wr.heap.size rfl [.string kPath, .string Va] rz rfl 107 S4.out RO.out.2 rfl (rec_one _ _) ?_; intro w5 g5 t5; have A5 := Lib.hid (A4.out.trans (t5.below (Nat.le_refl _))); have X5 := Lib.hid (XR.out.below A5.out XR.out.lt); have M5 := Lib.hid (MR.out.below A5.out MR.out.lt); have Q5 := Lib.hid (QR.out.below A5.out QR.out.lt); have B5 := Lib.hid (belT BR.out A5.out); have d0 := g5.get 0 rfl; have d1 := g5.get 1 rfl; have lk5 := LK.out w5 M5.out; clear g5 t5))
          refine (st_path g xk xp xm xt xs Va w5 X5.out).mono ?_; rintro e w6 ⟨rfl, x6, o6⟩
          have X6 := Lib.hid x6
          have M6 := Lib.hid (M5.out.block (o6.block _ M5.out.lt (.inr (Nat.succ_le_of_lt LM.out.1))))
          have Q6 := Lib.hid (Q5.out.out o6 (.inl LG.out))
          have B6 := Lib.hid (B5.out.trans (o6.below (Nat.le_trans LW.out (Nat.le_of_lt LG.out)) B5.out.size))
          clear x6 o6 lk5
          go_wp2
          go_roundw
          case rel => exact ⟨j + 1, ⟨xk, Va, xm, xt, xs⟩, by go_num, by omega, by rw [FS.out, ← HX.out, set_path], X6.out, M6.out, Q6.out, B6.out⟩
          case measure => simp [intOf]; omega
        · by_cases k2 : Ke = kSize
          · subst k2
            clear k0 k1
            have LK := Lib.hid fun (w' : World) (hm : MapAt w' wc.heap.size (setters g)) => run_look (P := Tryz.prog) (w := w') 202 9 201 UM.out US.out .nilFunc ZF.out wc.heap.size kSize (setters g) hm true (.func (.func 134) #[.pointer (some ⟨g, 0, none⟩)] #[]) (by rw [look_size g])
            go_wp2_with (first | (refine wpList_alloc_obj rfl 107 rfl rz RZ.out ?_; intro w4 g4 b4; have S4 := Lib.hid g4; have A4 := Lib.hid b4; clear g4 b4) | (refine wpList_store_obj rfl 107 _ _ rfl wr.heap.size rfl [.string kSize, .string Va] rz rfl 107 S4.out RO.out.2 rfl (rec_one _ _) ?_; intro w5 g5 t5; have A5 := Lib.hid (A4.out.trans (t5.below (Nat.le_refl _))); have X5 := Lib.hid (XR.out.below A5.out XR.out.lt); have M5 := Lib.hid (MR.out.below A5.out MR.out.lt); have Q5 := Lib.hid (QR.out.below A5.out QR.out.lt); have B5 := Lib.hid (belT BR.out A5.out); have d0 := g5.get 0 rfl; have d1 := g5.get 1 rfl; have lk5 := LK.out w5 M5.out; clear g5 t5))
            refine (st_size g xk xp xm xt xs Va w5 (HV.out.go B5.out) HVa.out X5.out).mono ?_; rintro e w6 ⟨rfl, x6, o6⟩
            have X6 := Lib.hid x6
            have M6 := Lib.hid (M5.out.block (o6.block _ M5.out.lt (.inr (Nat.succ_le_of_lt LM.out.1))))
            have Q6 := Lib.hid (Q5.out.out o6 (.inl LG.out))
            have B6 := Lib.hid (B5.out.trans (o6.below (Nat.le_trans LW.out (Nat.le_of_lt LG.out)) B5.out.size))
            clear x6 o6 lk5
            go_wp2
            go_roundw
            case rel => exact ⟨j + 1, ⟨xk, xp, xm, xt, pzI Va⟩, by go_num, by omega, by rw [FS.out, ← HX.out, set_size], X6.out, M6.out, Q6.out, B6.out⟩
            case measure => simp [intOf]; omega
          · have K0 := Lib.hid k0; have K1 := Lib.hid k1; have K2 := Lib.hid k2
            clear k0 k1 k2
            have LK := Lib.hid fun (w' : World) (hm : MapAt w' wc.heap.size (setters g)) => run_look (P := Tryz.prog) (w := w') 202 9 201 UM.out US.out .nilFunc ZF.out wc.heap.size Ke (setters g) hm false (.nilFunc) (by rw [look_none g K0.out K1.out K2.out])
            go_wp2_with (first | (refine wpList_alloc_obj rfl 107 rfl rz RZ.out ?_; intro w4 g4 b4; have S4 := Lib.hid g4; have A4 := Lib.hid b4; clear g4 b4) | (refine wpList_store_obj rfl 107 _ _ rfl wr.heap.size rfl [.string Ke, .string Va] rz rfl 107 S4.out RO.out.2 rfl (rec_one _ _) ?_; intro w5 g5 t5; have A5 := Lib.hid (A4.out.trans (t5.below (Nat.le_refl _))); have X5 := Lib.hid (XR.out.below A5.out XR.out.lt); have M5 := Lib.hid (MR.out.below A5.out MR.out.lt); have Q5 := Lib.hid (QR.out.below A5.out QR.out.lt); have B5 := Lib.hid (belT BR.out A5.out); have d0 := g5.get 0 rfl; have d1 := g5.get 1 rfl; have lk5 := LK.out w5 M5.out; clear g5 t5))
            go_roundw
            case rel => exact ⟨j + 1, ⟨xk, xp, xm, xt, xs⟩, by go_num, by omega, by rw [FS.out, ← HX.out]; unfold setR; rw [if_neg K0.out, if_neg K1.out, if_neg K2.out], X5.out, M5.out, Q5.out, B5.out⟩
            case measure => simp [intOf]; omega
    · obtain rfl : j = n := by omega
      have j1 : ¬ (j : Int) < j := by omega
      have hfin : (⟨xk, xp, xm, xt, xs⟩ : Ent) = cmpE ⟨T, nm, pf, lk, md, sz⟩ rs := by
        rw [HX.out, List.take_of_length_le (by rw [HN.out]; exact Nat.le_refl _)]; unfold cmpE; rw [E0.out]
      have HF := Lib.hid hfin
      clear hjn hfin HX
      go_wp2_with (first | (refine wpList_load_obj rfl 200 5 OD.out _ rfl g rfl 200 (enV xk xp xm xt xs) XR.out rfl ?_) | (refine wpList_store_obj rfl 23 _ _ rfl w1.heap.size rfl (enV xk xp xm xt xs) (enV 0 emp 0 emp 0) rfl 23 QR.out EO.out.2 rfl (en_one _ _ _ _ _) ?_; intro w9 g9 t9; have Q9 := Lib.hid g9; have T9 := Lib.hid t9; clear g9 t9))
      exact bodyPost_ret (results_obj Tryz.results77 EO.out _ w1.heap.size rfl _ (enV xk xp xm xt xs) Q9.out rfl) rfl ⟨⟨xk, xp, xm, xt, xs⟩, rfl, HF.out, BR.out.trans (T9.out.below LW.out)⟩
end Go.Proofs.YtbbaleambgaanaaGreatDoor.Fit
