/- StructArg StepBox EtrLaw2 -/
import Derived.Test.YtbbaleambgaanaaGreatDoorQ2
import Derived.Deep.RegionLaw
import Derived.ChangeSame
import Derived.Test.YtbbaleambgaanaaGreatDoorQ4
import Derived.Test.YtbbaleambgaanaaGreatDoorQ18
import Derived.Test.YtbbaleambgaanaaGreatDoorQ36
import Derived.Test.YtbbaleambgaanaaGreatDoorQ43
import Derived.Test.YtbbaleambgaanaaGreatDoorQ32
import Derived.Test.YtbbaleambgaanaaGreatDoorQ8
import Derived.Test.YtbbaleambgaanaaGreatDoorQ11
namespace Go.Proofs.YtbbaleambgaanaaGreatDoor
open Go.RowKit Go.ChangeShapes
theorem open_slice_int {H : Type} {enc : TypeId × Value → H} {P : Program} {w : World} {base : Nat} {held : Bool} {t e : TypeId} {f0 f1 : Field} {k k' : IntKind} {cs : Array Value} {d : DataW H} {p : List MemPlace}
    (ht : P.underlying t = some (.struct #[f0, f1])) (h0 : P.underlying f0.type = some (.slice e)) (he : P.underlying e = some (.int k)) (h1 : P.underlying f1.type = some (.int k'))
    (hs : (P.cellsOf t, f0.offset, P.cellsOf f0.type, f1.offset, P.cellsOf f1.type, P.cellsOf e) = (2, 0, 1, 1, 1, 1)) (h : DataW.Trod enc P w base (fun _ => true) held t (.agg cs) d p) :
    ∃ (a : Option Addr) (len cap : Nat) (zs : List Int) (F : Int), cs = #[.slice a len cap, .int k' F] ∧ ArgInts k w a len cap zs ∧ (Lit.int k' F).wf = true := by
  simp only [Prod.mk.injEq] at hs
  obtain ⟨s1, s2, s3, s4, s5, s6⟩ := hs
  obtain ⟨fuel, hf⟩ := h
  obtain ⟨y0, y1, m, _, hl, hy0, hy1⟩ := trod_struct2 ht hf
  simp only [Value.cells] at hl hy0 hy1
  rw [s1] at hl
  obtain ⟨l⟩ := cs
  match l, hl with
  | [c0, c1], _ =>
  rw [s2, s3] at hy0
  rw [s4, s5] at hy1
  simp at hy0 hy1
  obtain ⟨F, e1, _, wF⟩ := DataW.trod_int h1 hy1
  simp at e1
  subst e1
  rcases open_ints h0 he s6 hy0 with ⟨hcs, _⟩ | ⟨x, len, cap, zs, hcs, _, hl, hm, hz, _, hcell, hwz⟩
  · simp at hcs
    subst hcs
    exact ⟨none, 0, 0, [], F, rfl, ArgInts.nil, wF⟩
  · simp at hcs
    subst hcs
    exact ⟨some x, len, cap, _, F, rfl, ArgInts.mk' hl hm (by simpa using hz) hcell hwz, wF⟩
end Go.Proofs.YtbbaleambgaanaaGreatDoor
namespace Go.Proofs.YtbbaleambgaanaaGreatDoor
open Go.RowKit
theorem step_box_obj {P : Program} {w : World} {ops : Array Oper} {o : Oper} {a : Act} {Q : Exit → Act → World → Prop} {K : Act → World → Prop} {E : Prop} (hgd : o.guard = none) (T : TypeId) (x : Operand) (ho : o.op = .box T x) (vs : List Value) (hx : a.eval x = .agg vs.toArray)
    (k : ∀ w', ObjAt w' w.heap.size T vs → Below w.heap.size w w' → K (a.put o.dst (.pointer (some ⟨w.heap.size, 0, none⟩))) w') :
    if Region.wanted o (yielded ops a.tmps) = true then Oper.wp P o a w K Q else E := by
  have hw : Region.wanted o (yielded ops a.tmps) = true := by simp [Region.wanted, hgd]
  rw [if_pos hw]
  unfold Oper.wp
  simp [execOp, ho, hx, Instr.box, newVar, newRow, Result.andThen, Value.cells]
  exact k _ (heap_alloc_new w _) ((Below.refl _ _).alloc (Nat.le_refl _) _)
end Go.Proofs.YtbbaleambgaanaaGreatDoor
namespace Go.Proofs.YtbbaleambgaanaaGreatDoor
open Go.RowKit Go.Proofs.YtbbaleambgaanaaGreatDoor.Fit Pxr Pnm Etr
set_option maxRecDepth 100000 in
set_option maxHeartbeats 16000000 in
theorem walk_EntryDecodeMatchesReference (a : Option Addr) (len cap : Nat) (zs : List Int) (ca : Option Addr) (cl cc : Nat) (cs : List Int) (F : Int) (w : World) (V : MVars w) (hz : ArgInts .u8 w a len cap zs) (hc : ArgInts .i64 w ca cl cc cs) (_ : (Lit.int .i64 F).wf = true) :
    Calls Tryz.prog 4 #[.slice a len cap, .agg #[.slice ca cl cc, .int .i64 F]] w fun e w' => e = .returned (.bool true) ∧ Below w.heap.size w w' := by
  have HB := Lib.hid hz.bytes; have HL := Lib.hid hz.1; have HC := Lib.hid hz.2.1; have HI := Lib.hid hc.inK; have HCL := Lib.hid hc.1
  have V0 := Lib.hid (MV.of V)
  have EO := Lib.hid enT; have EZ := Lib.hid zEn
  have gE : Tryz.prog.eqGuardType Tryz.prog.depth 23 = false := by kernel_rfl
  have HQ := Lib.hid fun (k : Int) (p : ByteArray) (m : Int) (t : ByteArray) (s : Int) (w : World) => (show (Op.equalIn 10000 23 (.agg (enV k p m t s).toArray) (.agg (enV k p m t s).toArray)).run Tryz.prog w = .ok true w by rw [run_eqE]; simp)
  clear hz hc V
  by_cases h5000 : (20000 : Int) < len
  · go_enter Tryz.func4, Tryz.ntmps4
    go_wp2_with (first | (refine wpList_box_obj rfl 36 _ rfl [.slice ca cl cc, .int .i64 F] rfl ?_; intro w1 h1 b1; have H1 := Lib.hid h1; have B1 := Lib.hid b1; have c0 := h1.get 0 rfl; have c1 := h1.get 1 rfl; clear h1 b1))
    refine (Etr.alive_any _ (V0.out.f.go B1.out).v).mono ?_; rintro e w2 ⟨rfl, b2⟩
    go_wp2
    go_ret
    exact ⟨rfl, B1.out.trans (b2.mono B1.out.size)⟩
  · by_cases h300 : (300 : Int) < cl
    · go_enter Tryz.func4, Tryz.ntmps4
      go_wp2_with (first | (refine wpList_box_obj rfl 36 _ rfl [.slice ca cl cc, .int .i64 F] rfl ?_; intro w1 h1 b1; have H1 := Lib.hid h1; have B1 := Lib.hid b1; have c0 := h1.get 0 rfl; have c1 := h1.get 1 rfl; clear h1 b1))
      refine (Etr.alive_any _ (V0.out.f.go B1.out).v).mono ?_; rintro e w2 ⟨rfl, b2⟩
      go_wp2
      go_ret
      exact ⟨rfl, B1.out.trans (b2.mono B1.out.size)⟩
    · obtain ⟨Z, hZ⟩ := named (zs.take (endN F len))
      obtain ⟨E, hE⟩ := named (endE F len)
      have E4 : Hid (E = 11 ∨ E = 4) := by show _ ∨ _; rw [hE.out]; exact endE_ne _ _
      have ZB : Hid (Bytes Z) := by show Bytes _; rw [hZ.out]; exact HB.out.bytes.take _
      obtain ⟨dl, hdl⟩ := named (len / 512 + 2)
      have hdl1 : (len : Int) / 512 + 2 = (dl : Int) := by have := hdl.out; omega
      have hdl8 : (dl : Int) ≤ 100 := by omega
      go_enter Tryz.func4, Tryz.ntmps4
      go_wp2_with (first | (refine wpList_box_obj rfl 36 _ rfl [.slice ca cl cc, .int .i64 F] rfl ?_; intro w1 h1 b1; have H1 := Lib.hid h1; have B1 := Lib.hid b1; have c0 := h1.get 0 rfl; have c1 := h1.get 1 rfl; clear h1 b1))
      have K0 : Hid (∀ w', Below w1.heap.size w1 w' → w'.cell? ⟨w.heap.size, 0, none⟩ = some (.slice ca cl cc) ∧ w'.cell? ⟨w.heap.size, 1, none⟩ = some (.int .i64 F)) := fun w' hb => ⟨(H1.out.below hb H1.out.lt).get 0 rfl, (H1.out.below hb H1.out.lt).get 1 rfl⟩
      have HB1 := Lib.hid (HB.out.below B1.out); have HI1 := Lib.hid (HI.out.below B1.out); have V1 := Lib.hid (V0.out.go B1.out)
      clear c0 c1
      refine wp_region_held_drew (S := (fun w' => w'.cell? ⟨w.heap.size, 0, none⟩ = some (.slice ca cl cc) ∧ w'.cell? ⟨w.heap.size, 1, none⟩ = some (.int .i64 F))) (by kernel_rfl) (K0.out _ (Below.refl _ _).drew) (fun hHeld => ?_)
      refine tk 0 { dst := some 26, op := Go.Op.move (Go.Operand.tmp 0), type := 24, pos := "law.go:40", after := #[], guard := none } ?_ ?_ ?_
      rotate_left 1
      focus ((intro wS hSw; (try dsimp only at hSw); go_simp) <;> (try with_reducible rfl))
      simp only [Act.put, List.setIfInBounds_toArray, List.set_cons_zero, List.set_cons_succ]
      refine tk 1 { dst := some 27, op := Go.Op.load 36 (Go.Operand.tmp 3), type := 36, pos := "law.go:40", after := #[], guard := none } ?_ ?_ ?_
      rotate_left 1
      focus ((intro wS hSw; (try dsimp only at hSw); go_simp) <;> (try with_reducible rfl))
      simp only [Act.put, List.setIfInBounds_toArray, List.set_cons_zero, List.set_cons_succ]
      refine tk 4 { dst := some 30, op := Go.Op.move (Go.Operand.tmp 0), type := 24, pos := "law.go:40", after := #[], guard := none } ?_ ?_ ?_
      rotate_left 1
      focus ((intro wS hSw; (try dsimp only at hSw); go_simp) <;> (try with_reducible rfl))
      simp only [Act.put, List.setIfInBounds_toArray, List.set_cons_zero, List.set_cons_succ]
      refine tk 5 { dst := some 31, op := Go.Op.load 36 (Go.Operand.tmp 3), type := 36, pos := "law.go:40", after := #[], guard := none } ?_ ?_ ?_
      rotate_left 1
      focus ((intro wS hSw; (try dsimp only at hSw); go_simp) <;> (try with_reducible rfl))
      simp only [Act.put, List.setIfInBounds_toArray, List.set_cons_zero, List.set_cons_succ]
      refine wpAnyH_ready (rs := [2]) (by kernel_rfl) (by simp) ?_
      refine AllReadyH.cons (o := { dst := some 28, op := Go.Op.call { callee := Go.Callee.value (Go.Operand.func 16), args := #[Go.Operand.tmp 26, Go.Operand.tmp 27], argTypes := #[24, 36] }, type := 39, pos := "law.go:40", after := #[{ on := 0, ground := Go.Ground.data }, { on := 1, ground := Go.Ground.data }], guard := none }) rfl (fun K hK => ?_) AllReadyH.nil
      go_simp
      refine (new_any a len cap zs ca cl cc cs F _ (HB1.out.below (Below.refl w1.heap.size w1).drew) HL.out HC.out (by omega) (HI1.out.below (Below.refl w1.heap.size w1).drew) HCL.out (by omega)).mono ?_; rintro e w2 ⟨s, rfl, s2, b2⟩
      rw [← hZ.out, ← hE.out] at s2
      have S2 : Hid (Src w2 w1.heap.size w2.heap.size s Z E cs 0 0) := s2
      have B2 : Hid (Below w1.heap.size w1 w2) := (Below.refl w1.heap.size w1).drew.trans b2
      clear s2 b2
      go_wp2_with fail
      refine hK.out _ _ (K0.out _ B2.out) (fun hHeld => ?_)
      clear hK K
      (try simp only [Act.put, List.setIfInBounds_toArray, List.set_cons_zero, List.set_cons_succ])
      refine wpAnyH_ready (rs := [3]) (by kernel_rfl) (by simp) ?_
      refine AllReadyH.cons (o := { dst := some 29, op := Go.Op.call { callee := Go.Callee.value (Go.Operand.func 15), args := #[Go.Operand.tmp 28], argTypes := #[39] }, type := 37, pos := "law.go:40", after := #[{ on := 2, ground := Go.Ground.data }, { on := 2, ground := Go.Ground.chain }], guard := none }) rfl (fun K hK => ?_) AllReadyH.nil
      go_simp
      refine (rdr_new w2 S2.out).mono ?_; rintro e w3 ⟨q, rfl, r3, b3⟩
      have R3 := Lib.hid r3; have B3 := Lib.hid (B2.out.trans (b3.mono B2.out.size))
      clear r3 b3
      go_wp2_with fail
      refine hK.out _ _ (K0.out _ B3.out) (fun hHeld => ?_)
      clear hK K
      (try simp only [Act.put, List.setIfInBounds_toArray, List.set_cons_zero, List.set_cons_succ])
      refine wpAnyH_ready (rs := [6]) (by kernel_rfl) (by simp) ?_
      refine AllReadyH.cons (o := { dst := some 32, op := Go.Op.call { callee := Go.Callee.value (Go.Operand.func 17), args := #[Go.Operand.tmp 30, Go.Operand.tmp 31], argTypes := #[24, 36] }, type := 42, pos := "law.go:40", after := #[{ on := 4, ground := Go.Ground.data }, { on := 5, ground := Go.Ground.data }, { on := 3, ground := Go.Ground.chain }], guard := none }) rfl (fun K hK => ?_) AllReadyH.nil
      go_simp
      refine (rnew_any a len cap zs ca cl cc cs F w3 (HB1.out.below B3.out) HL.out (by omega) (HI1.out.below B3.out) HCL.out (by omega)).mono ?_; rintro e w4 ⟨m, rfl, r4, b4⟩
      have M4 := Lib.hid r4; have B4 := Lib.hid b4
      have R4 := Lib.hid (R3.out.below b4)
      have B14 := Lib.hid (B3.out.trans (b4.mono B3.out.size))
      clear r4 b4
      go_wp2_with fail
      refine hK.out _ _ (K0.out _ B14.out) (fun hHeld => ?_)
      clear hK K
      (try simp only [Act.put, List.setIfInBounds_toArray, List.set_cons_zero, List.set_cons_succ])
      refine tk 7 { dst := some 33, op := Go.Op.build 45 #[(0, Go.Operand.tmp 32)], type := 45, pos := "law.go:40", after := #[{ on := 6, ground := Go.Ground.data }, { on := 9, ground := Go.Ground.gcOnly Go.Departure.lateStores }], guard := none } ?_ ?_ ?_
      rotate_left 1
      focus ((intro wS hSw; (try dsimp only at hSw); go_simp) <;> (try with_reducible rfl))
      simp only [Act.put, List.setIfInBounds_toArray, List.set_cons_zero, List.set_cons_succ]
      refine tk 9 { dst := some 5, op := Go.Op.assign (Go.Operand.tmp 29), type := 37, pos := "law.go:40", after := #[{ on := 3, ground := Go.Ground.data }, { on := 6, ground := Go.Ground.chain }, { on := 0, ground := Go.Ground.phase }, { on := 1, ground := Go.Ground.phase }, { on := 2, ground := Go.Ground.phase }, { on := 3, ground := Go.Ground.phase }, { on := 4, ground := Go.Ground.textOnly Go.Departure.lateStores }, { on := 5, ground := Go.Ground.textOnly Go.Departure.lateStores }, { on := 6, ground := Go.Ground.textOnly Go.Departure.lateStoresUnsure }, { on := 7, ground := Go.Ground.textOnly Go.Departure.lateStores }, { on := 8, ground := Go.Ground.textOnly Go.Departure.lateStores }], guard := none } ?_ ?_ ?_
      rotate_left 1
      focus ((intro wS hSw; (try dsimp only at hSw); go_simp) <;> (try with_reducible rfl))
      simp only [Act.put, List.setIfInBounds_toArray, List.set_cons_zero, List.set_cons_succ]
      refine wpAnyH_ready (rs := [8]) (by kernel_rfl) (by simp) ?_
      refine AllReadyH.cons (o := { dst := some 34, op := Go.Op.box 45 (Go.Operand.tmp 33), type := 41, pos := "law.go:40", after := #[{ on := 7, ground := Go.Ground.data }, { on := 9, ground := Go.Ground.gcOnly Go.Departure.lateStores }], guard := none }) rfl (fun K hK => ?_) AllReadyH.nil
      refine step_box_obj rfl 45 _ rfl [.pointer (some ⟨m, 0, none⟩), .int .i64 0, .int .i64 0] rfl ?_; intro w5 h5 b5; have H5 := Lib.hid h5; have B5 := Lib.hid b5; clear h5 b5
      have B15 := Lib.hid (B14.out.trans (B5.out.mono B14.out.size))
      refine hK.out _ _ (K0.out _ B15.out) (fun hHeld => ?_)
      clear hK K
      (try simp only [Act.put, List.setIfInBounds_toArray, List.set_cons_zero, List.set_cons_succ])
      refine tk 10 { dst := some 6, op := Go.Op.assign (Go.Operand.tmp 34), type := 41, pos := "law.go:40", after := #[{ on := 8, ground := Go.Ground.data }, { on := 9, ground := Go.Ground.chain }, { on := 0, ground := Go.Ground.phase }, { on := 1, ground := Go.Ground.phase }, { on := 2, ground := Go.Ground.phase }, { on := 3, ground := Go.Ground.phase }, { on := 4, ground := Go.Ground.phase }, { on := 5, ground := Go.Ground.phase }, { on := 6, ground := Go.Ground.phase }, { on := 7, ground := Go.Ground.phase }, { on := 8, ground := Go.Ground.phase }, { on := 9, ground := Go.Ground.phase }], guard := none } ?_ ?_ ?_
      rotate_left 1
      focus ((intro wS hSw; (try dsimp only at hSw); go_simp) <;> (try with_reducible rfl))
      simp only [Act.put, List.setIfInBounds_toArray, List.set_cons_zero, List.set_cons_succ]
      refine wpAnyH_done (by kernel_rfl) ?_ _
      have LH0 : Hid (w1.heap.size ≤ w3.heap.size ∧ w3.heap.size ≤ w4.heap.size ∧ w4.heap.size < w5.heap.size) := ⟨B3.out.size, B4.out.size, H5.out.lt⟩
      have R5' := Lib.hid (R4.out.below B5.out)
      have ZT : Z = zs.take (endN F zs.length) := by rw [hZ.out, HL.out]
      have ET : E = endE F zs.length := by rw [hE.out, HL.out]
      have Q5' : Hid (RRd w5 w3.heap.size w5.heap.size w4.heap.size Z E 0 0) := by
        show RRd _ _ _ _ _ _ _ _
        have l5 := H5.out.lt
        have z4 := B4.out.size
        exact ⟨m, w4.heap.size, zs, F, cs, 0, H5.out, M4.out.out (lo' := w4.heap.size) (hi' := w4.heap.size) (.of_below B5.out (Nat.le_refl _)) (.inl (Nat.le_refl _)), z4, Nat.le_refl _, l5, Nat.le_refl _, ZT, ET, Nat.zero_le _⟩
      clear ZT ET R4 M4 R3 S2
      obtain ⟨lo, hlo⟩ := named w1.heap.size
      obtain ⟨hi, hhi⟩ := named w3.heap.size
      obtain ⟨p, hp⟩ := named w4.heap.size
      obtain ⟨top, htop⟩ := named w5.heap.size
      have R5 : Hid (Rdr w5 lo hi q Z E 0 0) := by show Rdr _ _ _ _ _ _ _ _; rw [hlo.out, hhi.out]; exact R5'.out
      have Q5 : Hid (RRd w5 hi top p Z E 0 0) := by show RRd _ _ _ _ _ _ _ _; rw [hhi.out, htop.out, hp.out]; exact Q5'.out
      have LH : Hid (lo ≤ hi ∧ hi ≤ p ∧ p < top) := by show _ ∧ _ ∧ _; rw [hlo.out, hhi.out, hp.out, htop.out]; exact LH0.out
      have LW : Hid (w.heap.size ≤ lo) := by show _ ≤ _; rw [hlo.out]; exact B1.out.size
      rw [← hp.out]
      clear R5' Q5' LH0
      go_wp2_with fail
      go_loopw [39] (fun i wr => ∃ (j o : Nat) (err : Int), j ≤ dl ∧ i = .int .i64 j ∧ Rdr wr lo hi q Z E o err ∧ RRd wr hi top p Z E o err ∧ Below w1.heap.size w1 wr) (fun i _ => dl - (intOf i).toNat)
      case atStart => exact ⟨0, 0, 0, Nat.zero_le _, rfl, R5.out, Q5.out, B15.out⟩
      case round =>
        obtain ⟨j, o, err, hj, rfl, hr, hq, hbel⟩ := hrel
        have RR := Lib.hid hr; have QQ := Lib.hid hq; have BR := Lib.hid hbel
        clear hr hq hbel
        by_cases hlt : j < dl
        · have hlt' : (j : Int) < dl := by omega
          have VR := Lib.hid (V1.out.below (BR.out.mono B1.out.size))
          obtain ⟨d, hd⟩ := named (dcd Z E o err)
          have PD := pdecd_any wr RR.out E4.out VR.out LW.out
          have RD := Lib.hid fun (w' : World) (h : RRd w' hi top p Z E o err) => rdecd_any w' h ZB.out
          rw [← hd.out] at PD RD
          obtain ⟨⟨xk, xp, xm, xt, xs⟩, P, XE, O, S⟩ := d
          have PD' : Hid (Calls Tryz.prog 18 #[.pointer (some ⟨q, 0, none⟩)] wr fun e w' => e = .returned (.tuple #[.agg (enV xk xp xm xt xs).toArray, .int .i64 P, .int .i64 XE]) ∧ Rdr w' lo hi q Z E O S ∧ Out lo hi wr w') := PD
          have RD' : Hid (∀ w', RRd w' hi top p Z E o err → Calls Tryz.prog 19 #[.pointer (some ⟨p, 0, none⟩)] w' fun e w'' => e = .returned (.tuple #[.agg (enV xk xp xm xt xs).toArray, .int .i64 P, .int .i64 XE]) ∧ RRd w'' hi top p Z E O S ∧ Out hi top w' w'') := RD.out
          have hq1 := HQ.out xk xp xm xt xs
          clear PD RD
          go_wp2_with fail
          refine PD'.out.mono ?_; rintro e w6 ⟨rfl, r6, u6⟩
          have R6 := Lib.hid r6; have Q6 := Lib.hid (QQ.out.out u6 (.inr (Nat.le_refl _)))
          have B6 := Lib.hid (BR.out.trans (u6.below (B := w1.heap.size) (by rw [hlo.out]; exact Nat.le_refl _) BR.out.size))
          clear r6 u6
          go_wp2_with (first | (refine wpList_alloc_obj rfl 23 rfl (enV 0 emp 0 emp 0) EZ.out ?_; intro w8a ga ba; have XAw8 := Lib.hid ga; have BAw8 := Lib.hid ba; clear ga ba) | (refine wpList_store_obj rfl 23 _ _ rfl w6.heap.size rfl (enV xk xp xm xt xs) (enV 0 emp 0 emp 0) rfl 23 XAw8.out EO.out.2 rfl (en_one _ _ _ _ _) ?_; intro w8 gb tb; have G8 := Lib.hid gb; have B8 := Lib.hid (BAw8.out.trans (tb.below (Nat.le_refl _))); clear gb tb))
          have R8 := Lib.hid (R6.out.below B8.out); have Q8 := Lib.hid (Q6.out.below B8.out); have L8 := Lib.hid G8.out.lt
          have T8 : Hid (top ≤ w6.heap.size) := Q6.out.size.1
          refine (RD'.out w8 Q8.out).mono ?_; rintro e w9 ⟨rfl, r9, u9⟩
          have Q9 := Lib.hid r9; have R9 := Lib.hid (R8.out.out u9 (.inl (Nat.le_refl _)))
          have G9 := Lib.hid (G8.out.out u9 (.inr T8.out))
          have B9 := Lib.hid ((B6.out.trans (B8.out.mono B6.out.size)).trans (u9.below (B := w1.heap.size) (by rw [← hlo.out]; exact LH.out.1) (Nat.le_trans B6.out.size B8.out.size)))
          clear r9 u9
          go_wp2_with (first | (refine wpList_alloc_obj rfl 23 rfl (enV 0 emp 0 emp 0) EZ.out ?_; intro wBa ga ba; have XAwB := Lib.hid ga; have BAwB := Lib.hid ba; clear ga ba) | (refine wpList_store_obj rfl 23 _ _ rfl w9.heap.size rfl (enV xk xp xm xt xs) (enV 0 emp 0 emp 0) rfl 23 XAwB.out EO.out.2 rfl (en_one _ _ _ _ _) ?_; intro wB gb tb; have GB := Lib.hid gb; have BB := Lib.hid (BAwB.out.trans (tb.below (Nat.le_refl _))); clear gb tb))
          have RB := Lib.hid (R9.out.below BB.out); have QB := Lib.hid (Q9.out.below BB.out); have GA := Lib.hid (G9.out.below BB.out G9.out.lt)
          obtain ⟨g1, hg1⟩ := named w6.heap.size
          obtain ⟨g2, hg2⟩ := named w9.heap.size
          have BN := Lib.hid (B9.out.trans (BB.out.mono B9.out.size))
          rw [← hg1.out] at GA
          rw [← hg2.out] at GB
          rw [← hg1.out, ← hg2.out]
          have KS : Hid ((fun w' => (w'.cell? ⟨g1, 0, none⟩ = some (.int .i64 xk) ∧ w'.cell? ⟨g1, 1, none⟩ = some (.string xp) ∧ w'.cell? ⟨g1, 2, none⟩ = some (.int .i64 xm) ∧ w'.cell? ⟨g1, 3, none⟩ = some (.string xt) ∧ w'.cell? ⟨g1, 4, none⟩ = some (.int .i64 xs)) ∧ (w'.cell? ⟨g2, 0, none⟩ = some (.int .i64 xk) ∧ w'.cell? ⟨g2, 1, none⟩ = some (.string xp) ∧ w'.cell? ⟨g2, 2, none⟩ = some (.int .i64 xm) ∧ w'.cell? ⟨g2, 3, none⟩ = some (.string xt) ∧ w'.cell? ⟨g2, 4, none⟩ = some (.int .i64 xs)) ∧ w'.cell? ⟨p, 1, none⟩ = some (.int .i64 O)) wB.drew) := by
            have h1 := GA.out.below (Below.refl wB.heap.size wB).drew GA.out.lt
            have h2 := GB.out.below (Below.refl wB.heap.size wB).drew GB.out.lt
            have h3 := QB.out.below (Below.refl wB.heap.size wB).drew
            exact ⟨⟨h1.get 0 rfl, h1.get 1 rfl, h1.get 2 rfl, h1.get 3 rfl, h1.get 4 rfl⟩, ⟨h2.get 0 rfl, h2.get 1 rfl, h2.get 2 rfl, h2.get 3 rfl, h2.get 4 rfl⟩, h3.cell1⟩
          clear hlt
          go_simp
          refine wp_region_held_drew (S := (fun w' => (w'.cell? ⟨g1, 0, none⟩ = some (.int .i64 xk) ∧ w'.cell? ⟨g1, 1, none⟩ = some (.string xp) ∧ w'.cell? ⟨g1, 2, none⟩ = some (.int .i64 xm) ∧ w'.cell? ⟨g1, 3, none⟩ = some (.string xt) ∧ w'.cell? ⟨g1, 4, none⟩ = some (.int .i64 xs)) ∧ (w'.cell? ⟨g2, 0, none⟩ = some (.int .i64 xk) ∧ w'.cell? ⟨g2, 1, none⟩ = some (.string xp) ∧ w'.cell? ⟨g2, 2, none⟩ = some (.int .i64 xm) ∧ w'.cell? ⟨g2, 3, none⟩ = some (.string xt) ∧ w'.cell? ⟨g2, 4, none⟩ = some (.int .i64 xs)) ∧ w'.cell? ⟨p, 1, none⟩ = some (.int .i64 O))) (by kernel_rfl) (KS.out) (fun hHeld => ?_)
          refine tk 0 { dst := some 53, op := Go.Op.load 23 (Go.Operand.tmp 7), type := 23, pos := "law.go:44", after := #[], guard := none } ?_ ?_ ?_
          rotate_left 1
          focus ((intro wS hSw; (try dsimp only at hSw); go_simp) <;> (try with_reducible rfl))
          simp only [Act.put, List.setIfInBounds_toArray, List.set_cons_zero, List.set_cons_succ]
          refine tk 1 { dst := some 54, op := Go.Op.load 23 (Go.Operand.tmp 10), type := 23, pos := "law.go:44", after := #[], guard := none } ?_ ?_ ?_
          rotate_left 1
          focus ((intro wS hSw; (try dsimp only at hSw); go_simp) <;> (try with_reducible rfl))
          simp only [Act.put, List.setIfInBounds_toArray, List.set_cons_zero, List.set_cons_succ]
          refine tk 2 { dst := some 55, op := Go.Op.binOp Go.BinOp.neq 23 (Go.Operand.tmp 53) (Go.Operand.tmp 54) 23, type := 4, pos := "law.go:44", after := #[{ on := 0, ground := Go.Ground.data }, { on := 1, ground := Go.Ground.data }], guard := none } ?_ ?_ ?_
          rotate_left 1
          focus ((intro wS hSw; (try dsimp only at hSw); go_simp) <;> (try with_reducible rfl))
          simp only [Act.put, List.setIfInBounds_toArray, List.set_cons_zero, List.set_cons_succ]
          refine tk 3 { dst := some 56, op := Go.Op.move (Go.Operand.tmp 55), type := 4, pos := "law.go:44", after := #[{ on := 2, ground := Go.Ground.data }], guard := none } ?_ ?_ ?_
          rotate_left 1
          focus ((intro wS hSw; (try dsimp only at hSw); go_simp) <;> (try with_reducible rfl))
          simp only [Act.put, List.setIfInBounds_toArray, List.set_cons_zero, List.set_cons_succ]
          refine tk 4 { dst := some 57, op := Go.Op.move (Go.Operand.tmp 8), type := 2, pos := "law.go:44", after := #[{ on := 3, ground := Go.Ground.guard }], guard := some (3, false) } ?_ ?_ ?_
          rotate_left 1
          focus ((intro wS hSw; (try dsimp only at hSw); go_simp) <;> (try with_reducible rfl))
          simp only [Act.put, List.setIfInBounds_toArray, List.set_cons_zero, List.set_cons_succ]
          refine tk 5 { dst := some 58, op := Go.Op.move (Go.Operand.tmp 11), type := 2, pos := "law.go:44", after := #[{ on := 3, ground := Go.Ground.guard }], guard := some (3, false) } ?_ ?_ ?_
          rotate_left 1
          focus ((intro wS hSw; (try dsimp only at hSw); go_simp) <;> (try with_reducible rfl))
          simp only [Act.put, List.setIfInBounds_toArray, List.set_cons_zero, List.set_cons_succ]
          refine tk 6 { dst := some 59, op := Go.Op.binOp Go.BinOp.neq 2 (Go.Operand.tmp 57) (Go.Operand.tmp 58) 2, type := 4, pos := "law.go:44", after := #[{ on := 4, ground := Go.Ground.data }, { on := 5, ground := Go.Ground.data }, { on := 3, ground := Go.Ground.guard }], guard := some (3, false) } ?_ ?_ ?_
          rotate_left 1
          focus ((intro wS hSw; (try dsimp only at hSw); go_simp) <;> (try with_reducible rfl))
          simp only [Act.put, List.setIfInBounds_toArray, List.set_cons_zero, List.set_cons_succ]
          refine tk 7 { dst := some 60, op := Go.Op.pick (Go.Operand.tmp 56) (Go.Operand.const (Go.Value.bool true)) (Go.Operand.tmp 59), type := 4, pos := "law.go:44", after := #[{ on := 3, ground := Go.Ground.data }, { on := 6, ground := Go.Ground.data }], guard := none } ?_ ?_ ?_
          rotate_left 1
          focus ((intro wS hSw; (try dsimp only at hSw); go_simp) <;> (try with_reducible rfl))
          simp only [Act.put, List.setIfInBounds_toArray, List.set_cons_zero, List.set_cons_succ]
          refine tk 8 { dst := some 61, op := Go.Op.move (Go.Operand.tmp 60), type := 4, pos := "law.go:44", after := #[{ on := 7, ground := Go.Ground.data }, { on := 3, ground := Go.Ground.chain }], guard := none } ?_ ?_ ?_
          rotate_left 1
          focus ((intro wS hSw; (try dsimp only at hSw); go_simp) <;> (try with_reducible rfl))
          simp only [Act.put, List.setIfInBounds_toArray, List.set_cons_zero, List.set_cons_succ]
          refine tk 9 { dst := some 62, op := Go.Op.move (Go.Operand.tmp 9), type := 27, pos := "law.go:44", after := #[{ on := 8, ground := Go.Ground.guard }], guard := some (8, false) } ?_ ?_ ?_
          rotate_left 1
          focus ((intro wS hSw; (try dsimp only at hSw); go_simp) <;> (try with_reducible rfl))
          simp only [Act.put, List.setIfInBounds_toArray, List.set_cons_zero, List.set_cons_succ]
          refine tk 10 { dst := some 63, op := Go.Op.move (Go.Operand.tmp 12), type := 3, pos := "law.go:44", after := #[{ on := 8, ground := Go.Ground.guard }], guard := some (8, false) } ?_ ?_ ?_
          rotate_left 1
          focus ((intro wS hSw; (try dsimp only at hSw); go_simp) <;> (try with_reducible rfl))
          simp only [Act.put, List.setIfInBounds_toArray, List.set_cons_zero, List.set_cons_succ]
          refine tk 11 { dst := some 64, op := Go.Op.binOp Go.BinOp.neq 3 (Go.Operand.tmp 62) (Go.Operand.tmp 63) 3, type := 4, pos := "law.go:44", after := #[{ on := 9, ground := Go.Ground.data }, { on := 10, ground := Go.Ground.data }, { on := 8, ground := Go.Ground.guard }], guard := some (8, false) } ?_ ?_ ?_
          rotate_left 1
          focus ((intro wS hSw; (try dsimp only at hSw); go_simp) <;> (try with_reducible rfl))
          simp only [Act.put, List.setIfInBounds_toArray, List.set_cons_zero, List.set_cons_succ]
          refine tk 12 { dst := some 65, op := Go.Op.pick (Go.Operand.tmp 61) (Go.Operand.const (Go.Value.bool true)) (Go.Operand.tmp 64), type := 4, pos := "law.go:44", after := #[{ on := 8, ground := Go.Ground.data }, { on := 11, ground := Go.Ground.data }], guard := none } ?_ ?_ ?_
          rotate_left 1
          focus ((intro wS hSw; (try dsimp only at hSw); go_simp) <;> (try with_reducible rfl))
          simp only [Act.put, List.setIfInBounds_toArray, List.set_cons_zero, List.set_cons_succ]
          refine tk 13 { dst := some 66, op := Go.Op.move (Go.Operand.tmp 65), type := 4, pos := "law.go:44", after := #[{ on := 12, ground := Go.Ground.data }, { on := 8, ground := Go.Ground.chain }], guard := none } ?_ ?_ ?_
          rotate_left 1
          focus ((intro wS hSw; (try dsimp only at hSw); go_simp) <;> (try with_reducible rfl))
          simp only [Act.put, List.setIfInBounds_toArray, List.set_cons_zero, List.set_cons_succ]
          refine tk 14 { dst := some 67, op := Go.Op.move (Go.Operand.tmp 5), type := 37, pos := "law.go:44", after := #[{ on := 13, ground := Go.Ground.guard }], guard := some (13, false) } ?_ ?_ ?_
          rotate_left 1
          focus ((intro wS hSw; (try dsimp only at hSw); go_simp) <;> (try with_reducible rfl))
          simp only [Act.put, List.setIfInBounds_toArray, List.set_cons_zero, List.set_cons_succ]
          refine tk 16 { dst := some 69, op := Go.Op.move (Go.Operand.tmp 6), type := 41, pos := "law.go:44", after := #[{ on := 13, ground := Go.Ground.guard }], guard := some (13, false) } ?_ ?_ ?_
          rotate_left 1
          focus ((intro wS hSw; (try dsimp only at hSw); go_simp) <;> (try with_reducible rfl))
          simp only [Act.put, List.setIfInBounds_toArray, List.set_cons_zero, List.set_cons_succ]
          refine tk 17 { dst := some 70, op := Go.Op.nilCheck (Go.Operand.tmp 69), type := 0, pos := "law.go:44", after := #[{ on := 16, ground := Go.Ground.data }, { on := 13, ground := Go.Ground.guard }], guard := some (13, false) } ?_ ?_ ?_
          rotate_left 1
          focus ((intro wS hSw; (try dsimp only at hSw); go_simp) <;> (try with_reducible rfl))
          simp only [Act.put, List.setIfInBounds_toArray, List.set_cons_zero, List.set_cons_succ]
          refine tk 18 { dst := some 71, op := Go.Op.fieldAddr 45 (Go.Operand.tmp 70) 1, type := 0, pos := "law.go:44", after := #[{ on := 17, ground := Go.Ground.data }, { on := 13, ground := Go.Ground.guard }], guard := some (13, false) } ?_ ?_ ?_
          rotate_left 1
          focus ((intro wS hSw; (try dsimp only at hSw); go_simp) <;> (try with_reducible rfl))
          simp only [Act.put, List.setIfInBounds_toArray, List.set_cons_zero, List.set_cons_succ]
          refine tk 19 { dst := some 72, op := Go.Op.load 2 (Go.Operand.tmp 71), type := 2, pos := "law.go:44", after := #[{ on := 18, ground := Go.Ground.data }, { on := 13, ground := Go.Ground.guard }], guard := some (13, false) } ?_ ?_ ?_
          rotate_left 1
          focus ((intro wS hSw; (try dsimp only at hSw); go_simp) <;> (try with_reducible rfl))
          simp only [Act.put, List.setIfInBounds_toArray, List.set_cons_zero, List.set_cons_succ]
          refine wpAnyH_ready (rs := [15]) (by kernel_rfl) (by simp) ?_
          refine AllReadyH.cons (o := { dst := some 68, op := Go.Op.call { callee := Go.Callee.value (Go.Operand.func 20), args := #[Go.Operand.tmp 67], argTypes := #[37] }, type := 2, pos := "law.go:44", after := #[{ on := 14, ground := Go.Ground.data }, { on := 13, ground := Go.Ground.chain }, { on := 13, ground := Go.Ground.guard }], guard := some (13, false) }) rfl (fun K hK => ?_) AllReadyH.nil
          go_simp
          refine (rdr_off wB.drew (RB.out.below (Below.refl _ _).drew)).mono ?_; rintro e wz ⟨rfl, rfl⟩
          go_wp2_with fail
          refine hK.out _ _ (KS.out) (fun hHeld => ?_)
          clear hK K
          (try simp only [Act.put, List.setIfInBounds_toArray, List.set_cons_zero, List.set_cons_succ])
          refine tk 20 { dst := some 73, op := Go.Op.binOp Go.BinOp.neq 2 (Go.Operand.tmp 68) (Go.Operand.tmp 72) 2, type := 4, pos := "law.go:44", after := #[{ on := 15, ground := Go.Ground.data }, { on := 19, ground := Go.Ground.data }, { on := 13, ground := Go.Ground.guard }], guard := some (13, false) } ?_ ?_ ?_
          rotate_left 1
          focus ((intro wS hSw; (try dsimp only at hSw); go_simp) <;> (try with_reducible rfl))
          simp only [Act.put, List.setIfInBounds_toArray, List.set_cons_zero, List.set_cons_succ]
          refine tk 21 { dst := some 74, op := Go.Op.pick (Go.Operand.tmp 66) (Go.Operand.const (Go.Value.bool true)) (Go.Operand.tmp 73), type := 4, pos := "law.go:44", after := #[{ on := 13, ground := Go.Ground.data }, { on := 20, ground := Go.Ground.data }], guard := none } ?_ ?_ ?_
          rotate_left 1
          focus ((intro wS hSw; (try dsimp only at hSw); go_simp) <;> (try with_reducible rfl))
          simp only [Act.put, List.setIfInBounds_toArray, List.set_cons_zero, List.set_cons_succ]
          refine wpAnyH_done (by kernel_rfl) ?_ _
          go_wp2_with fail
          go_roundw
          case rel => exact ⟨j + 1, O, S, by omega, by go_num, RB.out.below (Below.refl _ _).drew, QB.out.below (Below.refl _ _).drew, BN.out.drew⟩
          case measure => simp [intOf]; omega
        · obtain rfl : j = dl := by omega
          go_wp2_with fail
          refine (pdecd_nil wr).mono ?_; rintro e w6 ⟨hre, b6⟩
          have hre' : e = .returned (.tuple #[.agg (enV 0 emp 0 emp 0).toArray, .int .i64 0, .int .i64 1]) := hre
          subst hre'
          have B6 := Lib.hid (BR.out.trans (b6.mono BR.out.size))
          clear b6 hre
          go_wp2_with (first | (refine wpList_alloc_obj rfl 23 rfl (enV 0 emp 0 emp 0) EZ.out ?_; intro w7 ga ba; have X7 := Lib.hid ga; have B7 := Lib.hid ba; clear ga ba) | (refine wpList_store_obj rfl 23 _ _ rfl w6.heap.size rfl (enV 0 emp 0 emp 0) (enV 0 emp 0 emp 0) rfl 23 X7.out EO.out.2 rfl (en_one _ _ _ _ _) ?_; intro w8 gb tb; have B8 := Lib.hid (B6.out.trans ((B7.out.trans (tb.below (Nat.le_refl _))).mono B6.out.size)); clear gb tb))
          refine (Etr.alive_any _ (V1.out.below (B8.out.mono B1.out.size)).v.f).mono ?_; rintro e w9 ⟨rfl, b9⟩
          go_wp2
          go_ret
          exact ⟨rfl, B1.out.trans ((B8.out.trans (b9.mono B8.out.size)).mono B1.out.size)⟩
end Go.Proofs.YtbbaleambgaanaaGreatDoor
