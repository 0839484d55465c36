/-
  Layer 19: the walk of VfsListIsComplete. (gen_VfsW5.py writes it.)
-/
import Derived.Test.YthcbiohmghaobaaDoorPz10
import Derived.Test.YthcbiohmghaobaaDoorPz11
import Derived.Test.YthcbiohmghaobaaDoorVfsLarge
import Derived.Test.YthcbiohmghaobaaDoorVfsTwo
import Derived.Test.YthcbiohmghaobaaDoorVfsLisC
import Derived.Test.YthcbiohmghaobaaDoorPnmHas
import Derived.Test.YthcbiohmghaobaaDoorVfsW4
namespace Go.Proofs.YthcbiohmghaobaaDoor
open Go.RowKit Go.MapKept Go.Proofs.YthcbiohmghaobaaDoor.Pnm Flt Vfs

theorem Vfs.own_of_obj1 {w : World} {g : Nat} {e : TypeId} {y : ByteArray} (h : ObjAt w g e (ssC [y])) : w.ownsRow g e 1 (.slice (some ⟨g, 0, none⟩) 1 1) 1 (ssC [y]) :=
  ⟨rfl, .inr ⟨g, 1, _, rfl, Nat.le_refl _, h, Nat.le_refl _, by unfold maxLen; omega, rfl, rfl⟩⟩
theorem Vfs.sin_obj1 {w : World} {g : Nat} {e : TypeId} {y : ByteArray} (h : ObjAt w g e (ssC [y])) : SsIn w (some ⟨g, 0, none⟩) [y] :=
  .inr ⟨g, 0, rfl, h.lt, fun i z hi => by rw [Nat.zero_add]; exact h.get i (by unfold ssC; rw [List.getElem?_map, hi]; rfl)⟩
theorem Vfs.dir0s (F : Int) : ∀ d ∈ [(⟨#[]⟩ : ByteArray)], IsDir (st0 F) d := fun d hd => by
  obtain rfl : d = ⟨#[]⟩ := by simpa using hd
  exact dir0 F
set_option maxRecDepth 100000 in
set_option maxHeartbeats 16000000 in
theorem walk_VfsListIsComplete (a0 : Option Addr) (len0 cap0 : Nat) (R : List Int) (a : Option Addr) (len cap : Nat) (ys : List VaS) (w : World) (V : Pxr.Vars w) (hz : ArgInts .u8 w a0 len0 cap0 R) (ha : ArgVas w a len cap ys) :
    Calls Tryd.prog 5 #[.slice a0 len0 cap0, .slice a len cap] w fun e w' => e = .returned (.bool true) ∧ Below w.heap.size w w' := by
  have HA := Lib.hid ha
  have AL := Lib.hid fun w' (hb : Below w.heap.size w w') => alive_any w' (V.go hb)
  have VV := Lib.hid fun w' (hb : Below w.heap.size w w') => V.go hb
  have HI := Lib.hid hz.inK
  have HL : Hid (R.length = len0) := hz.1
  have hcap := hz.2.1
  have BY : Hid (Bytes R) := fun z h => by
    have := hz.2.2.2.1 z h
    simp [Lit.wf, IntKind.min, IntKind.max, IntKind.signed, IntKind.bits] at this
    omega
  have OIT : Hid (ObjT Tryd.prog 52 8) := ⟨⟨_, Tryd.underlying52⟩, by kernel_rfl⟩
  have ZI : Hid ((Tryd.prog.info? 52).map (·.zero) = some (some (.agg (infL 0 0 0 0 0 ⟨#[]⟩ 0 0).toArray))) := by show _ = _; kernel_rfl
  have NZ : Hid ((Tryd.prog.info? 40).map (·.zero) = some (some (.agg (vaL 0 ⟨#[]⟩ 0 none 0 0 ⟨#[]⟩).toArray))) := by show _ = _; kernel_rfl
  have NO : Hid (ObjT Tryd.prog 40 5) := ⟨⟨_, Tryd.underlying40⟩, by kernel_rfl⟩
  have ES : Hid (ElemS Tryd.prog 9) := elemS (by kernel_rfl)
  have OP2 := Lib.hid fun w' => opts_any 0 0 (by omega) (by omega) none 0 0 [] w' (.inl rfl) rfl (Nat.le_refl 0) (fun _ h => by cases h) (by omega)
  have hn : len ≤ maxLen := Nat.le_trans ha.c ha.m
  unfold maxLen at hn
  clear ha V hz
  go_enter Tryd.func5, Tryd.ntmps5
  go_wp2_with fail
  refine (large_any a len cap ys w HA.out).mono ?_; rintro e w0 ⟨RR, rfl, hR, b0⟩
  have B0 := Lib.hid b0
  clear b0
  rcases hR with rfl | ⟨rfl, h40, hsz⟩
  · go_wp2_with fail
    refine (AL.out w0 B0.out).mono ?_; rintro e w4 ⟨rfl, b4⟩
    have B4 := Lib.hid (belT B0.out b4)
    clear b4
    go_wp2_with fail
    go_ret
    exact ⟨rfl, B4.out⟩
  by_cases hl5 : 50 < len0
  · have hp3' : (len0 : Int) > 50 := by omega
    clear h40 hsz hcap
    go_wp2_with fail
    refine (AL.out w0 B0.out).mono ?_; rintro e w4 ⟨rfl, b4⟩
    have B4 := Lib.hid (belT B0.out b4)
    clear b4
    go_wp2_with fail
    go_ret
    exact ⟨rfl, B4.out⟩
  have hl5' : ¬ (len0 : Int) > 50 := by omega
  have N40 := Lib.hid h40; have HSZ := Lib.hid hsz
  have L0 : Hid (len0 ≤ 50) := by show _ ≤ _; omega
  have OP1 := Lib.hid fun w' (hb : Below w.heap.size w w') => opts_any 3 4 (by omega) (by omega) a0 len0 cap0 R w' (HI.out.below hb) HL.out hcap BY.out (by have := L0.out; omega)
  rw [show (1 : Int) + 3 = 4 by decide, show (1 : Int) + 4 = 5 by decide] at OP1
  rw [show (1 : Int) + 0 = 1 by decide] at OP2
  clear h40 hsz hl5 hcap
  go_wp2_with fail
  refine (OP1.out w0 B0.out).mono ?_; rintro e w1 ⟨oa, oc, rfl, io, b1⟩
  have B1 := Lib.hid (belT B0.out b1)
  have NW := Lib.hid (new_good 100 (by omega) 4 5 oa len0 oc R w1 io HL.out (by have := L0.out; omega) (by unfold optE; rw [if_pos ⟨by unfold numOk; omega, by unfold numOk; omega, fun z h => (BY.out z h).1⟩]))
  clear b1 io OP1
  go_wp2_with fail
  refine NW.out.mono ?_; rintro e w2 ⟨f, rfl, h2, b2⟩
  have B2 := Lib.hid (belT B1.out b2); have F2 := Lib.hid h2; have Z12 := Lib.hid b2.size; have Z01 := Lib.hid B1.out.size
  clear b2 h2 NW
  go_wp2_with fail
  refine (OP2.out w2).mono ?_; rintro e w3 ⟨oa2, oc2, rfl, io, b3⟩
  have B3 := Lib.hid (belT B2.out b3); have F3 := Lib.hid (F2.out.below b3); have Z23 := Lib.hid b3.size
  have NW := Lib.hid (new_good 100 (by omega) 1 1 oa2 0 oc2 [] w3 io rfl (by omega) (by unfold optE; rw [if_pos ⟨by unfold numOk; omega, by unfold numOk; omega, fun _ h => by cases h⟩]))
  clear b3 io OP2 F2
  go_wp2_with fail
  refine NW.out.mono ?_; rintro e w4 ⟨g, rfl, h4, b4⟩
  have B4 := Lib.hid (belT B3.out b4); have F4 := Lib.hid (F3.out.below b4); have G4 := Lib.hid h4
  clear b4 h4 NW F3
  go_wp2_with (refine wpList_lit_ss1 rfl 44 9 _ rfl Tryd.underlying44 ES.out ⟨#[]⟩ rfl ?_; intro w5 g5 b5; have R5 := Lib.hid b5; have D5 := Lib.hid g5; clear g5 b5)
  have B5 : Hid (Below w.heap.size w w5) := belT B4.out R5.out
  have O5 : Hid (w5.ownsRow w4.heap.size 9 1 (.slice (some ⟨w4.heap.size, 0, none⟩) 1 1) 1 (ssC [⟨#[]⟩])) := own_of_obj1 D5.out
  have SY0 : Hid (Sy R w.heap.size (fun _ => False) f g w5 (st0 4) (st0 1) (.slice (some ⟨w4.heap.size, 0, none⟩) 1 1) [⟨#[]⟩]) := Sy.start F4.out G4.out Z01.out Z12.out Z23.out R5.out O5.out
  clear D5 R5 O5 F4 G4 Z12 Z01 Z23 B0 B1 B2 B3 B4 hl5'
  go_loopw [9, 61] (fun v i wr => ∃ (j : Nat) (D : List ByteArray) (s t : St) (dv : Value), dv = v ∧ Hid (Sy R w.heap.size (fun _ => False) f g wr s t dv D) ∧ i = .int .i64 j ∧ j ≤ len ∧ Hid (Gd 100 4 5 s) ∧ Hid (Gd 100 1 1 t) ∧ Hid (s.ps.length ≤ j + 1) ∧ Hid (t.ps.length ≤ j + 1) ∧ Hid (Nm s) ∧ Hid (Alk s t) ∧ Hid (∀ d ∈ D, IsDir s d) ∧ Hid (D.length ≤ j + 1) ∧ Hid (Below w.heap.size w wr)) (fun _ i _ => len - (intOf i).toNat)
  case atStart => exact ⟨0, [⟨#[]⟩], st0 4, st0 1, _, rfl, SY0, rfl, Nat.zero_le _, gd0 100 4 5 (by omega), gd0 100 1 1 (by omega), Nat.le_refl 1, Nat.le_refl 1, nm0 4, alk0 4 1, dir0s 4, Nat.le_refl 1, B5⟩
  case round =>
    obtain ⟨j, D, s, t, dv, rfl, SY, rfl, hj, GS, GT, PS, PT, NM, AK, DD, DL, HB⟩ := hrel
    clear SY0 B5
    by_cases hjn : j < len
    · obtain ⟨b, off, y, rfl, hb, hy, hf, hat⟩ := HA.out.get j hjn
      have hcc := (hat.below HB.out hb).c hy
      obtain ⟨c0, c1, c2, c3, c4⟩ := hcc
      have hsz := HSZ.out y (List.mem_of_getElem? hy)
      have VF := Lib.hid hf
      have VL := hf.l
      clear hat hy hb hf
      obtain ⟨⟨k, p, m, d, t'⟩, x, xc⟩ := y
      dsimp only at hsz VL
      obtain ⟨L, hL⟩ := named d.length
      have c3' : wr.cell? ⟨b, off + j * 5 + 3, none⟩ = some (.slice x L xc) := by rw [hL.out]; exact c3
      clear c3
      have CC : Hid (∀ i v, (vaL k p m x L xc t')[i]? = some v → wr.cell? ⟨b, off + j * 5 + i, none⟩ = some v) := by
        intro i v hi
        match i with
        | 0 => obtain rfl : _ = v := Option.some.inj hi; exact c0
        | 1 => obtain rfl : _ = v := Option.some.inj hi; exact c1
        | 2 => obtain rfl : _ = v := Option.some.inj hi; exact c2
        | 3 => obtain rfl : _ = v := Option.some.inj hi; exact c3'
        | 4 => obtain rfl : _ = v := Option.some.inj hi; exact c4
        | i + 5 => simp at hi
      have j1 : (j : Int) < len := by omega
      have j2 : (j : Int) < cap := by have := HA.out.c; omega
      obtain ⟨s', hs'⟩ := named (doS 4 5 s ⟨k, p, m, d, t'⟩); obtain ⟨u', hu'⟩ := named (doS 1 1 t ⟨k, p, m, d, t'⟩); obtain ⟨E, hE⟩ := named (doE s ⟨k, p, m, d, t'⟩)
      have hps := PS.out; have hpt := PT.out; have h40 := N40.out
      have GS' : Hid (Gd 100 4 5 s') := by show Gd _ _ _ _; rw [hs'.out]; exact doS_gd GS.out _ (by omega) (by dsimp only; omega) (by dsimp only; omega)
      have GT' : Hid (Gd 100 1 1 u') := by show Gd _ _ _ _; rw [hu'.out]; exact doS_gd GT.out _ (by omega) (by dsimp only; omega) (by dsimp only; omega)
      have PS' : Hid (s'.ps.length ≤ j + 1 + 1) := by show _ ≤ _; rw [hs'.out]; exact Nat.le_trans (doS_ps ..) (by omega)
      have PT' : Hid (u'.ps.length ≤ j + 1 + 1) := by show _ ≤ _; rw [hu'.out]; exact Nat.le_trans (doS_ps ..) (by omega)
      have NM' : Hid (Nm s') := by show Nm _; rw [hs'.out]; exact NM.out.doS GS.out _
      have AK' : Hid (Alk s' u') := by show Alk _ _; rw [hs'.out, hu'.out]; exact AK.out.dos _
      have DD' : Hid (∀ d ∈ D, IsDir s' d) := fun d hd => by rw [hs'.out]; exact (DD.out d hd).doS GS.out _
      have DL' : Hid (D.length ≤ j + 1 + 1) := Nat.le_succ_of_le DL.out
      have PSZ : Hid (p.size ≤ 20000) := by show _ ≤ _; omega
      have apart : ∀ f', w.heap.size ≤ f' → d = [] ∨ ∀ z, x = some z → z.block ≠ f' := fun f' hf' => by
        by_cases hd0 : d = []
        · exact .inl hd0
        · refine .inr fun z hz e => ?_
          obtain ⟨b', off', hx, hlt⟩ := VF.out.d.inK.plain (by
            show 0 < d.length
            exact List.length_pos_iff.2 hd0)
          have hx : x = some ⟨b', off', none⟩ := hx
          rw [hx] at hz
          obtain rfl := Option.some.inj hz
          have e : b' = f' := e
          omega
      have DOF : Hid (∀ wb, Below w.heap.size w wb → Sy R w.heap.size (fun k => k = wr.heap.size) f g wb s t dv D → wr.heap.size < wb.heap.size → Calls Tryd.prog 14 #[.pointer (some ⟨f, 0, none⟩), .agg (vaL k p m x L xc t').toArray] wb fun e w' => e = .returned (.int .i64 E) ∧ Sy R w.heap.size (fun k => k = wr.heap.size) f g w' s' t dv D ∧ Only (fun k => w.heap.size ≤ k ∧ ¬ k = wr.heap.size) wb w') := fun wb hb h hx => by
        refine h.lft (by rintro _ rfl; exact hx) fun T hF => ?_
        have := do_any hF GS.out (by omega) (by omega) (VV.out wb hb) k p m d x xc t' (by omega) (by omega) ((VF.out.below hb).d.bytes) VL (apart f h.b.1)
        rw [← hE.out, ← hs'.out, ← hL.out] at this
        exact this
      have DOG : Hid (∀ wb, Below w.heap.size w wb → Sy R w.heap.size (fun k => k = wr.heap.size) f g wb s' t dv D → wr.heap.size < wb.heap.size → Calls Tryd.prog 14 #[.pointer (some ⟨g, 0, none⟩), .agg (vaL k p m x L xc t').toArray] wb fun e w' => e = .returned (.int .i64 E) ∧ Sy R w.heap.size (fun k => k = wr.heap.size) f g w' s' u' dv D ∧ Only (fun k => w.heap.size ≤ k ∧ ¬ k = wr.heap.size) wb w') := fun wb hb h hx => by
        refine h.rgt (by rintro _ rfl; exact hx) fun T hF => ?_
        have := do_any hF GT.out (by omega) (by omega) (VV.out wb hb) k p m d x xc t' (by omega) (by omega) ((VF.out.below hb).d.bytes) VL (apart g h.bg)
        rw [← AK.out.doe, ← hE.out, ← hu'.out, ← hL.out] at this
        exact this
      have KS : Hid (∀ wS, ObjAt wS wr.heap.size 40 (vaL k p m x L xc t') → ObjAt wS wr.heap.size 40 (vaL k p m x L xc t') ∧ wS.cell? ⟨wr.heap.size, 0, none⟩ = some (.int .i64 k) ∧ wS.cell? ⟨wr.heap.size, 1, none⟩ = some (.string p) ∧ wS.cell? ⟨wr.heap.size, 2, none⟩ = some (.int .i64 m) ∧ wS.cell? ⟨wr.heap.size, 3, none⟩ = some (.slice x L xc) ∧ wS.cell? ⟨wr.heap.size, 4, none⟩ = some (.string t')) := fun wS h => ⟨h, h.get 0 rfl, h.get 1 rfl, h.get 2 rfl, h.get 3 rfl, h.get 4 rfl⟩
      obtain ⟨KK, MM, NU, LI, SZ, TT, UU, MT, st⟩ := stat_gen s' p
      obtain ⟨EX, hEX⟩ := named (chE' s' p)
      have ee : (E != E) = false := by simp
      clear c0 c1 c2 c3' c4 hps hpt h40 hsz VL hL hE hs' hu' apart
      by_cases hc : EX = 0
      · subst hc
        by_cases hk : KK = 0
        · subst hk
          have IP : Hid (IsDir s' p) := dir_of hEX.out.symm (by rw [st]; rfl)
          obtain ⟨da, dc, hdv, _, _⟩ := own_slice SY.out.row
          subst hdv
          obtain ⟨n, hN⟩ := named D.length
          obtain ⟨q, hq⟩ := named (Lib.containsS D p)
          have NB : Hid (n ≤ 100) := by show _ ≤ _; have := hN.out; have := DL.out; have := N40.out; omega
          rw [← hN.out] at SY DOF DOG ⊢
          have CN : Hid (∀ (X : Nat → Prop) (wS : World), Sy R w.heap.size X f g wS s' u' (.slice da n dc) D → Calls Tryd.prog 28 #[.slice da n dc, .string p] wS fun e w' => e = .returned (.bool q) ∧ wS = w') := fun X wS h => by
            obtain ⟨a1, c1, hv, _, _, _, sin, _⟩ := SsIn.of_own h.row
            injection hv with e1 e2 e3
            subst e1
            have := con_any (n := n) (c := dc) sin hN.out.symm (by have := NB.out; omega) p
            rw [← hq.out] at this
            exact this.mono fun _ _ h => ⟨h.1, h.2.symm⟩
          have D2 : Hid (∀ d ∈ D ++ [p], IsDir s' d) := fun d hd => by
            rcases List.mem_append.1 hd with h | h
            · exact DD'.out d h
            · rw [List.mem_singleton.1 h]; exact IP.out
          have L2 : Hid ((D ++ [p]).length ≤ j + 1 + 1) := by show _ ≤ _; rw [List.length_append]; have := DL.out; simp; omega
          have LN : Hid ((D ++ [p]).length = n + 1) := by show _ = _; rw [List.length_append, hN.out]; rfl
          clear hq
          cases q
          · skip
            go_wp2_with (first | (refine wpList_load_part rfl 40 5 NO.out _ rfl b (off + j * 5) rfl (vaL k p m x L xc t') rfl CC.out ?_) | (refine wpList_alloc_obj rfl 40 rfl (vaL 0 ⟨#[]⟩ 0 none 0 0 ⟨#[]⟩) NZ.out ?_; intro wa ga ba; have GA := Lib.hid ga; have RA := Lib.hid ba; clear ga ba) | (refine wpList_store_obj rfl 40 _ _ rfl wr.heap.size rfl (vaL k p m x L xc t') (vaL 0 ⟨#[]⟩ 0 none 0 0 ⟨#[]⟩) rfl 40 GA.out NO.out.2 rfl (by simp [Value.oneCell']) ?_; intro wb gb tb'; have GB := Lib.hid gb; have RB := Lib.hid (RA.out.trans (tb'.below (Nat.le_refl _))); clear gb tb'))
            have SB : Hid (Sy R w.heap.size (fun k => k = wr.heap.size) f g wb s t (.slice da n dc) D) := (SY.out.mark (Y := (fun k => k = wr.heap.size)) (by rintro _ rfl; exact Nat.le_refl _)).below RB.out
            have BB : Hid (Below w.heap.size w wb) := belT HB.out RB.out
            have XL : Hid (wr.heap.size < wb.heap.size) := GB.out.lt
            refine wp_region_held_drew (S := fun wS => ObjAt wS wr.heap.size 40 (vaL k p m x L xc t') ∧ wS.cell? ⟨wr.heap.size, 0, none⟩ = some (.int .i64 k) ∧ wS.cell? ⟨wr.heap.size, 1, none⟩ = some (.string p) ∧ wS.cell? ⟨wr.heap.size, 2, none⟩ = some (.int .i64 m) ∧ wS.cell? ⟨wr.heap.size, 3, none⟩ = some (.slice x L xc) ∧ wS.cell? ⟨wr.heap.size, 4, none⟩ = some (.string t')) (by kernel_rfl) (KS.out _ (GB.out.below (Below.refl wb.heap.size wb).drew GB.out.lt)) (fun hHeld => ?_)
            refine tk 0 ?_; simp only [Act.put, sbA, scZ, scS]
            refine tk 1 ?_; simp only [Act.put, sbA, scZ, scS]
            refine tk 3 ?_; simp only [Act.put, sbA, scZ, scS]
            refine tk 4 ?_; simp only [Act.put, sbA, scZ, scS]
            refine rd 2 (fun K hK => ?_)
            go_simp
            refine (DOF.out wb.drew (belT BB.out (Below.refl wb.heap.size wb).drew) (SB.out.below (Below.refl wb.heap.size wb).drew) XL.out).mono ?_; rintro e w3 ⟨rfl, s3, o3⟩
            have S3 := Lib.hid s3
            have B3 : Hid (Below w.heap.size w w3) := (belT BB.out (Below.refl wb.heap.size wb).drew).trans (o3.below (fun k hk => hk.1) BB.out.size)
            have G3 : Hid (ObjAt w3 wr.heap.size 40 (vaL k p m x L xc t')) := (GB.out.below (Below.refl wb.heap.size wb).drew GB.out.lt).only o3 fun q => q.2 rfl
            clear s3 o3
            refine hK.out _ _ (KS.out _ G3.out) (fun hHeld => ?_)
            clear hK K
            (try simp only [Act.put, sbA, scZ, scS])
            refine rd 5 (fun K hK => ?_)
            go_simp
            refine (DOG.out w3 B3.out S3.out G3.out.lt).mono ?_; rintro e w4 ⟨rfl, s4, o4⟩
            have S4 := Lib.hid s4
            have B4 : Hid (Below w.heap.size w w4) := B3.out.trans (o4.below (fun k hk => hk.1) B3.out.size)
            have G4 : Hid (ObjAt w4 wr.heap.size 40 (vaL k p m x L xc t')) := G3.out.only o4 fun q => q.2 rfl
            clear s4 o4
            refine hK.out _ _ (KS.out _ G4.out) (fun hHeld => ?_)
            clear hK K
            (try simp only [Act.put, sbA, scZ, scS])
            refine tk 6 ?_; simp only [Act.put, sbA, scZ, scS]
            refine wpAnyH_done (by kernel_rfl) ?_ _
            have c1 := G4.out.get 1 rfl
            have LS := Lib.hid (S4.out.lst p)
            rw [st, ← hEX.out] at LS
            go_wp2_with fail
            refine LS.out.mono ?_; rintro e w5 ⟨rfl, b5⟩
            have S5 := Lib.hid (S4.out.below b5); have B5 := Lib.hid (belT B4.out b5); have G5 := Lib.hid (G4.out.below b5 G4.out.lt)
            clear b5 c1 LS
            go_wp2_with (first | (refine wpList_alloc_obj rfl 52 rfl _ ZI.out ?_; intro w6 g6 b6; have I6 := Lib.hid g6; have R6 := Lib.hid b6; clear g6 b6) | (refine wpList_store_obj rfl 52 _ _ rfl w5.heap.size rfl (infL 0 MM NU LI SZ TT UU MT) (infL 0 0 0 0 0 ⟨#[]⟩ 0 0) rfl 52 I6.out OIT.out.2 rfl (by simp [Value.oneCell']) ?_; intro w7 g7 t7; have R7 := Lib.hid (R6.out.trans (t7.below (Nat.le_refl _))); have c0 := g7.get 0 rfl; have c1 := (G5.out.below R7.out G5.out.lt).get 1 rfl; have S7 := Lib.hid (S5.out.below R7.out); have B7 := Lib.hid (belT B5.out R7.out); clear g7 t7))
            refine (CN.out _ w7 S7.out).mono ?_; rintro e w8 ⟨rfl, rfl⟩
            go_wp2_with (first | (refine wpList_lit_ss1 rfl 44 9 _ rfl Tryd.underlying44 ES.out p rfl ?_; intro w9 g9 b9; have G9 := Lib.hid g9; have S9 := Lib.hid (S7.out.below b9); have B9 := Lib.hid (belT B7.out b9); clear g9 b9) | (at_builtin; refine wpList_append_ss rfl _ _ 44 rfl 9 w.heap.size Tryd.underlying44 ES.out (.slice da n dc) n D rfl (by rw [hN.out]; have := S9.out.row; rw [← hN.out] at this ⊢; exact this) (some ⟨w7.heap.size, 0, none⟩) 1 1 [p] rfl (sin_obj1 G9.out) rfl (by have := NB.out; omega) B9.out.size ?_; intro v9 w10 o10 b10 k10 e10; have S10 := Lib.hid (S9.out.row' b10 k10 e10 (by rw [LN.out]; exact o10)); have B10 := Lib.hid (B9.out.trans b10); clear o10 b10 k10 e10))
            go_roundw
            case rel => exact ⟨j + 1, D ++ [p], s', u', _, rfl, S10.out.mark (fun _ h => h.elim), by go_num, by omega, GS', GT', PS', PT', NM', AK', D2, L2, B10⟩
            case measure => simp [intOf]; omega
          · skip
            go_wp2_with (first | (refine wpList_load_part rfl 40 5 NO.out _ rfl b (off + j * 5) rfl (vaL k p m x L xc t') rfl CC.out ?_) | (refine wpList_alloc_obj rfl 40 rfl (vaL 0 ⟨#[]⟩ 0 none 0 0 ⟨#[]⟩) NZ.out ?_; intro wa ga ba; have GA := Lib.hid ga; have RA := Lib.hid ba; clear ga ba) | (refine wpList_store_obj rfl 40 _ _ rfl wr.heap.size rfl (vaL k p m x L xc t') (vaL 0 ⟨#[]⟩ 0 none 0 0 ⟨#[]⟩) rfl 40 GA.out NO.out.2 rfl (by simp [Value.oneCell']) ?_; intro wb gb tb'; have GB := Lib.hid gb; have RB := Lib.hid (RA.out.trans (tb'.below (Nat.le_refl _))); clear gb tb'))
            have SB : Hid (Sy R w.heap.size (fun k => k = wr.heap.size) f g wb s t (.slice da n dc) D) := (SY.out.mark (Y := (fun k => k = wr.heap.size)) (by rintro _ rfl; exact Nat.le_refl _)).below RB.out
            have BB : Hid (Below w.heap.size w wb) := belT HB.out RB.out
            have XL : Hid (wr.heap.size < wb.heap.size) := GB.out.lt
            refine wp_region_held_drew (S := fun wS => ObjAt wS wr.heap.size 40 (vaL k p m x L xc t') ∧ wS.cell? ⟨wr.heap.size, 0, none⟩ = some (.int .i64 k) ∧ wS.cell? ⟨wr.heap.size, 1, none⟩ = some (.string p) ∧ wS.cell? ⟨wr.heap.size, 2, none⟩ = some (.int .i64 m) ∧ wS.cell? ⟨wr.heap.size, 3, none⟩ = some (.slice x L xc) ∧ wS.cell? ⟨wr.heap.size, 4, none⟩ = some (.string t')) (by kernel_rfl) (KS.out _ (GB.out.below (Below.refl wb.heap.size wb).drew GB.out.lt)) (fun hHeld => ?_)
            refine tk 0 ?_; simp only [Act.put, sbA, scZ, scS]
            refine tk 1 ?_; simp only [Act.put, sbA, scZ, scS]
            refine tk 3 ?_; simp only [Act.put, sbA, scZ, scS]
            refine tk 4 ?_; simp only [Act.put, sbA, scZ, scS]
            refine rd 2 (fun K hK => ?_)
            go_simp
            refine (DOF.out wb.drew (belT BB.out (Below.refl wb.heap.size wb).drew) (SB.out.below (Below.refl wb.heap.size wb).drew) XL.out).mono ?_; rintro e w3 ⟨rfl, s3, o3⟩
            have S3 := Lib.hid s3
            have B3 : Hid (Below w.heap.size w w3) := (belT BB.out (Below.refl wb.heap.size wb).drew).trans (o3.below (fun k hk => hk.1) BB.out.size)
            have G3 : Hid (ObjAt w3 wr.heap.size 40 (vaL k p m x L xc t')) := (GB.out.below (Below.refl wb.heap.size wb).drew GB.out.lt).only o3 fun q => q.2 rfl
            clear s3 o3
            refine hK.out _ _ (KS.out _ G3.out) (fun hHeld => ?_)
            clear hK K
            (try simp only [Act.put, sbA, scZ, scS])
            refine rd 5 (fun K hK => ?_)
            go_simp
            refine (DOG.out w3 B3.out S3.out G3.out.lt).mono ?_; rintro e w4 ⟨rfl, s4, o4⟩
            have S4 := Lib.hid s4
            have B4 : Hid (Below w.heap.size w w4) := B3.out.trans (o4.below (fun k hk => hk.1) B3.out.size)
            have G4 : Hid (ObjAt w4 wr.heap.size 40 (vaL k p m x L xc t')) := G3.out.only o4 fun q => q.2 rfl
            clear s4 o4
            refine hK.out _ _ (KS.out _ G4.out) (fun hHeld => ?_)
            clear hK K
            (try simp only [Act.put, sbA, scZ, scS])
            refine tk 6 ?_; simp only [Act.put, sbA, scZ, scS]
            refine wpAnyH_done (by kernel_rfl) ?_ _
            have c1 := G4.out.get 1 rfl
            have LS := Lib.hid (S4.out.lst p)
            rw [st, ← hEX.out] at LS
            go_wp2_with fail
            refine LS.out.mono ?_; rintro e w5 ⟨rfl, b5⟩
            have S5 := Lib.hid (S4.out.below b5); have B5 := Lib.hid (belT B4.out b5); have G5 := Lib.hid (G4.out.below b5 G4.out.lt)
            clear b5 c1 LS
            go_wp2_with (first | (refine wpList_alloc_obj rfl 52 rfl _ ZI.out ?_; intro w6 g6 b6; have I6 := Lib.hid g6; have R6 := Lib.hid b6; clear g6 b6) | (refine wpList_store_obj rfl 52 _ _ rfl w5.heap.size rfl (infL 0 MM NU LI SZ TT UU MT) (infL 0 0 0 0 0 ⟨#[]⟩ 0 0) rfl 52 I6.out OIT.out.2 rfl (by simp [Value.oneCell']) ?_; intro w7 g7 t7; have R7 := Lib.hid (R6.out.trans (t7.below (Nat.le_refl _))); have c0 := g7.get 0 rfl; have c1 := (G5.out.below R7.out G5.out.lt).get 1 rfl; have S7 := Lib.hid (S5.out.below R7.out); have B7 := Lib.hid (belT B5.out R7.out); clear g7 t7))
            refine (CN.out _ w7 S7.out).mono ?_; rintro e w8 ⟨rfl, rfl⟩
            go_wp2_with fail
            go_roundw
            case rel => exact ⟨j + 1, D, s', u', _, rfl, S7.out.mark (fun _ h => h.elim), by go_num, by omega, GS', GT', PS', PT', NM', AK', DD', DL', B7⟩
            case measure => simp [intOf]; omega
        · have k0 : (KK == 0) = false := by simpa using hk
          clear hk
          skip
          go_wp2_with (first | (refine wpList_load_part rfl 40 5 NO.out _ rfl b (off + j * 5) rfl (vaL k p m x L xc t') rfl CC.out ?_) | (refine wpList_alloc_obj rfl 40 rfl (vaL 0 ⟨#[]⟩ 0 none 0 0 ⟨#[]⟩) NZ.out ?_; intro wa ga ba; have GA := Lib.hid ga; have RA := Lib.hid ba; clear ga ba) | (refine wpList_store_obj rfl 40 _ _ rfl wr.heap.size rfl (vaL k p m x L xc t') (vaL 0 ⟨#[]⟩ 0 none 0 0 ⟨#[]⟩) rfl 40 GA.out NO.out.2 rfl (by simp [Value.oneCell']) ?_; intro wb gb tb'; have GB := Lib.hid gb; have RB := Lib.hid (RA.out.trans (tb'.below (Nat.le_refl _))); clear gb tb'))
          have SB : Hid (Sy R w.heap.size (fun k => k = wr.heap.size) f g wb s t dv D) := (SY.out.mark (Y := (fun k => k = wr.heap.size)) (by rintro _ rfl; exact Nat.le_refl _)).below RB.out
          have BB : Hid (Below w.heap.size w wb) := belT HB.out RB.out
          have XL : Hid (wr.heap.size < wb.heap.size) := GB.out.lt
          refine wp_region_held_drew (S := fun wS => ObjAt wS wr.heap.size 40 (vaL k p m x L xc t') ∧ wS.cell? ⟨wr.heap.size, 0, none⟩ = some (.int .i64 k) ∧ wS.cell? ⟨wr.heap.size, 1, none⟩ = some (.string p) ∧ wS.cell? ⟨wr.heap.size, 2, none⟩ = some (.int .i64 m) ∧ wS.cell? ⟨wr.heap.size, 3, none⟩ = some (.slice x L xc) ∧ wS.cell? ⟨wr.heap.size, 4, none⟩ = some (.string t')) (by kernel_rfl) (KS.out _ (GB.out.below (Below.refl wb.heap.size wb).drew GB.out.lt)) (fun hHeld => ?_)
          refine tk 0 ?_; simp only [Act.put, sbA, scZ, scS]
          refine tk 1 ?_; simp only [Act.put, sbA, scZ, scS]
          refine tk 3 ?_; simp only [Act.put, sbA, scZ, scS]
          refine tk 4 ?_; simp only [Act.put, sbA, scZ, scS]
          refine rd 2 (fun K hK => ?_)
          go_simp
          refine (DOF.out wb.drew (belT BB.out (Below.refl wb.heap.size wb).drew) (SB.out.below (Below.refl wb.heap.size wb).drew) XL.out).mono ?_; rintro e w3 ⟨rfl, s3, o3⟩
          have S3 := Lib.hid s3
          have B3 : Hid (Below w.heap.size w w3) := (belT BB.out (Below.refl wb.heap.size wb).drew).trans (o3.below (fun k hk => hk.1) BB.out.size)
          have G3 : Hid (ObjAt w3 wr.heap.size 40 (vaL k p m x L xc t')) := (GB.out.below (Below.refl wb.heap.size wb).drew GB.out.lt).only o3 fun q => q.2 rfl
          clear s3 o3
          refine hK.out _ _ (KS.out _ G3.out) (fun hHeld => ?_)
          clear hK K
          (try simp only [Act.put, sbA, scZ, scS])
          refine rd 5 (fun K hK => ?_)
          go_simp
          refine (DOG.out w3 B3.out S3.out G3.out.lt).mono ?_; rintro e w4 ⟨rfl, s4, o4⟩
          have S4 := Lib.hid s4
          have B4 : Hid (Below w.heap.size w w4) := B3.out.trans (o4.below (fun k hk => hk.1) B3.out.size)
          have G4 : Hid (ObjAt w4 wr.heap.size 40 (vaL k p m x L xc t')) := G3.out.only o4 fun q => q.2 rfl
          clear s4 o4
          refine hK.out _ _ (KS.out _ G4.out) (fun hHeld => ?_)
          clear hK K
          (try simp only [Act.put, sbA, scZ, scS])
          refine tk 6 ?_; simp only [Act.put, sbA, scZ, scS]
          refine wpAnyH_done (by kernel_rfl) ?_ _
          have c1 := G4.out.get 1 rfl
          have LS := Lib.hid (S4.out.lst p)
          rw [st, ← hEX.out] at LS
          go_wp2_with fail
          refine LS.out.mono ?_; rintro e w5 ⟨rfl, b5⟩
          have S5 := Lib.hid (S4.out.below b5); have B5 := Lib.hid (belT B4.out b5); have G5 := Lib.hid (G4.out.below b5 G4.out.lt)
          clear b5 c1 LS
          go_wp2_with (first | (refine wpList_alloc_obj rfl 52 rfl _ ZI.out ?_; intro w6 g6 b6; have I6 := Lib.hid g6; have R6 := Lib.hid b6; clear g6 b6) | (refine wpList_store_obj rfl 52 _ _ rfl w5.heap.size rfl (infL KK MM NU LI SZ TT UU MT) (infL 0 0 0 0 0 ⟨#[]⟩ 0 0) rfl 52 I6.out OIT.out.2 rfl (by simp [Value.oneCell']) ?_; intro w7 g7 t7; have R7 := Lib.hid (R6.out.trans (t7.below (Nat.le_refl _))); have c0 := g7.get 0 rfl; have c1 := (G5.out.below R7.out G5.out.lt).get 1 rfl; have S7 := Lib.hid (S5.out.below R7.out); have B7 := Lib.hid (belT B5.out R7.out); clear g7 t7))
          go_roundw
          case rel => exact ⟨j + 1, D, s', u', _, rfl, S7.out.mark (fun _ h => h.elim), by go_num, by omega, GS', GT', PS', PT', NM', AK', DD', DL', B7⟩
          case measure => simp [intOf]; omega
      · have x0 : (EX == 0) = false := by simpa using hc
        clear hc
        skip
        go_wp2_with (first | (refine wpList_load_part rfl 40 5 NO.out _ rfl b (off + j * 5) rfl (vaL k p m x L xc t') rfl CC.out ?_) | (refine wpList_alloc_obj rfl 40 rfl (vaL 0 ⟨#[]⟩ 0 none 0 0 ⟨#[]⟩) NZ.out ?_; intro wa ga ba; have GA := Lib.hid ga; have RA := Lib.hid ba; clear ga ba) | (refine wpList_store_obj rfl 40 _ _ rfl wr.heap.size rfl (vaL k p m x L xc t') (vaL 0 ⟨#[]⟩ 0 none 0 0 ⟨#[]⟩) rfl 40 GA.out NO.out.2 rfl (by simp [Value.oneCell']) ?_; intro wb gb tb'; have GB := Lib.hid gb; have RB := Lib.hid (RA.out.trans (tb'.below (Nat.le_refl _))); clear gb tb'))
        have SB : Hid (Sy R w.heap.size (fun k => k = wr.heap.size) f g wb s t dv D) := (SY.out.mark (Y := (fun k => k = wr.heap.size)) (by rintro _ rfl; exact Nat.le_refl _)).below RB.out
        have BB : Hid (Below w.heap.size w wb) := belT HB.out RB.out
        have XL : Hid (wr.heap.size < wb.heap.size) := GB.out.lt
        refine wp_region_held_drew (S := fun wS => ObjAt wS wr.heap.size 40 (vaL k p m x L xc t') ∧ wS.cell? ⟨wr.heap.size, 0, none⟩ = some (.int .i64 k) ∧ wS.cell? ⟨wr.heap.size, 1, none⟩ = some (.string p) ∧ wS.cell? ⟨wr.heap.size, 2, none⟩ = some (.int .i64 m) ∧ wS.cell? ⟨wr.heap.size, 3, none⟩ = some (.slice x L xc) ∧ wS.cell? ⟨wr.heap.size, 4, none⟩ = some (.string t')) (by kernel_rfl) (KS.out _ (GB.out.below (Below.refl wb.heap.size wb).drew GB.out.lt)) (fun hHeld => ?_)
        refine tk 0 ?_; simp only [Act.put, sbA, scZ, scS]
        refine tk 1 ?_; simp only [Act.put, sbA, scZ, scS]
        refine tk 3 ?_; simp only [Act.put, sbA, scZ, scS]
        refine tk 4 ?_; simp only [Act.put, sbA, scZ, scS]
        refine rd 2 (fun K hK => ?_)
        go_simp
        refine (DOF.out wb.drew (belT BB.out (Below.refl wb.heap.size wb).drew) (SB.out.below (Below.refl wb.heap.size wb).drew) XL.out).mono ?_; rintro e w3 ⟨rfl, s3, o3⟩
        have S3 := Lib.hid s3
        have B3 : Hid (Below w.heap.size w w3) := (belT BB.out (Below.refl wb.heap.size wb).drew).trans (o3.below (fun k hk => hk.1) BB.out.size)
        have G3 : Hid (ObjAt w3 wr.heap.size 40 (vaL k p m x L xc t')) := (GB.out.below (Below.refl wb.heap.size wb).drew GB.out.lt).only o3 fun q => q.2 rfl
        clear s3 o3
        refine hK.out _ _ (KS.out _ G3.out) (fun hHeld => ?_)
        clear hK K
        (try simp only [Act.put, sbA, scZ, scS])
        refine rd 5 (fun K hK => ?_)
        go_simp
        refine (DOG.out w3 B3.out S3.out G3.out.lt).mono ?_; rintro e w4 ⟨rfl, s4, o4⟩
        have S4 := Lib.hid s4
        have B4 : Hid (Below w.heap.size w w4) := B3.out.trans (o4.below (fun k hk => hk.1) B3.out.size)
        have G4 : Hid (ObjAt w4 wr.heap.size 40 (vaL k p m x L xc t')) := G3.out.only o4 fun q => q.2 rfl
        clear s4 o4
        refine hK.out _ _ (KS.out _ G4.out) (fun hHeld => ?_)
        clear hK K
        (try simp only [Act.put, sbA, scZ, scS])
        refine tk 6 ?_; simp only [Act.put, sbA, scZ, scS]
        refine wpAnyH_done (by kernel_rfl) ?_ _
        have c1 := G4.out.get 1 rfl
        have LS := Lib.hid (S4.out.lst p)
        rw [st, ← hEX.out] at LS
        go_wp2_with fail
        refine LS.out.mono ?_; rintro e w5 ⟨rfl, b5⟩
        have S5 := Lib.hid (S4.out.below b5); have B5 := Lib.hid (belT B4.out b5); have G5 := Lib.hid (G4.out.below b5 G4.out.lt)
        clear b5 c1 LS
        go_wp2_with (first | (refine wpList_alloc_obj rfl 52 rfl _ ZI.out ?_; intro w6 g6 b6; have I6 := Lib.hid g6; have R6 := Lib.hid b6; clear g6 b6) | (refine wpList_store_obj rfl 52 _ _ rfl w5.heap.size rfl (infL KK MM NU LI SZ TT UU MT) (infL 0 0 0 0 0 ⟨#[]⟩ 0 0) rfl 52 I6.out OIT.out.2 rfl (by simp [Value.oneCell']) ?_; intro w7 g7 t7; have R7 := Lib.hid (R6.out.trans (t7.below (Nat.le_refl _))); have c0 := g7.get 0 rfl; have c1 := (G5.out.below R7.out G5.out.lt).get 1 rfl; have S7 := Lib.hid (S5.out.below R7.out); have B7 := Lib.hid (belT B5.out R7.out); clear g7 t7))
        go_roundw
        case rel => exact ⟨j + 1, D, s', u', _, rfl, S7.out.mark (fun _ h => h.elim), by go_num, by omega, GS', GT', PS', PT', NM', AK', DD', DL', B7⟩
        case measure => simp [intOf]; omega
    · obtain rfl : j = len := by omega
      have JL : Hid (j ≤ 40) := by show _ ≤ _; have := N40.out; omega
      clear hjn HSZ N40 NO NZ
      obtain ⟨da, dc, hdv, _, _⟩ := own_slice SY.out.row
      subst hdv
      obtain ⟨n, hN⟩ := named D.length
      have NB : Hid (n ≤ 100) := by show _ ≤ _; have := hN.out; have := DL.out; have := JL.out; omega
      rw [← hN.out] at SY ⊢
      have n1 : (n : Int) ≤ 100 := by have := NB.out; omega
      obtain ⟨w9, hw9⟩ : ∃ w9, w9 = wr := ⟨_, rfl⟩
      rw [← hw9] at SY HB ⊢
      clear hw9
      go_wp2_with fail
      go_loopw [101] (fun i wr => ∃ (z ns nt : Nat), i = .int .i64 z ∧ z ≤ n ∧ Hid (Sy R w.heap.size (fun _ => False) f g wr ⟨s.is, s.ps, ns⟩ ⟨t.is, t.ps, nt⟩ (.slice da n dc) D) ∧ Hid (Below w.heap.size w wr)) (fun i _ => n - (intOf i).toNat)
      case atStart => exact ⟨0, s.ls, t.ls, rfl, Nat.zero_le _, SY, HB⟩
      case round =>
        clear SY HB
        obtain ⟨z, ns, nt, rfl, hz, SY, HB⟩ := hrel
        by_cases hzn : z < n
        · obtain ⟨d, hd⟩ : ∃ d, D[z]? = some d := ⟨_, List.getElem?_eq_getElem (by rw [← hN.out]; exact hzn)⟩
          obtain ⟨a1, c1, hv, jd, hnc, _, sin, jd2⟩ := SsIn.of_own SY.out.row
          injection hv with e1 e2 e3
          subst e1; subst e3
          have hz0 : D ≠ [] := fun e => by rw [e] at hd; cases hd
          obtain ⟨b, off, rfl, hb, hat⟩ := sin.resolve_left hz0
          have c0 := hat z d hd
          have ID := Lib.hid (DD.out d (List.mem_of_getElem? hd))
          have j1 : (z : Int) < n := by omega
          have j2 : (z : Int) < dc := by rw [← hN.out] at hnc; omega
          obtain ⟨nm, hnm⟩ := named (nmsD s d)
          have LF := Lib.hid (SY.out.lsF (p := d) (show IsDir ⟨s.is, s.ps, ns⟩ d from ID.out))
          have ID2 := Lib.hid (AK.out.dir ID.out)
          have NE := Lib.hid (AK.out.nms d)
          have ND := Lib.hid (nms_nodup NM.out ID.out); have NLN := Lib.hid (nms_len GS.out ID.out)
          have NOK : Hid (∀ b ∈ nm, (47 : Int) ∉ numsOf b ∧ chE' s (jnB d b) = 0 ∧ b.size ≤ 65536 ∧ d.size ≤ 65536) := fun b hb => name_ok GS.out NM.out ID.out (by rw [← hnm.out]; exact hb)
          rw [← hnm.out] at NE ND NLN
          rw [nms_ls, ← hnm.out] at LF
          obtain ⟨rr, hrr⟩ := named (rotV R ⟨s.is, s.ps, ns⟩)
          rw [← hrr.out] at LF
          clear hat hb hd hnc hz0 hnm hrr sin e2 jd jd2
          go_wp2_with fail
          refine LF.out.mono ?_; rintro e w1 ⟨xa, xn, xc, rfl, ox, s1, u1⟩
          have S1 := Lib.hid s1; have U1 := Lib.hid u1; have OX := Lib.hid ox
          have B1 : Hid (Below w.heap.size w w1) := HB.out.trans (u1.below (fun k hk => hk.1) HB.out.size)
          have LG := Lib.hid (s1.lsG (p := d) (show IsDir ⟨t.is, t.ps, nt⟩ d from ID2.out))
          rw [nms_ls, ← NE.out] at LG
          have XN : Hid (xn = nm.length) := by
            have := ox.1
            rw [Nat.mul_one] at this
            show _ = _
            rw [← this]; unfold ssC; rw [List.length_map, trnV_len, srtB_len]
          clear s1 u1 ox LF c0
          go_wp2_with fail
          refine LG.out.mono ?_; rintro e w2 ⟨ya, yn, yc, rfl, oy, s2, u2⟩
          have YN : Hid (yn = nm.length) := by
            have := oy.1
            rw [Nat.mul_one] at this
            show _ = _
            rw [← this]; unfold ssC; rw [List.length_map, srtB_len]
          have S2 : Hid (Sy R w.heap.size (fun _ => False) f g w2 ⟨s.is, s.ps, ns + 1⟩ ⟨t.is, t.ps, nt + 1⟩ (.slice (some ⟨b, off, none⟩) n dc) D) := Sy.weak s2
          have B2 : Hid (Below w.heap.size w w2) := B1.out.trans (u2.below (fun k hk => hk.1) B1.out.size)
          have OX2 : Hid (w2.ownsRow wr.heap.size 9 1 (.slice xa xn xc) xn (ssC (trnV (srtB nm) rr))) := own_keepS OX.out fun k hk hl => u2.block k hl fun c => c.2.1 (.inr (own_under OX.out k hk).1)
          have OY := Lib.hid oy
          clear oy s2 u2 LG S1 U1 OX
          obtain rfl : xn = nm.length := XN.out
          obtain rfl : yn = nm.length := YN.out
          obtain ⟨q, hq⟩ := named nm.length
          rw [← hq.out] at OX2 OY NLN ⊢
          obtain ⟨a2, c2, hv, jx, xc2, _, six, jx2⟩ := SsIn.of_own OX2.out
          injection hv with e1 _ e3
          subst e1; subst e3
          obtain ⟨a3, c3, hv, jy, yc2, _, siy, jy2⟩ := SsIn.of_own OY.out
          injection hv with e1 _ e3
          subst e1; subst e3
          have SX := Lib.hid six; have SYY := Lib.hid siy; have YC := Lib.hid yc2
          have TL : Hid ((trnV (srtB nm) rr).length = q) := by show _ = _; rw [trnV_len, srtB_len, hq.out]
          have SL : Hid ((srtB nm).length = q) := by show _ = _; rw [srtB_len, hq.out]
          clear six siy XN YN xc2 yc2 jx jx2 jy jy2
          go_wp2_with (first | (refine wpList_lit_ss0 rfl 44 9 rfl Tryd.underlying44 ES.out ?_; intro w3 o3 b3; have O3 := Lib.hid o3; have R3 := Lib.hid b3; clear o3 b3) | (at_builtin; refine wpList_append_ss rfl _ _ 44 rfl 9 w2.heap.size Tryd.underlying44 ES.out (.slice (some ⟨w2.heap.size, 0, none⟩) 0 0) 0 [] rfl O3.out xa q xc (trnV (srtB nm) rr) rfl (SX.out.below R3.out) TL.out (by have := NLN.out; omega) R3.out.size ?_; intro v4 w4 o4 b4 k4 e4; have O4 := Lib.hid o4; have R4 := Lib.hid (R3.out.trans b4); clear o4 b4 k4 e4))
          have O4 : Hid (w4.ownsRow w2.heap.size 9 1 v4 q (ssC (trnV (srtB nm) rr))) := by have := O4.out; rw [Nat.zero_add, List.nil_append] at this; exact this
          obtain ⟨va, vc, hv4, vqc, _⟩ := own_slice O4.out
          subst hv4
          have SO := Lib.hid (sort_own O4.out (by have := NLN.out; omega))
          rw [srt_uniq ((trnV_perm (srtB nm) rr).trans (srtB_perm nm))] at SO
          have VQ := Lib.hid vqc
          clear O4 O3 R3 vqc OX2 SX
          go_wp2_with fail
          refine SO.out.mono ?_; rintro e w5 ⟨rfl, o5, u5⟩
          have R5 := Lib.hid (R4.out.trans (u5.below (fun k hk => hk.1) R4.out.size))
          obtain ⟨a6, c6, hv, jx, _, _, si5, jx2⟩ := SsIn.of_own o5
          injection hv with e1 _ e3
          subst e1; subst e3
          have SX5 := Lib.hid si5
          have EQ := Lib.hid (eq_same (c1 := vc) (c2 := yc) SX5.out (SYY.out.below R5.out) SL.out (by have := NLN.out; omega))
          clear o5 u5 jx jx2 si5 SO
          go_wp2_with fail
          refine EQ.out.mono ?_; rintro e w6 ⟨rfl, b6⟩
          have R6 := Lib.hid (belT R5.out b6); have Q6 := Lib.hid b6
          have IS := Lib.hid (issorted_any (SYY.out.below R6.out) SL.out YC.out (by have := NLN.out; omega) (fun i x y hx hy => srt_step hx hy))
          clear b6 EQ
          go_wp2_with fail
          refine IS.out.mono ?_; rintro e w7 ⟨rfl, b7⟩
          have R7 := Lib.hid (belT R6.out b7)
          have S7 := Lib.hid (S2.out.below R7.out); have B7 := Lib.hid (belT B2.out R7.out); have X7 := Lib.hid (SX5.out.below (Q6.out.trans (b7.mono Q6.out.size)))
          have q1 : (q : Int) ≤ 100 := by have := NLN.out; omega
          clear b7 IS R4 R5 R6 Q6 SX5 SYY S2 B1 B2
          go_wp2_with fail
          go_loopw [141] (fun i wr => ∃ h : Nat, i = .int .i64 h ∧ h ≤ q ∧ Hid (Below w7.heap.size w7 wr)) (fun i _ => q - (intOf i).toNat)
          case atStart => exact ⟨0, rfl, Nat.zero_le _, Below.refl _ _⟩
          case round =>
            obtain ⟨h, rfl, hh, HZ⟩ := hrel
            by_cases hhq : h < q
            · obtain ⟨y, hy⟩ : ∃ y, (srtB nm)[h]? = some y := ⟨_, List.getElem?_eq_getElem (by rw [SL.out]; exact hhq)⟩
              have hne : srtB nm ≠ [] := fun e => by rw [e] at hy; cases hy
              obtain ⟨b', off', rfl, hb, hat⟩ := X7.out.resolve_left hne
              have c0 := hat.below HZ.out hb h y hy
              have CA : Hid (∀ w', Below w7.heap.size w7 w' → SsAt w' b' off' (srtB nm)) := fun w' hw => hat.below hw hb
              obtain ⟨k47, ch, bs, ds⟩ := NOK.out y ((srtB_perm nm).mem_iff.1 (List.mem_of_getElem? hy))
              obtain ⟨jp, hjp⟩ := named (jnB d y)
              have JN : Hid (∀ w', Calls Tryd.prog 31 #[.string d, .string y] w' fun e w'' => e = .returned (.string jp) ∧ Below w'.heap.size w' w'') := fun w' => by rw [hjp.out]; exact pjoin d y w' (by omega) (by omega)
              obtain ⟨KK, MM, NU, LI, SZ, TT, UU, MT, st⟩ := stat_gen ⟨s.is, s.ps, ns + 1⟩ jp
              have LS : Hid (∀ w', Sy R w.heap.size (fun _ => False) f g w' ⟨s.is, s.ps, ns + 1⟩ ⟨t.is, t.ps, nt + 1⟩ (.slice (some ⟨b, off, none⟩) n dc) D → Calls Tryd.prog 20 #[.pointer (some ⟨f, 0, none⟩), .string jp] w' fun e w'' => e = .returned (.tuple #[(.agg #[.int .i64 KK, .int .i64 MM, .int .i64 NU, .int .i64 LI, .int .i64 SZ, .string TT, .int .i64 UU, .int .i64 MT]), .int .i64 0]) ∧ Below w'.heap.size w' w'') := fun w' hs => by
                have := hs.lst jp
                rw [st, show chE' ⟨s.is, s.ps, ns + 1⟩ jp = 0 from by rw [hjp.out]; exact ch] at this
                exact this
              have HS : Hid (∀ w', Calls Tryd.prog 32 #[.string y, .string ⟨#[47]⟩] w' fun e w'' => e = .returned (.bool false) ∧ w' = w'') := fun w' => has_any y 47 w' false (decide_eq_false k47)
              have j1 : (h : Int) < q := by omega
              have j2 : (h : Int) < vc := by have := VQ.out; omega
              by_cases h0 : 0 < h
              · obtain ⟨i, hi⟩ : ∃ i : Nat, h = i + 1 := ⟨h - 1, by omega⟩
                obtain ⟨x, hx⟩ : ∃ x, (srtB nm)[i]? = some x := ⟨_, List.getElem?_eq_getElem (by rw [SL.out]; omega)⟩
                have XN := srt_ne ND.out hx (by rw [← hi]; exact hy)
                have SB : Hid ((x.toList == y.toList) = false) := by
                  show _ = _
                  exact beq_eq_false_iff_ne.2 fun e => XN (Hep.list_inj e)
                have CX : Hid (∀ w', Below w7.heap.size w7 w' → w'.cell? ⟨b', off' + i, none⟩ = some (.string x)) := fun w' hw => CA.out w' hw i x hx
                have wj : IntKind.i64.wrap ((h : Int) - 1) = (i : Int) := by rw [show (h : Int) - 1 = (i : Int) by omega]; exact wrapP (by omega) (by omega)
                have h1 : (h : Int) > 0 := by omega
                have i1 : (i : Int) < q := by omega
                have i2 : (i : Int) < vc := by omega
                have sb := SB.out
                clear hat hb hy hne k47 ch bs ds hjp st hx XN hi h0 CA
                go_wp2_with fail
                refine (JN.out wr).mono ?_; rintro e w8 ⟨rfl, b8⟩
                have B8 := Lib.hid (belT HZ.out b8)
                have S8 := Lib.hid ((S7.out.below HZ.out).below b8)
                clear b8 c0
                go_wp2_with fail
                refine (LS.out w8 S8.out).mono ?_; rintro e w9 ⟨rfl, b9⟩
                have B9 := Lib.hid (belT B8.out b9)
                clear b9 S8
                go_wp2_with (first | (refine wpList_alloc_obj rfl 52 rfl _ ZI.out ?_; intro w10 g10 b10; have I10 := Lib.hid g10; have R10 := Lib.hid b10; clear g10 b10) | (refine wpList_store_obj rfl 52 _ _ rfl w9.heap.size rfl (infL KK MM NU LI SZ TT UU MT) (infL 0 0 0 0 0 ⟨#[]⟩ 0 0) rfl 52 I10.out OIT.out.2 rfl (by simp [Value.oneCell']) ?_; intro w11 g11 t11; have B11 := Lib.hid (belT B9.out (R10.out.trans (t11.below (Nat.le_refl _)))); have cx := CX.out w11 B11.out; clear g11 t11))
                refine (HS.out w11).mono ?_; rintro e w12 ⟨rfl, rfl⟩
                go_wp2_with fail
                go_roundw
                case rel => exact ⟨h + 1, by go_num, by omega, B11⟩
                case measure => simp [intOf]; omega
              · have h1 : ¬ (h : Int) > 0 := by omega
                clear hat hb hy hne k47 ch bs ds hjp st h0 CA
                go_wp2_with fail
                refine (JN.out wr).mono ?_; rintro e w8 ⟨rfl, b8⟩
                have B8 := Lib.hid (belT HZ.out b8)
                have S8 := Lib.hid ((S7.out.below HZ.out).below b8)
                clear b8 c0
                go_wp2_with fail
                refine (LS.out w8 S8.out).mono ?_; rintro e w9 ⟨rfl, b9⟩
                have B9 := Lib.hid (belT B8.out b9)
                clear b9 S8
                go_wp2_with (first | (refine wpList_alloc_obj rfl 52 rfl _ ZI.out ?_; intro w10 g10 b10; have I10 := Lib.hid g10; have R10 := Lib.hid b10; clear g10 b10) | (refine wpList_store_obj rfl 52 _ _ rfl w9.heap.size rfl (infL KK MM NU LI SZ TT UU MT) (infL 0 0 0 0 0 ⟨#[]⟩ 0 0) rfl 52 I10.out OIT.out.2 rfl (by simp [Value.oneCell']) ?_; intro w11 g11 t11; have B11 := Lib.hid (belT B9.out (R10.out.trans (t11.below (Nat.le_refl _))));  clear g11 t11))
                refine (HS.out w11).mono ?_; rintro e w12 ⟨rfl, rfl⟩
                go_wp2_with fail
                go_roundw
                case rel => exact ⟨h + 1, by go_num, by omega, B11⟩
                case measure => simp [intOf]; omega
            · obtain rfl : h = q := by omega
              clear hhq
              go_wp2_with fail
              go_roundw
              case rel => exact ⟨z + 1, ns + 1, nt + 1, by go_num, by omega, S7.out.below HZ.out, belT B7.out HZ.out⟩
              case measure => simp [intOf]; omega
        · obtain rfl : z = n := by omega
          clear hzn
          go_wp2_with fail
          refine (AL.out wr HB.out).mono ?_; rintro e w8 ⟨rfl, b8⟩
          have B8 := Lib.hid (belT HB.out b8)
          clear b8
          go_wp2_with fail
          go_ret
          exact ⟨rfl, B8.out⟩
end Go.Proofs.YthcbiohmghaobaaDoor
