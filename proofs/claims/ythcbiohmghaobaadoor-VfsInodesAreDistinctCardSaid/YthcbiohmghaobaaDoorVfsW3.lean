/-
  Layer 19: the walk of VfsInodesAreDistinct. (gen_VfsW3.py writes it.)
-/
import Derived.Test.YthcbiohmghaobaaDoorPz10
import Derived.Test.YthcbiohmghaobaaDoorPz11
import Derived.Test.YthcbiohmghaobaaDoorVfsLarge
import Derived.Test.YthcbiohmghaobaaDoorVfsDo
import Derived.Test.YthcbiohmghaobaaDoorVfsDisM
import Derived.Test.YthcbiohmghaobaaDoorMapIns
namespace Go.Proofs.YthcbiohmghaobaaDoor
open Go.RowKit Go.MapKept Go.Proofs.YthcbiohmghaobaaDoor.Pnm Flt Vfs

theorem Vfs.bounds_u16 {n : Int} (h : (Lit.int .u16 n).wf = true) : 0 ≤ n ∧ n ≤ 65535 := by
  simp [Lit.wf, IntKind.min, IntKind.max, IntKind.signed, IntKind.bits] at h
  omega
set_option maxRecDepth 100000 in
set_option maxHeartbeats 16000000 in
theorem walk_VfsInodesAreDistinct (zs : List Int) (a : Option Addr) (len cap : Nat) (ys : List VaS) (w : World) (V : Pxr.Vars w) (hl : zs.length = 2) (hw : ∀ z ∈ zs, (Lit.int .u16 z).wf = true) (ha : ArgVas w a len cap ys) :
    Calls Tryd.prog 8 #[.agg (zs.map (.int .u16)).toArray, .slice a len cap] w fun e w' => e = .returned (.bool true) ∧ Below w.heap.size w w' := by
  obtain ⟨f0, s0, rfl⟩ : ∃ f0 s0, zs = [f0, s0] := by
    match zs, hl with
    | [f0, s0], _ => exact ⟨f0, s0, rfl⟩
  have hf0 := bounds_u16 (hw f0 (by simp)); have hs0 := bounds_u16 (hw s0 (by simp))
  clear hl hw
  have HA := Lib.hid ha
  have AL := Lib.hid fun w' (hb : Below w.heap.size w w') => alive_any w' (V.go hb)
  have VV := Lib.hid fun w' (hb : Below w.heap.size w w') => V.go hb
  have OP := Lib.hid fun w' => opts_any f0 s0 (by omega) (by omega) none 0 0 [] w' (.inl rfl) rfl (Nat.le_refl 0) (fun _ h => by cases h) (by omega)
  have OIT : Hid (ObjT Tryd.prog 52 8) := ⟨⟨_, Tryd.underlying52⟩, by kernel_rfl⟩
  have ZI : Hid ((Tryd.prog.info? 52).map (·.zero) = some (some (.agg (infL 0 0 0 0 0 ⟨#[]⟩ 0 0).toArray))) := by show _ = _; kernel_rfl
  have NZ : Hid ((Tryd.prog.info? 40).map (·.zero) = some (some (.agg (vaL 0 ⟨#[]⟩ 0 none 0 0 ⟨#[]⟩).toArray))) := by show _ = _; kernel_rfl
  have NO : Hid (ObjT Tryd.prog 40 5) := ⟨⟨_, Tryd.underlying40⟩, by kernel_rfl⟩
  obtain ⟨F, hF⟩ := named (1 + f0); obtain ⟨S, hS⟩ := named (1 + s0)
  have wf0 : IntKind.i64.wrap f0 = f0 := wrapP (by omega) (by omega)
  have wf1 : IntKind.i64.wrap (1 + f0) = F := by rw [hF.out]; exact wrapP (by omega) (by omega)
  have FB : Hid (numOk F ∧ numOk S) := ⟨by rw [hF.out]; unfold numOk; omega, by rw [hS.out]; unfold numOk; omega⟩
  have S1 : Hid (1 ≤ S) := FB.out.2.1
  rw [← hF.out, ← hS.out] at OP
  have hn : len ≤ maxLen := Nat.le_trans ha.c ha.m
  unfold maxLen at hn
  clear ha V hF hS hf0 hs0
  go_enter Tryd.func8, Tryd.ntmps8
  go_wp2_with (first | (refine wpList_box_obj rfl 23 _ rfl [.int .u16 f0, .int .u16 s0] rfl ?_; intro w0 h0 b0; have Z0 := Lib.hid h0; have B0 := Lib.hid b0; have z0 := h0.get 0 rfl; have z1 := h0.get 1 rfl; clear h0 b0))
  refine (OP.out w0).mono ?_; rintro e w1 ⟨oa, oc, rfl, io, b1⟩
  have B1 := Lib.hid (belT B0.out b1); have Z1 := Lib.hid (Z0.out.below b1 Z0.out.lt)
  have NW := Lib.hid (new_good 100 (by omega) F S oa 0 oc [] w1 io rfl (by omega) (by unfold optE; rw [if_pos ⟨FB.out.1, FB.out.2, fun _ h => by cases h⟩]))
  clear b1 io OP z0 z1
  go_wp2_with fail
  refine NW.out.mono ?_; rintro e w2 ⟨f, rfl, h2, b2⟩
  have B2 := Lib.hid (belT B1.out b2); have Z2 := Lib.hid (Z1.out.below b2 Z1.out.lt)
  have SZ12 := Lib.hid (Nat.le_trans B1.out.size (Nat.le_refl w1.heap.size))
  obtain ⟨T0, hT0⟩ : ∃ T0, T0 = (fun k => w1.heap.size ≤ k ∧ k < w2.heap.size) := ⟨_, rfl⟩
  rw [← hT0] at h2
  have H2 := Lib.hid h2
  have T0B : Hid (∀ q, T0 q → w.heap.size ≤ q) := fun q hq => by rw [hT0] at hq; exact Nat.le_trans SZ12.out hq.1
  have HFB : Hid (w.heap.size ≤ f) := T0B.out f H2.out.me
  clear b2 h2 NW hT0
  go_wp2_with fail
  refine (large_any a len cap ys w2 (HA.out.below B2.out)).mono ?_; rintro e w3 ⟨R, rfl, hR, b3⟩
  have B3 := Lib.hid (belT B2.out b3); have Z3 := Lib.hid (Z2.out.below b3 Z2.out.lt); have H3 := Lib.hid (H2.out.below b3)
  clear b3
  rcases hR with rfl | ⟨rfl, h40, hsz⟩
  · go_wp2_with fail
    refine (AL.out w3 B3.out).mono ?_; rintro e w4 ⟨rfl, b4⟩
    have B4 := Lib.hid (belT B3.out b4)
    clear b4
    go_wp2_with fail
    go_ret
    exact ⟨rfl, B4.out⟩
  have N40 := Lib.hid h40; have HSZ := Lib.hid hsz
  clear h40 hsz
  go_wp2_with (first | (refine wpList_make_mapF rfl 73 rfl (.int .i64) ?_; intro w4 m4 b4; have M4 := Lib.hid m4; have B4 := Lib.hid (belT B3.out b4); have z0 := (Z3.out.below b4 Z3.out.lt).get 0 rfl; have H4 := Lib.hid (H3.out.below b4); clear m4 b4) | (refine wpList_insert_mapF rfl 73 _ _ _ rfl 3 9 Tryd.underlying73 (.int .i64) Tryd.underlying3 w3.heap.size rfl (.int .i64 F) rfl rfl (.string ⟨#[]⟩) rfl 0 _ M4.out ?_; intro w5 m5 t5; have M5 := Lib.hid m5; have B5 := Lib.hid (B4.out.trans (t5.below B3.out.size)); have H5 := Lib.hid (H4.out.turn t5 (fun q => Nat.lt_irrefl _ (H3.out.lt _ q))); clear m5 t5))
  obtain ⟨gm, hgm⟩ := named w3.heap.size
  have GMW : Hid (w.heap.size ≤ gm) := by show _ ≤ _; rw [hgm.out]; exact B3.out.size
  have TM5 : Hid (¬ T0 gm) := fun q => by rw [hgm.out] at q; exact Nat.lt_irrefl _ (H3.out.lt _ q)
  rw [← hgm.out] at M5 ⊢
  obtain ⟨nm5, hM5⟩ : ∃ n, MapF w5 gm (.int .i64) n (upd (fun _ => none) (.int .i64 F) (.string ⟨#[]⟩)) := ⟨_, M5.out⟩
  have M5 := Lib.hid hM5
  clear Z0 Z1 Z2 Z3 B0 B1 B2 B3 B4 H2 H3 H4 M4 SZ12 z0 wf0 wf1 hM5
  go_wp2_with fail
  go_loopw [45] (fun i wr => ∃ (j : Nat) (s : St) (T : Nat → Prop) (nm : Nat) (O : Value → Option Value), i = .int .i64 j ∧ j ≤ len ∧ Hid (FsS 100 F S [] T wr f s) ∧ Hid (Gd 100 F S s) ∧ Hid (s.ps.length ≤ j + 1) ∧ Hid (OwnN F S s.ps s.is.length O) ∧ Hid (MapF wr gm (.int .i64) nm O) ∧ Hid (¬ T gm) ∧ Hid (∀ q, T q → w.heap.size ≤ q) ∧ Hid (Below w.heap.size w wr)) (fun i _ => len - (intOf i).toNat)
  case atStart => exact ⟨0, st0 F, T0, _, _, rfl, Nat.zero_le _, H5, gd0 100 F S (by omega), Nat.le_refl 1, own0 F S, M5, TM5, T0B, B5⟩
  case round =>
    clear H5 M5 TM5 T0B B5
    obtain ⟨j, s, T, nm, O, rfl, hj, HF, GD, PL, HO, HM, HTM, HT, HB⟩ := hrel
    by_cases hjn : j < len
    · obtain ⟨b, off, y, rfl, hb, hy, hf, hat⟩ := HA.out.get j hjn
      have hcc := (hat.below HB.out hb).c hy
      obtain ⟨c0, c1, c2, c3, c4⟩ := hcc
      have hsz := HSZ.out y (List.mem_of_getElem? hy)
      have VF := Lib.hid hf
      have VL := hf.l
      clear hat hy hb hf
      obtain ⟨⟨k, p, m, d, t⟩, x, xc⟩ := y
      dsimp only at hsz VL
      obtain ⟨L, hL⟩ := named d.length
      have c3' : wr.cell? ⟨b, off + j * 5 + 3, none⟩ = some (.slice x L xc) := by rw [hL.out]; exact c3
      clear c3
      have CC : Hid (∀ i v, (vaL k p m x L xc t)[i]? = some v → wr.cell? ⟨b, off + j * 5 + i, none⟩ = some v) := by
        intro i v hi
        match i with
        | 0 => obtain rfl : _ = v := Option.some.inj hi; exact c0
        | 1 => obtain rfl : _ = v := Option.some.inj hi; exact c1
        | 2 => obtain rfl : _ = v := Option.some.inj hi; exact c2
        | 3 => obtain rfl : _ = v := Option.some.inj hi; exact c3'
        | 4 => obtain rfl : _ = v := Option.some.inj hi; exact c4
        | i + 5 => simp at hi
      have j1 : (j : Int) < len := by omega
      have j2 : (j : Int) < cap := by have := HA.out.c; omega
      obtain ⟨s', hs'⟩ := named (doS F S s ⟨k, p, m, d, t⟩); obtain ⟨E, hE⟩ := named (doE s ⟨k, p, m, d, t⟩)
      have hps := PL.out; have h40 := N40.out
      have GD' : Hid (Gd 100 F S s') := by show Gd _ _ _ _; rw [hs'.out]; exact doS_gd GD.out _ (by omega) (by dsimp only; omega) (by dsimp only; omega)
      have PL' : Hid (s'.ps.length ≤ j + 1 + 1) := by show _ ≤ _; rw [hs'.out]; exact Nat.le_trans (doS_ps ..) (by omega)
      have DO : Hid (∀ wb T, Below w.heap.size w wb → FsS 100 F S [] T wb f s → Calls Tryd.prog 14 #[.pointer (some ⟨f, 0, none⟩), .agg (vaL k p m x L xc t).toArray] wb fun e w' => e = .returned (.int .i64 E) ∧ Only T wb w' ∧ FsS 100 F S [] (Grow T wb w') w' f s') := fun wb T hb h => by
        have := do_any h GD.out (by omega) (by omega) (VV.out wb hb) k p m d x xc t (by omega) (by omega) ((VF.out.below hb).d.bytes) VL (by
          by_cases hd0 : d = []
          · exact .inl hd0
          · refine .inr fun z hz e => ?_
            obtain ⟨b', off', hx, hlt⟩ := VF.out.d.inK.plain (by
              show 0 < d.length
              exact List.length_pos_iff.2 hd0)
            have hx : x = some ⟨b', off', none⟩ := hx
            rw [hx] at hz
            obtain rfl := Option.some.inj hz
            have := HFB.out
            have e : b' = f := e
            omega)
        rw [← hE.out, ← hs'.out, ← hL.out] at this
        exact this
      clear c0 c1 c2 c3' c4 hps h40 hsz VL hL
      by_cases he : E ≠ 0
      · have n0 : (E != 0) = true := by simpa using he
        have OT := Lib.hid (do_oth (F := F) (S := S) (.inl (by rw [← hE.out]; exact he)))
        rw [← hs'.out] at OT
        clear hE hs' he
        go_wp2_with (first | (refine wpList_load_part rfl 40 5 NO.out _ rfl b (off + j * 5) rfl (vaL k p m x L xc t) rfl CC.out ?_) | (refine wpList_alloc_obj rfl 40 rfl (vaL 0 ⟨#[]⟩ 0 none 0 0 ⟨#[]⟩) NZ.out ?_; intro wa ga ba; have GA := Lib.hid ga; have BA := Lib.hid (belT HB.out ba); have FA := Lib.hid (HF.out.below ba); have MA := Lib.hid (HM.out.below ba HM.out.lt); clear ga ba) | (refine wpList_store_obj rfl 40 _ _ rfl wr.heap.size rfl (vaL k p m x L xc t) (vaL 0 ⟨#[]⟩ 0 none 0 0 ⟨#[]⟩) rfl 40 GA.out NO.out.2 rfl (by simp [Value.oneCell']) ?_; intro wb gb tb'; have GB := Lib.hid gb; have BB := Lib.hid (BA.out.trans (tb'.below HB.out.size)); have FB := Lib.hid (FA.out.turn (tb tb') (fun q => Nat.lt_irrefl _ (HF.out.lt _ q))); have MB := Lib.hid (MA.out.block (tb'.other (Nat.ne_of_lt HM.out.lt))); clear gb tb') | (refine wpList_load_obj rfl 40 5 NO.out _ rfl wr.heap.size rfl _ _ GB.out rfl ?_))
        refine (DO.out wb T BB.out FB.out).mono ?_; rintro e w3 ⟨rfl, o3, f3⟩
        obtain ⟨T3, hT3⟩ : ∃ T3, T3 = Grow T wb w3 := ⟨_, rfl⟩
        rw [← hT3] at f3
        have F3 := Lib.hid f3
        have B3 : Hid (Below w.heap.size w w3) := BB.out.trans (o3.below HT.out BB.out.size)
        have G3 : Hid (ObjAt w3 wr.heap.size 40 (vaL k p m x L xc t)) := GB.out.only o3 fun q => Nat.lt_irrefl _ (HF.out.lt _ q)
        have M3 : Hid (MapF w3 gm (.int .i64) nm O) := MB.out.block (o3.block gm MB.out.lt HTM.out)
        have T3M : Hid (¬ T3 gm) := fun q => by
          rw [hT3] at q
          rcases q with q | q
          · exact HTM.out q
          · have := MB.out.lt; omega
        have T3B : Hid (∀ q, T3 q → w.heap.size ≤ q) := fun q hq => by
          rw [hT3] at hq
          rcases hq with hq | hq
          · exact HT.out q hq
          · exact Nat.le_trans BB.out.size hq.1
        have c0 := G3.out.get 0 rfl; have c1 := G3.out.get 1 rfl
        clear o3 f3 hT3 GA BA FA MA GB BB FB MB
        clear c1
        go_wp2_with fail
        go_roundw
        case rel => exact ⟨j + 1, s', T3, nm, O, by go_num, by omega, F3, GD', PL', by show OwnN _ _ _ _ _; rw [OT.out.1, OT.out.2]; exact HO.out, M3, T3M, T3B, B3⟩
        case measure => simp [intOf]; omega
      obtain rfl : E = 0 := Decidable.not_not.mp he
      by_cases hk : k < 0 ∨ 4 < k
      · have OT := Lib.hid (do_oth (F := F) (S := S) (s := s) (a := ⟨k, p, m, d, t⟩) (.inr hk))
        rw [← hs'.out] at OT
        clear hE hs' he
        rcases hk with hk | hk
        · skip
          go_wp2_with (first | (refine wpList_load_part rfl 40 5 NO.out _ rfl b (off + j * 5) rfl (vaL k p m x L xc t) rfl CC.out ?_) | (refine wpList_alloc_obj rfl 40 rfl (vaL 0 ⟨#[]⟩ 0 none 0 0 ⟨#[]⟩) NZ.out ?_; intro wa ga ba; have GA := Lib.hid ga; have BA := Lib.hid (belT HB.out ba); have FA := Lib.hid (HF.out.below ba); have MA := Lib.hid (HM.out.below ba HM.out.lt); clear ga ba) | (refine wpList_store_obj rfl 40 _ _ rfl wr.heap.size rfl (vaL k p m x L xc t) (vaL 0 ⟨#[]⟩ 0 none 0 0 ⟨#[]⟩) rfl 40 GA.out NO.out.2 rfl (by simp [Value.oneCell']) ?_; intro wb gb tb'; have GB := Lib.hid gb; have BB := Lib.hid (BA.out.trans (tb'.below HB.out.size)); have FB := Lib.hid (FA.out.turn (tb tb') (fun q => Nat.lt_irrefl _ (HF.out.lt _ q))); have MB := Lib.hid (MA.out.block (tb'.other (Nat.ne_of_lt HM.out.lt))); clear gb tb') | (refine wpList_load_obj rfl 40 5 NO.out _ rfl wr.heap.size rfl _ _ GB.out rfl ?_))
          refine (DO.out wb T BB.out FB.out).mono ?_; rintro e w3 ⟨rfl, o3, f3⟩
          obtain ⟨T3, hT3⟩ : ∃ T3, T3 = Grow T wb w3 := ⟨_, rfl⟩
          rw [← hT3] at f3
          have F3 := Lib.hid f3
          have B3 : Hid (Below w.heap.size w w3) := BB.out.trans (o3.below HT.out BB.out.size)
          have G3 : Hid (ObjAt w3 wr.heap.size 40 (vaL k p m x L xc t)) := GB.out.only o3 fun q => Nat.lt_irrefl _ (HF.out.lt _ q)
          have M3 : Hid (MapF w3 gm (.int .i64) nm O) := MB.out.block (o3.block gm MB.out.lt HTM.out)
          have T3M : Hid (¬ T3 gm) := fun q => by
            rw [hT3] at q
            rcases q with q | q
            · exact HTM.out q
            · have := MB.out.lt; omega
          have T3B : Hid (∀ q, T3 q → w.heap.size ≤ q) := fun q hq => by
            rw [hT3] at hq
            rcases hq with hq | hq
            · exact HT.out q hq
            · exact Nat.le_trans BB.out.size hq.1
          have c0 := G3.out.get 0 rfl; have c1 := G3.out.get 1 rfl
          clear o3 f3 hT3 GA BA FA MA GB BB FB MB
          clear c1
          go_wp2_with fail
          go_roundw
          case rel => exact ⟨j + 1, s', T3, nm, O, by go_num, by omega, F3, GD', PL', by show OwnN _ _ _ _ _; rw [OT.out.1, OT.out.2]; exact HO.out, M3, T3M, T3B, B3⟩
          case measure => simp [intOf]; omega
        · have hk0 : ¬ k < 0 := by omega
          go_wp2_with (first | (refine wpList_load_part rfl 40 5 NO.out _ rfl b (off + j * 5) rfl (vaL k p m x L xc t) rfl CC.out ?_) | (refine wpList_alloc_obj rfl 40 rfl (vaL 0 ⟨#[]⟩ 0 none 0 0 ⟨#[]⟩) NZ.out ?_; intro wa ga ba; have GA := Lib.hid ga; have BA := Lib.hid (belT HB.out ba); have FA := Lib.hid (HF.out.below ba); have MA := Lib.hid (HM.out.below ba HM.out.lt); clear ga ba) | (refine wpList_store_obj rfl 40 _ _ rfl wr.heap.size rfl (vaL k p m x L xc t) (vaL 0 ⟨#[]⟩ 0 none 0 0 ⟨#[]⟩) rfl 40 GA.out NO.out.2 rfl (by simp [Value.oneCell']) ?_; intro wb gb tb'; have GB := Lib.hid gb; have BB := Lib.hid (BA.out.trans (tb'.below HB.out.size)); have FB := Lib.hid (FA.out.turn (tb tb') (fun q => Nat.lt_irrefl _ (HF.out.lt _ q))); have MB := Lib.hid (MA.out.block (tb'.other (Nat.ne_of_lt HM.out.lt))); clear gb tb') | (refine wpList_load_obj rfl 40 5 NO.out _ rfl wr.heap.size rfl _ _ GB.out rfl ?_))
          refine (DO.out wb T BB.out FB.out).mono ?_; rintro e w3 ⟨rfl, o3, f3⟩
          obtain ⟨T3, hT3⟩ : ∃ T3, T3 = Grow T wb w3 := ⟨_, rfl⟩
          rw [← hT3] at f3
          have F3 := Lib.hid f3
          have B3 : Hid (Below w.heap.size w w3) := BB.out.trans (o3.below HT.out BB.out.size)
          have G3 : Hid (ObjAt w3 wr.heap.size 40 (vaL k p m x L xc t)) := GB.out.only o3 fun q => Nat.lt_irrefl _ (HF.out.lt _ q)
          have M3 : Hid (MapF w3 gm (.int .i64) nm O) := MB.out.block (o3.block gm MB.out.lt HTM.out)
          have T3M : Hid (¬ T3 gm) := fun q => by
            rw [hT3] at q
            rcases q with q | q
            · exact HTM.out q
            · have := MB.out.lt; omega
          have T3B : Hid (∀ q, T3 q → w.heap.size ≤ q) := fun q hq => by
            rw [hT3] at hq
            rcases hq with hq | hq
            · exact HT.out q hq
            · exact Nat.le_trans BB.out.size hq.1
          have c0 := G3.out.get 0 rfl; have c1 := G3.out.get 1 rfl
          clear o3 f3 hT3 GA BA FA MA GB BB FB MB
          clear c1
          go_wp2_with fail
          go_roundw
          case rel => exact ⟨j + 1, s', T3, nm, O, by go_num, by omega, F3, GD', PL', by show OwnN _ _ _ _ _; rw [OT.out.1, OT.out.2]; exact HO.out, M3, T3M, T3B, B3⟩
          case measure => simp [intOf]; omega
      have k0 : ¬ k < 0 := by omega
      have k4 : ¬ 4 < k := by omega
      have LSX : ∀ q i, fnd s'.ps q = some i → ∃ x, s'.at i = x ∧ stV s' q = infL x.k x.m x.num x.l x.d.length x.t x.u x.mt ∧ chE' s' q = 0 := fun q i h => ⟨_, rfl, by unfold stV; rw [h], by unfold chE'; rw [h]⟩
      by_cases h4 : k = 4
      · obtain ⟨i, hi, hf, hp', hn', hnum, hl2⟩ := do_lnk GD.out h4 hE.out.symm
        obtain ⟨q, hq1, hq2⟩ := HO.out.a i hi
        rw [← hs'.out] at hp' hn' hnum hl2
        have OW' : Hid (OwnN F S s'.ps s'.is.length (upd O (.int .i64 (F + S * (i : Int))) (.string p))) := by show OwnN _ _ _ _ _; rw [hp', hn']; exact HO.out.lnk S1.out hi hf
        have fp : fnd s'.ps p = some i := by rw [hp']; exact fnd_new hf
        have fq : fnd s'.ps q = some i := by rw [hp']; exact fnd_more hq2
        obtain ⟨X, hX, st, ch⟩ := LSX p i fp
        obtain ⟨X', hX', st', ch'⟩ := LSX q i fq
        obtain rfl : X = X' := hX.symm.trans hX'
        rw [hX] at hnum hl2
        obtain ⟨K, hK⟩ := named X.k; obtain ⟨M, hM⟩ := named X.m; obtain ⟨NU, hNU⟩ := named X.num; obtain ⟨LI, hLI⟩ := named X.l; obtain ⟨SZ, hSZ⟩ := named (X.d.length : Int); obtain ⟨TT, hTT⟩ := named X.t; obtain ⟨U, hU⟩ := named X.u; obtain ⟨MT, hMT⟩ := named X.mt
        rw [← hK.out, ← hM.out, ← hNU.out, ← hLI.out, ← hSZ.out, ← hTT.out, ← hU.out, ← hMT.out] at st st'
        rw [← hNU.out] at hnum; rw [← hLI.out] at hl2
        rw [← hnum] at OW' hq1
        have QL : Hid (∀ w', MapF w' gm (.int .i64) nm O → (Instr.lookup 73 (.map (some gm)) (.int .i64 NU) true).run Tryd.prog w' = .ok (.tuple #[.string q, .bool true]) w') := fun w' hm => by
          have := (run_lookF (P := Tryd.prog) (w := w') 73 3 9 Tryd.underlying73 (.int .i64) Tryd.underlying3 (.string ⟨#[]⟩) (by kernel_rfl) gm nm (.int .i64 NU) (show IsKey (.int .i64) (.int .i64 NU) from rfl) O hm).1
          rw [hq1] at this
          exact this
        have LS : Hid (∀ w' T, FsS 100 F S [] T w' f s' → Calls Tryd.prog 20 #[.pointer (some ⟨f, 0, none⟩), .string p] w' fun e w'' => e = .returned (.tuple #[(.agg #[.int .i64 K, .int .i64 M, .int .i64 NU, .int .i64 LI, .int .i64 SZ, .string TT, .int .i64 U, .int .i64 MT]), .int .i64 0]) ∧ Below w'.heap.size w' w'') := fun w' T h => by
          have := lstat_any h p
          rw [st, ch] at this
          exact this
        have LO : Hid (∀ w' T, FsS 100 F S [] T w' f s' → Calls Tryd.prog 20 #[.pointer (some ⟨f, 0, none⟩), .string q] w' fun e w'' => e = .returned (.tuple #[(.agg #[.int .i64 K, .int .i64 M, .int .i64 NU, .int .i64 LI, .int .i64 SZ, .string TT, .int .i64 U, .int .i64 MT]), .int .i64 0]) ∧ Below w'.heap.size w' w'') := fun w' T h => by
          have := lstat_any h q
          rw [st', ch'] at this
          exact this
        have hq : ∀ w : World, (Op.equalIn 10000 52 (.agg #[.int .i64 K, .int .i64 M, .int .i64 NU, .int .i64 LI, .int .i64 SZ, .string TT, .int .i64 U, .int .i64 MT]) (.agg #[.int .i64 K, .int .i64 M, .int .i64 NU, .int .i64 LI, .int .i64 SZ, .string TT, .int .i64 U, .int .i64 MT])).run Tryd.prog w = .ok true w := fun w => (run_eqI K M NU LI SZ TT U MT K M NU LI SZ TT U MT w).trans (by simp)
        have l2' : ¬ LI < 2 := by omega
        subst h4
        clear hE hs' he hk LSX hi hf hp' hn' hnum hl2 hq1 hq2 fp fq hX st ch hX' st' ch' hK hM hNU hLI hSZ hTT hU hMT
        go_wp2_with (first | (refine wpList_load_part rfl 40 5 NO.out _ rfl b (off + j * 5) rfl (vaL 4 p m x L xc t) rfl CC.out ?_) | (refine wpList_alloc_obj rfl 40 rfl (vaL 0 ⟨#[]⟩ 0 none 0 0 ⟨#[]⟩) NZ.out ?_; intro wa ga ba; have GA := Lib.hid ga; have BA := Lib.hid (belT HB.out ba); have FA := Lib.hid (HF.out.below ba); have MA := Lib.hid (HM.out.below ba HM.out.lt); clear ga ba) | (refine wpList_store_obj rfl 40 _ _ rfl wr.heap.size rfl (vaL 4 p m x L xc t) (vaL 0 ⟨#[]⟩ 0 none 0 0 ⟨#[]⟩) rfl 40 GA.out NO.out.2 rfl (by simp [Value.oneCell']) ?_; intro wb gb tb'; have GB := Lib.hid gb; have BB := Lib.hid (BA.out.trans (tb'.below HB.out.size)); have FB := Lib.hid (FA.out.turn (tb tb') (fun q => Nat.lt_irrefl _ (HF.out.lt _ q))); have MB := Lib.hid (MA.out.block (tb'.other (Nat.ne_of_lt HM.out.lt))); clear gb tb') | (refine wpList_load_obj rfl 40 5 NO.out _ rfl wr.heap.size rfl _ _ GB.out rfl ?_))
        refine (DO.out wb T BB.out FB.out).mono ?_; rintro e w3 ⟨rfl, o3, f3⟩
        obtain ⟨T3, hT3⟩ : ∃ T3, T3 = Grow T wb w3 := ⟨_, rfl⟩
        rw [← hT3] at f3
        have F3 := Lib.hid f3
        have B3 : Hid (Below w.heap.size w w3) := BB.out.trans (o3.below HT.out BB.out.size)
        have G3 : Hid (ObjAt w3 wr.heap.size 40 (vaL 4 p m x L xc t)) := GB.out.only o3 fun q => Nat.lt_irrefl _ (HF.out.lt _ q)
        have M3 : Hid (MapF w3 gm (.int .i64) nm O) := MB.out.block (o3.block gm MB.out.lt HTM.out)
        have T3M : Hid (¬ T3 gm) := fun q => by
          rw [hT3] at q
          rcases q with q | q
          · exact HTM.out q
          · have := MB.out.lt; omega
        have T3B : Hid (∀ q, T3 q → w.heap.size ≤ q) := fun q hq => by
          rw [hT3] at hq
          rcases hq with hq | hq
          · exact HT.out q hq
          · exact Nat.le_trans BB.out.size hq.1
        have c0 := G3.out.get 0 rfl; have c1 := G3.out.get 1 rfl
        clear o3 f3 hT3 GA BA FA MA GB BB FB MB
        go_wp2_with fail
        refine (LS.out w3 T3 F3.out).mono ?_; rintro e w4 ⟨rfl, b4⟩
        have B4 := Lib.hid (belT B3.out b4); have F4 := Lib.hid (F3.out.below b4); have M4 := Lib.hid (M3.out.below b4 M3.out.lt); have G4 := Lib.hid (G3.out.below b4 G3.out.lt)
        clear b4 c0 c1
        go_wp2_with (first | (refine wpList_alloc_obj rfl 52 rfl _ ZI.out ?_; intro w5 g5 b5; have I5 := Lib.hid g5; have B5 := Lib.hid (belT B4.out b5); have F5 := Lib.hid (F4.out.below b5); have M5 := Lib.hid (M4.out.below b5 M4.out.lt); have G5 := Lib.hid (G4.out.below b5 G4.out.lt); clear g5 b5) | (refine wpList_store_obj rfl 52 _ _ rfl w4.heap.size rfl (infL K M NU LI SZ TT U MT) (infL 0 0 0 0 0 ⟨#[]⟩ 0 0) rfl 52 I5.out OIT.out.2 rfl (by simp [Value.oneCell']) ?_; intro w6 g6 t6; have I6 := Lib.hid g6; have B6 := Lib.hid (B5.out.trans (t6.below B4.out.size)); have F6 := Lib.hid (F5.out.turn (tb t6) (fun q => Nat.lt_irrefl _ (F4.out.lt _ q))); have M6 := Lib.hid (M5.out.block (t6.other (Nat.ne_of_lt M4.out.lt))); have G6 := Lib.hid (G5.out.turnB (tb t6) (Nat.ne_of_lt G4.out.lt)); have c2 := g6.get 2 rfl; have c3 := g6.get 3 rfl; have c0 := G6.out.get 0 rfl; have c1 := G6.out.get 1 rfl; have ql := QL.out w6 M6.out; clear g6 t6))
        refine (LO.out w6 T3 F6.out).mono ?_; rintro e w8 ⟨rfl, b8⟩
        have B8 := Lib.hid (belT B6.out b8); have F8 := Lib.hid (F6.out.below b8); have M8 := Lib.hid (M6.out.below b8 M6.out.lt); have G8 := Lib.hid (G6.out.below b8 G6.out.lt); have I8 := Lib.hid (I6.out.below b8 I6.out.lt)
        clear b8 ql c0 c1 c2 c3
        go_wp2_with (first | (refine wpList_alloc_obj rfl 52 rfl _ ZI.out ?_; intro w9 g9 b9; have J9 := Lib.hid g9; have B9 := Lib.hid (belT B8.out b9); have F9 := Lib.hid (F8.out.below b9); have M9 := Lib.hid (M8.out.below b9 M8.out.lt); have G9 := Lib.hid (G8.out.below b9 G8.out.lt); have I9 := Lib.hid (I8.out.below b9 I8.out.lt); clear g9 b9) | (refine wpList_store_obj rfl 52 _ _ rfl w8.heap.size rfl (infL K M NU LI SZ TT U MT) (infL 0 0 0 0 0 ⟨#[]⟩ 0 0) rfl 52 J9.out OIT.out.2 rfl (by simp [Value.oneCell']) ?_; intro w10 g10 t10; have J10 := Lib.hid g10; have B10 := Lib.hid (B9.out.trans (t10.below B8.out.size)); have F10 := Lib.hid (F9.out.turn (tb t10) (fun q => Nat.lt_irrefl _ (F8.out.lt _ q))); have M10 := Lib.hid (M9.out.block (t10.other (Nat.ne_of_lt M8.out.lt))); have G10 := Lib.hid (G9.out.turnB (tb t10) (Nat.ne_of_lt G8.out.lt)); have I10 := Lib.hid (I9.out.turnB (tb t10) (Nat.ne_of_lt I8.out.lt)); have c0 := I10.out.get 0 rfl; have d0 := J10.out.get 0 rfl; have c1 := I10.out.get 1 rfl; have d1 := J10.out.get 1 rfl; have c2 := I10.out.get 2 rfl; have d2 := J10.out.get 2 rfl; have c3 := I10.out.get 3 rfl; have d3 := J10.out.get 3 rfl; have c4 := I10.out.get 4 rfl; have d4 := J10.out.get 4 rfl; have c5 := I10.out.get 5 rfl; have d5 := J10.out.get 5 rfl; have c6 := I10.out.get 6 rfl; have d6 := J10.out.get 6 rfl; have c7 := I10.out.get 7 rfl; have d7 := J10.out.get 7 rfl; have a1 := G10.out.get 1 rfl; clear g10 t10) | (refine wpList_update_map rfl 73 _ _ _ rfl 3 9 Tryd.underlying73 (.int .i64) Tryd.underlying3 gm rfl (.int .i64 NU) rfl rfl (.string p) rfl nm O M10.out ?_; intro w7 m7 t7; have M7 := Lib.hid m7; have B7 := Lib.hid (B10.out.trans (t7.below GMW.out)); have F7 := Lib.hid (F10.out.turn t7 T3M.out); clear m7 t7))
        go_roundw
        case rel => exact ⟨j + 1, s', T3, _, _, by go_num, by omega, F7, GD', PL', OW', M7, T3M, T3B, B7⟩
        case measure => simp [intOf]; omega
      have k4' : (k == 4) = false := by simpa using h4
      obtain ⟨hf, hp', hn', hnum⟩ := do_new GD.out (a := ⟨k, p, m, d, t⟩) (by dsimp only; omega) hE.out.symm
      obtain ⟨hq1, ow⟩ := HO.out.new S1.out hf
      rw [← hs'.out] at hp' hn' hnum
      have OW' : Hid (OwnN F S s'.ps s'.is.length (upd O (.int .i64 (F + S * (s.is.length : Int))) (.string p))) := by show OwnN _ _ _ _ _; rw [hp', hn']; exact ow
      have fp : fnd s'.ps p = some s.is.length := by rw [hp']; exact fnd_new hf
      obtain ⟨X, hX, st, ch⟩ := LSX p _ fp
      rw [hX] at hnum
      obtain ⟨K, hK⟩ := named X.k; obtain ⟨M, hM⟩ := named X.m; obtain ⟨NU, hNU⟩ := named X.num; obtain ⟨LI, hLI⟩ := named X.l; obtain ⟨SZ, hSZ⟩ := named (X.d.length : Int); obtain ⟨TT, hTT⟩ := named X.t; obtain ⟨U, hU⟩ := named X.u; obtain ⟨MT, hMT⟩ := named X.mt
      rw [← hK.out, ← hM.out, ← hNU.out, ← hLI.out, ← hSZ.out, ← hTT.out, ← hU.out, ← hMT.out] at st
      rw [← hNU.out] at hnum
      rw [← hnum] at OW' hq1
      have QL : Hid (∀ w', MapF w' gm (.int .i64) nm O → (Instr.lookup 73 (.map (some gm)) (.int .i64 NU) true).run Tryd.prog w' = .ok (.tuple #[.string ⟨#[]⟩, .bool false]) w') := fun w' hm => by
        have := (run_lookF (P := Tryd.prog) (w := w') 73 3 9 Tryd.underlying73 (.int .i64) Tryd.underlying3 (.string ⟨#[]⟩) (by kernel_rfl) gm nm (.int .i64 NU) (show IsKey (.int .i64) (.int .i64 NU) from rfl) O hm).1
        rw [hq1] at this
        exact this
      have LS : Hid (∀ w' T, FsS 100 F S [] T w' f s' → Calls Tryd.prog 20 #[.pointer (some ⟨f, 0, none⟩), .string p] w' fun e w'' => e = .returned (.tuple #[(.agg #[.int .i64 K, .int .i64 M, .int .i64 NU, .int .i64 LI, .int .i64 SZ, .string TT, .int .i64 U, .int .i64 MT]), .int .i64 0]) ∧ Below w'.heap.size w' w'') := fun w' T h => by
        have := lstat_any h p
        rw [st, ch] at this
        exact this
      clear hE hs' he hk LSX h4 hf hp' hn' hnum hq1 ow fp hX st ch hK hM hNU hLI hSZ hTT hU hMT
      go_wp2_with (first | (refine wpList_load_part rfl 40 5 NO.out _ rfl b (off + j * 5) rfl (vaL k p m x L xc t) rfl CC.out ?_) | (refine wpList_alloc_obj rfl 40 rfl (vaL 0 ⟨#[]⟩ 0 none 0 0 ⟨#[]⟩) NZ.out ?_; intro wa ga ba; have GA := Lib.hid ga; have BA := Lib.hid (belT HB.out ba); have FA := Lib.hid (HF.out.below ba); have MA := Lib.hid (HM.out.below ba HM.out.lt); clear ga ba) | (refine wpList_store_obj rfl 40 _ _ rfl wr.heap.size rfl (vaL k p m x L xc t) (vaL 0 ⟨#[]⟩ 0 none 0 0 ⟨#[]⟩) rfl 40 GA.out NO.out.2 rfl (by simp [Value.oneCell']) ?_; intro wb gb tb'; have GB := Lib.hid gb; have BB := Lib.hid (BA.out.trans (tb'.below HB.out.size)); have FB := Lib.hid (FA.out.turn (tb tb') (fun q => Nat.lt_irrefl _ (HF.out.lt _ q))); have MB := Lib.hid (MA.out.block (tb'.other (Nat.ne_of_lt HM.out.lt))); clear gb tb') | (refine wpList_load_obj rfl 40 5 NO.out _ rfl wr.heap.size rfl _ _ GB.out rfl ?_))
      refine (DO.out wb T BB.out FB.out).mono ?_; rintro e w3 ⟨rfl, o3, f3⟩
      obtain ⟨T3, hT3⟩ : ∃ T3, T3 = Grow T wb w3 := ⟨_, rfl⟩
      rw [← hT3] at f3
      have F3 := Lib.hid f3
      have B3 : Hid (Below w.heap.size w w3) := BB.out.trans (o3.below HT.out BB.out.size)
      have G3 : Hid (ObjAt w3 wr.heap.size 40 (vaL k p m x L xc t)) := GB.out.only o3 fun q => Nat.lt_irrefl _ (HF.out.lt _ q)
      have M3 : Hid (MapF w3 gm (.int .i64) nm O) := MB.out.block (o3.block gm MB.out.lt HTM.out)
      have T3M : Hid (¬ T3 gm) := fun q => by
        rw [hT3] at q
        rcases q with q | q
        · exact HTM.out q
        · have := MB.out.lt; omega
      have T3B : Hid (∀ q, T3 q → w.heap.size ≤ q) := fun q hq => by
        rw [hT3] at hq
        rcases hq with hq | hq
        · exact HT.out q hq
        · exact Nat.le_trans BB.out.size hq.1
      have c0 := G3.out.get 0 rfl; have c1 := G3.out.get 1 rfl
      clear o3 f3 hT3 GA BA FA MA GB BB FB MB
      go_wp2_with fail
      refine (LS.out w3 T3 F3.out).mono ?_; rintro e w4 ⟨rfl, b4⟩
      have B4 := Lib.hid (belT B3.out b4); have F4 := Lib.hid (F3.out.below b4); have M4 := Lib.hid (M3.out.below b4 M3.out.lt); have G4 := Lib.hid (G3.out.below b4 G3.out.lt)
      clear b4 c0 c1
      go_wp2_with (first | (refine wpList_alloc_obj rfl 52 rfl _ ZI.out ?_; intro w5 g5 b5; have I5 := Lib.hid g5; have B5 := Lib.hid (belT B4.out b5); have F5 := Lib.hid (F4.out.below b5); have M5 := Lib.hid (M4.out.below b5 M4.out.lt); have G5 := Lib.hid (G4.out.below b5 G4.out.lt); clear g5 b5) | (refine wpList_store_obj rfl 52 _ _ rfl w4.heap.size rfl (infL K M NU LI SZ TT U MT) (infL 0 0 0 0 0 ⟨#[]⟩ 0 0) rfl 52 I5.out OIT.out.2 rfl (by simp [Value.oneCell']) ?_; intro w6 g6 t6; have I6 := Lib.hid g6; have B6 := Lib.hid (B5.out.trans (t6.below B4.out.size)); have F6 := Lib.hid (F5.out.turn (tb t6) (fun q => Nat.lt_irrefl _ (F4.out.lt _ q))); have M6 := Lib.hid (M5.out.block (t6.other (Nat.ne_of_lt M4.out.lt))); have G6 := Lib.hid (G5.out.turnB (tb t6) (Nat.ne_of_lt G4.out.lt)); have c2 := g6.get 2 rfl; have c3 := g6.get 3 rfl; have c0 := G6.out.get 0 rfl; have c1 := G6.out.get 1 rfl; have ql := QL.out w6 M6.out; clear g6 t6) | (refine wpList_update_map rfl 73 _ _ _ rfl 3 9 Tryd.underlying73 (.int .i64) Tryd.underlying3 gm rfl (.int .i64 NU) rfl rfl (.string p) rfl nm O M6.out ?_; intro w7 m7 t7; have M7 := Lib.hid m7; have B7 := Lib.hid (B6.out.trans (t7.below GMW.out)); have F7 := Lib.hid (F6.out.turn t7 T3M.out); clear m7 t7))
      go_roundw
      case rel => exact ⟨j + 1, s', T3, _, _, by go_num, by omega, F7, GD', PL', OW', M7, T3M, T3B, B7⟩
      case measure => simp [intOf]; omega
    · obtain rfl : j = len := by omega
      clear hjn
      go_wp2_with fail
      refine (AL.out wr HB.out).mono ?_; rintro e w9 ⟨rfl, b9⟩
      have B9 := Lib.hid (belT HB.out b9)
      clear b9
      go_wp2_with fail
      go_ret
      exact ⟨rfl, B9.out⟩
end Go.Proofs.YthcbiohmghaobaaDoor
