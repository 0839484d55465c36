/-
  Layer 14: the program's Members.
-/
import Derived.Test.YtinmkgpmoclcoaaDoorPz18
import Derived.Test.YtinmkgpmoclcoaaDoorPz11
namespace Go.Proofs.YtinmkgpmoclcoaaDoor.Flt
open Go.RowKit Go.MapKept Go.Proofs.YtinmkgpmoclcoaaDoor.Fit Pnm Tre

set_option maxRecDepth 100000 in
set_option maxHeartbeats 8000000 in
theorem pmem_any (a : Option Addr) (n cap : Nat) (ys : List NdS) (w : World) (V : FVars w) (ha : ArgNds w a n cap ys) (h40 : n ≤ 40) : Calls Tryd.prog 20 #[.slice a n cap] w (RetMb w (nds ys)) := by
  have HA := Lib.hid ha
  have NZ := Lib.hid zNd
  have NO := Lib.hid ndT
  have MO := Lib.hid mbT
  have H40 := Lib.hid h40
  have n40 : (n : Int) ≤ 40 := by omega
  have HN : Hid ((nds ys).length = n) := by show _ = _; rw [nds_len]; exact ha.n
  obtain ⟨X1, hX1⟩ := named (chk (nds ys)).1
  obtain ⟨X2, hX2⟩ := named (chk (nds ys)).2
  have PC : Hid (Calls Tryd.prog 22 #[.slice a n cap] w fun e w'' => e = .returned (.tuple #[.int .i64 X1, .int .i64 X2]) ∧ Below w.heap.size w w'') := by
    show Calls _ _ _ _ _
    rw [hX1.out, hX2.out]; exact pchk_any a n cap ys w V ha
  have ZS : Hid ((Tryd.prog.info? 9).map (·.zero) = some (some (.string emp))) := by show _ = _; kernel_rfl
  have UM := Lib.hid Tryd.underlying68
  have UK := Lib.hid Tryd.underlying3
  obtain ⟨i0, HI0⟩ := info_of (P := Tryd.prog) (e := 30) (z := .agg (mbC 0 emp 0 emp 0 none 0 0).toArray) (s := 6) (b := 80) (by kernel_rfl)
  clear V ha h40
  go_enter Tryd.func20, Tryd.ntmps20
  go_wp2_with fail
  refine PC.out.mono ?_; rintro e w1 ⟨rfl, b1⟩
  have B1 := Lib.hid b1
  clear b1 PC
  by_cases hx : ¬ X2 = 0
  · have nx : (X2 != 0) = true := by simpa using hx
    go_wp2_with fail
    go_ret3
    exact .bad hX1.out hX2.out hx B1.out
  obtain rfl : X2 = 0 := Decidable.not_not.mp hx
  clear hx
  have VAL : Hid (Val (nds ys)) := chk_ok.mp hX2.out.symm
  obtain rfl : X1 = (n : Int) := by rw [hX1.out, chk_val VAL.out, HN.out]
  go_wp2_with (first | (refine wpList_make_mbs rfl _ _ 22 30 rfl Tryd.underlying22 i0 HI0 n rfl rfl (by have := H40.out; omega) ?_; intro w2 g2 b2; have G2 := Lib.hid g2; have B2 := Lib.hid (belT B1.out b2); clear g2 b2) | (refine wpList_make_mapF rfl _ rfl (.int .i64) ?_; intro w3 m3 b3; have M3 := Lib.hid m3; have G3 := Lib.hid (G2.out.below b3 G2.out.lt); have GM := Lib.hid G2.out.lt; have B3 := Lib.hid (belT B2.out b3); clear m3 b3))
  refine (canon_any a n cap ys w3 (HA.out.below B3.out) H40.out).mono ?_; rintro e w4 ⟨c, cc, zs, rfl, hz, ez, hfr, hown, b4⟩
  obtain ⟨g, hg⟩ : ∃ g, g = w1.heap.size := ⟨_, rfl⟩
  obtain ⟨m, hm⟩ : ∃ m, m = w2.heap.size := ⟨_, rfl⟩
  obtain ⟨C, hC⟩ : ∃ C, C = canon (nds ys) := ⟨_, rfl⟩
  rw [← hC] at ez
  rw [← hg] at G3 GM ⊢
  rw [← hm] at M3 GM ⊢
  have CAN : Hid (Can C) := by show Can C; rw [hC]; exact can_of VAL.out
  have CN : Hid (C.length = n) := by show _ = _; rw [hC, canon_len, HN.out]
  have HC := Lib.hid hC
  have G4 := Lib.hid (G3.out.below b4 G3.out.lt); have M4 := Lib.hid (M3.out.below b4 M3.out.lt)
  have GW : Hid (w.heap.size ≤ g) := by have := B1.out.size; show _ ≤ _; omega
  have MW : Hid (w.heap.size ≤ m) := by have := GW.out; have := GM.out; show _ ≤ _; omega
  have ML : Hid (m < w3.heap.size) := M3.out.lt
  have GL : Hid (g < w3.heap.size) := G3.out.lt
  have B4 := Lib.hid (belT B3.out b4)
  have HZ := Lib.hid hz; have EZ := Lib.hid ez; have FR := Lib.hid hfr; have OW := Lib.hid hown
  have SD : Hid (∀ z ∈ zs, ∀ x, z.a = some x → ¬ (x.block = g ∨ x.block = m)) := fun z hz' x hx => by
    have := frs_at (hfr z hz') x hx
    have := ML.out; have := GL.out
    omega
  have SC : Hid (∀ x, c = some x → ¬ (x.block = g ∨ x.block = m)) := fun x hx => by
    have := (hown x hx).1
    have := ML.out; have := GL.out
    omega
  have ncc : (n : Int) ≤ cc := by have := hz.c; omega
  clear hg hm hC hz ez hfr hown b4 G2 G3 M3 B1 B2 FR OW
  go_wp2_with fail
  go_loopw [28] (fun i wr => ∃ (j N : Nat) (us : List MbS) (F : Value → Option Value), i = .int .i64 j ∧ j ≤ n ∧ Rw (fun k => k = g ∨ k = m) C w4 n us j ∧ ObjAt wr g 30 (mbCells us) ∧ MapF wr m (.int .i64) N F ∧ Lst F C j ∧ Only (fun k => k = g ∨ k = m) w4 wr) (fun i _ => n - (intOf i).toNat)
  case atStart => exact ⟨0, 0, _, _, rfl, Nat.zero_le _, ⟨by simp, fun i hi => absurd hi (Nat.not_lt_zero i)⟩, G4.out, M4.out, Lst.zero C, Only.refl _ _⟩
  case round =>
    obtain ⟨j, N, us, F, rfl, hj, hrw, hg, hm, hl, ho⟩ := hrel
    by_cases hjn : j < n
    · obtain ⟨b, off, z, rfl, hb, hz, hf, hat⟩ := HZ.out.get j hjn
      have HRW := Lib.hid hrw; have HG := Lib.hid hg; have HM := Lib.hid hm; have HL := Lib.hid hl; have HO := Lib.hid ho; have HF := Lib.hid hf
      have JN := Lib.hid hjn
      have JC : Hid (j < C.length) := by show _ < _; rw [CN.out]; exact hjn
      have UL : Hid (j < us.length) := by show _ < _; rw [hrw.len]; exact hjn
      have ZC : Hid (nd C j = z.n) := by
        show _ = _
        rw [← EZ.out]; exact nd_y hz
      obtain ⟨c0, c1, c2, c3, c4, c5⟩ := (hat.block (ho.block b hb (SC.out _ rfl))).c hz
      have SZ := Lib.hid (SD.out z (List.mem_of_getElem? hz))
      have FS : Hid (F (.int .i64 z.n.c) = (fr C j (nd C j).c).map fun y => .string y.p) := by show _ = _; rw [hl, ZC.out]
      clear hrw hg hm hl ho hf hat hz hb hjn hj
      obtain ⟨⟨k, p, mo, t, d, cl⟩, x, xc⟩ := z
      obtain ⟨L, hL⟩ := named d.length
      have c4' : wr.cell? ⟨b, off + j * 6 + 4, none⟩ = some (.slice x L xc) := by rw [hL.out]; exact c4
      clear c4
      have j1 : (j : Int) < n := by have := JN.out; omega
      have WG := Lib.hid HG.out.lt; have WM := Lib.hid HM.out.lt
      cases hfr : fr C j (nd C j).c with
      | some y =>
        have PY : Hid (y.p.size ≤ 140737488355328) := by
          obtain ⟨r, hr, rfl, _⟩ := fr_some (Nat.le_of_lt JC.out) hfr
          have hr' : r < (nds zs).length := by rw [EZ.out]; have := JC.out; omega
          rw [nds_len] at hr'
          show _ ≤ _
          rw [← EZ.out, nd_y (List.getElem?_eq_getElem hr')]
          exact (HZ.out.s _ (List.getElem_mem hr')).p
        have EL := Lib.hid (lnk_el (S := fun k => k = g ∨ k = m) ZC.out hfr HF.out PY.out)
        have LS := Lib.hid (HL.out.stay JC.out (.inl ⟨y, hfr⟩))
        have hF : F (.int .i64 cl) = some (.string y.p) := by have := FS.out; rw [hfr] at this; exact this
        obtain ⟨q, hq⟩ : ∃ q, q = y.p := ⟨_, rfl⟩
        rw [← hq] at hF EL
        have HFF := Lib.hid hF
        clear hF hq hfr FS
        go_wp2_with (first | (refine wpList_alloc_obj rfl 55 rfl (ndL 0 emp 0 emp none 0 0 0) NZ.out ?_; intro w5 g5 b5; have G5 := Lib.hid g5; have HG5 := Lib.hid (HG.out.below b5 HG.out.lt); have HM5 := Lib.hid (HM.out.below b5 HM.out.lt); have B5 := Lib.hid b5; clear g5 b5 c0 c1 c2 c3 c4' c5) | (refine wpList_store_obj rfl 55 _ _ rfl wr.heap.size rfl (ndL k p mo t x L xc cl) (ndL 0 emp 0 emp none 0 0 0) rfl 55 G5.out NO.out.2 rfl (nd_one _ _ _ _ _ _ _ _) ?_; intro w6 g6 t6; have HG6 := Lib.hid (HG5.out.turned t6 (Nat.ne_of_lt WG.out)); have HM6 := Lib.hid (HM5.out.block (t6.other (Nat.ne_of_lt WM.out))); have G6 := Lib.hid g6; have B6 := Lib.hid (B5.out.trans (t6.below (Nat.le_refl _))); have c0 := g6.get 0 rfl; have c1 := g6.get 1 rfl; have c2 := g6.get 2 rfl; have c3 := g6.get 3 rfl; have c4 := g6.get 4 rfl; have c5 := g6.get 5 rfl; have q1 := (run_lookF (P := Tryd.prog) (w := w6) 68 3 9 UM.out (.int .i64) UK.out (.string emp) ZS.out m N (.int .i64 cl) (show IsKey (.int .i64) (.int .i64 cl) from rfl) F HM6.out).1; rw [HFF.out] at q1; simp only [Option.getD_some, Option.isSome_some] at q1; clear g6 t6))
        refine (linkM_any k p mo t x L xc cl q w6).mono ?_; rintro e w7 ⟨rfl, b7⟩
        have HG7 := Lib.hid (HG6.out.below b7 HG6.out.lt); have HM7 := Lib.hid (HM6.out.below b7 HM6.out.lt); have G7 := Lib.hid (G6.out.below b7 G6.out.lt)
        have O7 := Lib.hid (HO.out.trans (Only.of_below (belT B6.out b7) (Nat.le_refl _)))
        clear b7 c0 c1 c2 c3 c4 c5
        go_wp2_with (first | (refine wpList_store_mb rfl 30 _ _ rfl g _ j rfl (by omega) ⟨⟨⟨3, p, mo, q, 0⟩, []⟩, none, 0⟩ rfl MO.out.2 30 us HG7.out UL.out ?_; intro w8 g8 t8; have HG8 := Lib.hid g8; have HM8 := Lib.hid (HM7.out.block (t8.other (Ne.symm (Nat.ne_of_lt GM.out)))); have O8 := Lib.hid (O7.out.trans (TurnB.only (S := fun k => k = g ∨ k = m) t8 (.inl rfl))); have G8 := Lib.hid (G7.out.turnB t8 (Ne.symm (Nat.ne_of_lt WG.out))); have c0 := G8.out.get 0 rfl; have c1 := G8.out.get 1 rfl; have c5 := G8.out.get 5 rfl; clear g8 t8))
        go_round
        case rel => exact ⟨j + 1, N, _, F, by go_num, by have := JN.out; omega, HRW.out.next JN.out EL.out, HG8.out, HM8.out, LS.out, O8.out⟩
        case measure => simp [intOf]; have := JN.out; omega
      | none =>
        have EL := Lib.hid (own_el (S := fun k => k = g ∨ k = m) CAN.out JC.out ZC.out hfr HF.out SZ.out)
        have hF : F (.int .i64 cl) = none := by have := FS.out; rw [hfr] at this; exact this
        have HFF := Lib.hid hF
        have eL : Hid ((Value.agg (mbC k p mo t L x L xc).toArray) = .agg (mbV ⟨⟨⟨k, p, mo, t, d.length⟩, d⟩, x, xc⟩).toArray) := by show _ = _; rw [hL.out]
        by_cases hc : 0 < cl
        · have LS : Hid (Lst (upd F (.int .i64 cl) (.string p)) C (j + 1)) := by
            have h := HL.out.more JC.out hfr (by rw [ZC.out]; exact hc)
            rw [ZC.out] at h
            exact h
          clear hF hfr FS
          go_wp2_with (first | (refine wpList_alloc_obj rfl 55 rfl (ndL 0 emp 0 emp none 0 0 0) NZ.out ?_; intro w5 g5 b5; have G5 := Lib.hid g5; have HG5 := Lib.hid (HG.out.below b5 HG.out.lt); have HM5 := Lib.hid (HM.out.below b5 HM.out.lt); have B5 := Lib.hid b5; clear g5 b5 c0 c1 c2 c3 c4' c5) | (refine wpList_store_obj rfl 55 _ _ rfl wr.heap.size rfl (ndL k p mo t x L xc cl) (ndL 0 emp 0 emp none 0 0 0) rfl 55 G5.out NO.out.2 rfl (nd_one _ _ _ _ _ _ _ _) ?_; intro w6 g6 t6; have HG6 := Lib.hid (HG5.out.turned t6 (Nat.ne_of_lt WG.out)); have HM6 := Lib.hid (HM5.out.block (t6.other (Nat.ne_of_lt WM.out))); have G6 := Lib.hid g6; have B6 := Lib.hid (B5.out.trans (t6.below (Nat.le_refl _))); have c0 := g6.get 0 rfl; have c1 := g6.get 1 rfl; have c2 := g6.get 2 rfl; have c3 := g6.get 3 rfl; have c4 := g6.get 4 rfl; have c5 := g6.get 5 rfl; have q1 := (run_lookF (P := Tryd.prog) (w := w6) 68 3 9 UM.out (.int .i64) UK.out (.string emp) ZS.out m N (.int .i64 cl) (show IsKey (.int .i64) (.int .i64 cl) from rfl) F HM6.out).1; rw [HFF.out] at q1; simp only [Option.getD_none, Option.isSome_none] at q1; clear g6 t6))
          refine (nodeM_any k p mo t x L xc cl w6).mono ?_; rintro e w7 ⟨rfl, b7⟩
          have HG7 := Lib.hid (HG6.out.below b7 HG6.out.lt); have HM7 := Lib.hid (HM6.out.below b7 HM6.out.lt); have G7 := Lib.hid (G6.out.below b7 G6.out.lt)
          have O7 := Lib.hid (HO.out.trans (Only.of_below (belT B6.out b7) (Nat.le_refl _)))
          clear b7 c0 c1 c2 c3 c4 c5
          rw [eL.out]
          go_wp2_with (first | (refine wpList_store_mb rfl 30 _ _ rfl g _ j rfl (by omega) ⟨⟨⟨k, p, mo, t, d.length⟩, d⟩, x, xc⟩ rfl MO.out.2 30 us HG7.out UL.out ?_; intro w8 g8 t8; have HG8 := Lib.hid g8; have HM8 := Lib.hid (HM7.out.block (t8.other (Ne.symm (Nat.ne_of_lt GM.out)))); have O8 := Lib.hid (O7.out.trans (TurnB.only (S := fun k => k = g ∨ k = m) t8 (.inl rfl))); have G8 := Lib.hid (G7.out.turnB t8 (Ne.symm (Nat.ne_of_lt WG.out))); have c0 := G8.out.get 0 rfl; have c1 := G8.out.get 1 rfl; have c5 := G8.out.get 5 rfl; clear g8 t8) | (refine wpList_update_map rfl 68 _ _ _ rfl 3 9 UM.out (.int .i64) UK.out m rfl (.int .i64 cl) rfl (show IsKey (.int .i64) (.int .i64 cl) from rfl) (.string p) rfl N F HM8.out ?_; intro w9 m9 t9; rw [HFF.out, if_pos rfl] at m9; have HM9 := Lib.hid m9; have HG9 := Lib.hid (HG8.out.turnB t9 (Nat.ne_of_lt GM.out)); have O9 := Lib.hid (O8.out.trans (TurnB.only (S := fun k => k = g ∨ k = m) t9 (.inr rfl))); clear m9 t9))
          go_round
          case rel => exact ⟨j + 1, N + 1, _, _, by go_num, by have := JN.out; omega, HRW.out.next JN.out EL.out, HG9.out, HM9.out, LS.out, O9.out⟩
          case measure => simp [intOf]; have := JN.out; omega
        · have LS := Lib.hid (HL.out.stay JC.out (.inr (by rw [ZC.out]; exact Int.not_lt.mp hc)))
          clear hF hfr FS
          go_wp2_with (first | (refine wpList_alloc_obj rfl 55 rfl (ndL 0 emp 0 emp none 0 0 0) NZ.out ?_; intro w5 g5 b5; have G5 := Lib.hid g5; have HG5 := Lib.hid (HG.out.below b5 HG.out.lt); have HM5 := Lib.hid (HM.out.below b5 HM.out.lt); have B5 := Lib.hid b5; clear g5 b5 c0 c1 c2 c3 c4' c5) | (refine wpList_store_obj rfl 55 _ _ rfl wr.heap.size rfl (ndL k p mo t x L xc cl) (ndL 0 emp 0 emp none 0 0 0) rfl 55 G5.out NO.out.2 rfl (nd_one _ _ _ _ _ _ _ _) ?_; intro w6 g6 t6; have HG6 := Lib.hid (HG5.out.turned t6 (Nat.ne_of_lt WG.out)); have HM6 := Lib.hid (HM5.out.block (t6.other (Nat.ne_of_lt WM.out))); have G6 := Lib.hid g6; have B6 := Lib.hid (B5.out.trans (t6.below (Nat.le_refl _))); have c0 := g6.get 0 rfl; have c1 := g6.get 1 rfl; have c2 := g6.get 2 rfl; have c3 := g6.get 3 rfl; have c4 := g6.get 4 rfl; have c5 := g6.get 5 rfl; have q1 := (run_lookF (P := Tryd.prog) (w := w6) 68 3 9 UM.out (.int .i64) UK.out (.string emp) ZS.out m N (.int .i64 cl) (show IsKey (.int .i64) (.int .i64 cl) from rfl) F HM6.out).1; rw [HFF.out] at q1; simp only [Option.getD_none, Option.isSome_none] at q1; clear g6 t6))
          refine (nodeM_any k p mo t x L xc cl w6).mono ?_; rintro e w7 ⟨rfl, b7⟩
          have HG7 := Lib.hid (HG6.out.below b7 HG6.out.lt); have HM7 := Lib.hid (HM6.out.below b7 HM6.out.lt); have G7 := Lib.hid (G6.out.below b7 G6.out.lt)
          have O7 := Lib.hid (HO.out.trans (Only.of_below (belT B6.out b7) (Nat.le_refl _)))
          clear b7 c0 c1 c2 c3 c4 c5
          rw [eL.out]
          go_wp2_with (first | (refine wpList_store_mb rfl 30 _ _ rfl g _ j rfl (by omega) ⟨⟨⟨k, p, mo, t, d.length⟩, d⟩, x, xc⟩ rfl MO.out.2 30 us HG7.out UL.out ?_; intro w8 g8 t8; have HG8 := Lib.hid g8; have HM8 := Lib.hid (HM7.out.block (t8.other (Ne.symm (Nat.ne_of_lt GM.out)))); have O8 := Lib.hid (O7.out.trans (TurnB.only (S := fun k => k = g ∨ k = m) t8 (.inl rfl))); have G8 := Lib.hid (G7.out.turnB t8 (Ne.symm (Nat.ne_of_lt WG.out))); have c0 := G8.out.get 0 rfl; have c1 := G8.out.get 1 rfl; have c5 := G8.out.get 5 rfl; clear g8 t8))
          go_round
          case rel => exact ⟨j + 1, N, _, F, by go_num, by have := JN.out; omega, HRW.out.next JN.out EL.out, HG8.out, HM8.out, LS.out, O8.out⟩
          case measure => simp [intOf]; have := JN.out; omega
    · obtain rfl : j = n := by omega
      obtain ⟨d1, d2⟩ := hrw.done CN.out ho
      have RES : Hid (RetMb w (nds ys) (.returned (.tuple #[.slice (some ⟨g, 0, none⟩) j j, .int .i64 (j : Int), .int .i64 0])) wr) := by
        refine ⟨_, _, _, us, _, _, rfl, hX1.out, hX2.out, ⟨hrw.len, Nat.le_refl _, by have := H40.out; unfold maxLen; omega, .inr ⟨g, 0, rfl, hg.lt, .of_cells hg⟩, d2⟩, ?_, B4.out.trans (ho.below (fun k hk => ?_) B4.out.size)⟩
        · unfold mbR; rw [← hX2.out, if_pos rfl, d1, HC.out]
        · rcases hk with rfl | rfl
          · exact GW.out
          · exact MW.out
      clear hrw hg hm hl ho d1 d2 hjn hj
      go_wp2_with fail
      go_ret3
      exact RES.out
end Go.Proofs.YtinmkgpmoclcoaaDoor.Flt
