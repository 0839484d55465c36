/-
  The statement FlattenHardLinks: a walk. (gen_FltLaw5.py writes it.)
-/
import Derived.Test.YtmbimnnacjbdfaaDoorFltAlive
import Derived.Test.YtmbimnnacjbdfaaDoorFltHard
import Derived.Test.YtmbimnnacjbdfaaDoorPk13
namespace Go.Proofs.YtmbimnnacjbdfaaDoor
open Go.RowKit Go.MapKept Go.Proofs.YtmbimnnacjbdfaaDoor.Fit Pnm Tre Flt

/-- the classes met before place j, as a map -/
def Flt.MetC (F : Value → Option Value) (l : List Nd) (j : Nat) : Prop := ∀ c : Int, F (.int .i64 c) = if c ∈ dp ((cs l).take j) then some (.int .i64 1) else none
theorem Flt.MetC.stay {F : Value → Option Value} {l : List Nd} {j : Nat} (h : MetC F l j) (hj : j < l.length) (hc : (nd l j).c ≤ 0 ∨ Again l j) : MetC F l (j + 1) ∧ dp ((cs l).take (j + 1)) = dp ((cs l).take j) := by
  have e : dp ((cs l).take (j + 1)) = dp ((cs l).take j) := by
    rw [cs_take_step hj, dp_snoc, if_neg]
    rintro ⟨h1, h2⟩
    rcases hc with hc | hc
    · omega
    · exact h2 hc.2
  exact ⟨fun c => by rw [e]; exact h c, e⟩
theorem Flt.MetC.more {F : Value → Option Value} {l : List Nd} {j : Nat} (h : MetC F l j) (hj : j < l.length) (hp : 0 < (nd l j).c) (hn : ¬ Again l j) :
    MetC (upd F (.int .i64 (nd l j).c) (.int .i64 1)) l (j + 1) ∧ (dp ((cs l).take (j + 1))).length = (dp ((cs l).take j)).length + 1 := by
  have e : dp ((cs l).take (j + 1)) = dp ((cs l).take j) ++ [(nd l j).c] := by
    rw [cs_take_step hj, dp_snoc, if_pos ⟨hp, fun h => hn ⟨hp, h⟩⟩]
  refine ⟨fun c => ?_, by rw [e]; simp⟩
  rw [e]
  by_cases ec : c = (nd l j).c
  · subst ec
    rw [upd_same, if_pos (by simp)]
  · rw [upd_ne (fun h => ec (by injection h)), h c]
    by_cases h1 : c ∈ dp ((cs l).take j)
    · rw [if_pos h1, if_pos (by simp [h1])]
    · rw [if_neg h1, if_neg (by simp [h1, ec])]
theorem Flt.by_old {l : List Nd} {j : Nat} (h : Again l j) : byN l (j + 1) = byN l j := by rw [byN, if_pos h, Nat.add_zero]
theorem Flt.by_new {l : List Nd} {j : Nat} (h : ¬ Again l j) : byN l (j + 1) = byN l j + (nd l j).d.length := by rw [byN, if_neg h]
theorem Flt.by_nil {l : List Nd} {j : Nat} (h : (nd l j).d = []) : byN l (j + 1) = byN l j := by
  rw [byN, h]; split <;> rfl
theorem Flt.fl_le (l : List Nd) (j : Nat) : flN l j ≤ j := by
  unfold flN
  exact Nat.le_trans (List.length_filter_le _ _) (by rw [List.length_take]; omega)
theorem Flt.lk_le (M : List Mb) (j : Nat) : lkN M j ≤ j := by
  unfold lkN
  exact Nat.le_trans (List.length_filter_le _ _) (by rw [List.length_take]; omega)

set_option maxRecDepth 100000 in
set_option maxHeartbeats 8000000 in
theorem walk_FlattenHardLinks (a : Option Addr) (n cap : Nat) (ys : List NdS) (w : World) (V : Pxr.Vars w) (ha : ArgNds w a n cap ys) :
    Calls Tryd.prog 7 #[.slice a n cap] w fun e w' => e = .returned (.bool true) ∧ Below w.heap.size w w' := by
  have HV := Lib.hid (FVars.mk V)
  have HA := Lib.hid ha
  have NZ := Lib.hid zNd
  have NO := Lib.hid ndT
  have MO := Lib.hid mbT
  have MZ := Lib.hid zMb
  have HN : Hid ((nds ys).length = n) := by show _ = _; rw [nds_len]; exact ha.n
  have ZI : Hid ((Tryd.prog.info? 3).map (·.zero) = some (some (.int .i64 0))) := by show _ = _; kernel_rfl
  have UM := Lib.hid Tryd.underlying41
  have UK := Lib.hid Tryd.underlying3
  clear V ha
  go_enter Tryd.func7, Tryd.ntmps7
  go_wp2_with fail
  refine (large_any a n cap ys w HA.out).mono ?_; rintro e w1 ⟨R, rfl, hR, b1⟩
  have B1 := Lib.hid b1
  clear b1
  rcases hR with rfl | ⟨rfl, h40, _⟩
  · go_wp2_with fail
    refine (Flt.alive_any w1 (HV.out.go B1.out)).mono ?_; rintro e w2 ⟨rfl, b2⟩
    have B2 := Lib.hid (belT B1.out b2)
    go_wp2
    go_ret
    exact ⟨rfl, B2.out⟩
  have H1 := Lib.hid h40
  have n40 : (n : Int) ≤ 40 := by omega
  clear h40
  go_wp2_with fail
  refine (pmem_any a n cap ys w1 (HV.out.go B1.out) (HA.out.below B1.out) H1.out).mono ?_; rintro e w2 ⟨b, k, c, us, X1, X2, rfl, h1, h2, hm, hu, b2⟩
  have B2 := Lib.hid (belT B1.out b2); have HMB := Lib.hid hm; have HU := Lib.hid hu; have E2 := Lib.hid h2
  clear b2 hm hu h1 h2
  by_cases hx : ¬ X2 = 0
  · have nx : (X2 != 0) = true := by simpa using hx
    go_wp2_with fail
    refine (Flt.alive_any w2 (HV.out.go B2.out)).mono ?_; rintro e w5 ⟨rfl, b5⟩
    have B5 := Lib.hid (belT B2.out b5)
    go_wp2
    go_ret
    exact ⟨rfl, B5.out⟩
  obtain rfl : X2 = 0 := Decidable.not_not.mp hx
  clear hx
  have VAL : Hid (Val (nds ys)) := chk_ok.mp E2.out.symm
  have UMB : Hid (mms us = mbs (canon (nds ys))) := by
    show _ = _
    rw [HU.out]; unfold mbR; rw [← E2.out, if_pos rfl]
  obtain rfl : k = n := by
    have h1 := HMB.out.n
    have h2 := congrArg List.length UMB.out
    rw [mms_len, mbs_len, canon_len, HN.out] at h2
    omega
  clear HU E2
  go_wp2_with (first | (refine wpList_make_mapF rfl _ rfl (.int .i64) ?_; intro w3 m3 b3; have M3 := Lib.hid m3; have B3 := Lib.hid (belT B2.out b3); have B23 := Lib.hid b3; clear m3 b3))
  obtain ⟨m, hm⟩ : ∃ m, m = w2.heap.size := ⟨_, rfl⟩
  rw [← hm] at M3 B23 ⊢
  have HM0 : Hid (m = w2.heap.size) := hm
  clear hm
  go_loopw [6, 9, 10, 34] (fun f by_ al i wr => ∃ (j N : Nat) (F : Value → Option Value), f = .int .i64 (flN (nds ys) j : Nat) ∧ by_ = .int .i64 (byN (nds ys) j : Nat) ∧ al = .int .i64 (alN (nds ys) j : Nat) ∧ i = .int .i64 j ∧ j ≤ k ∧ byN (nds ys) j ≤ 140737488355328 * j ∧ MapF wr m (.int .i64) N F ∧ N = (dp ((cs (nds ys)).take j)).length ∧ MetC F (nds ys) j ∧ Below m w2 wr) (fun _ _ _ i _ => k - (intOf i).toNat)
  case atStart => exact ⟨0, 0, _, rfl, rfl, rfl, rfl, Nat.zero_le _, Nat.zero_le _, M3.out, rfl, (fun c => rfl), B23.out⟩
  case round =>
    obtain ⟨j, N, F, rfl, rfl, rfl, rfl, hj, hby, hM, hNN, hMe, hB⟩ := hrel
    have HM := Lib.hid hM; have HNN := Lib.hid hNN; have ME := Lib.hid hMe; have HB := Lib.hid hB; have BY := Lib.hid hby
    have fle := fl_le (nds ys) j
    clear hM hNN hMe hB hby
    by_cases hjn : j < k
    · obtain ⟨b', off, z, rfl, hb, hz, hf, hat⟩ := HA.out.get j hjn
      have hB2 : Below w.heap.size w wr := B2.out.trans (HB.out.mono (by rw [HM0.out]; exact B2.out.size))
      obtain ⟨c0, c1, c2, c3, c4, c5⟩ := (hat.below hB2 hb).c hz
      have EJ : Hid (nd (nds ys) j = z.n) := nd_y hz
      have JL : Hid (j < (nds ys).length) := by show _ < _; rw [HN.out]; exact hjn
      have OC := Lib.hid (one_c (VAL.out.one _ (nd_mem JL.out)))
      have WM := Lib.hid HM.out.lt
      have WG : Hid (m ≤ wr.heap.size) := Nat.le_of_lt HM.out.lt
      have DL0 := hf.l
      have JN := Lib.hid hjn
      clear hb hat hz hf hjn hj
      obtain ⟨⟨kd, p, mo, t, d, cl⟩, x, xc⟩ := z
      obtain ⟨L, hL⟩ := named d.length
      have c4' : wr.cell? ⟨b', off + j * 6 + 4, none⟩ = some (.slice x L xc) := by rw [hL.out]; exact c4
      have DL : (L : Int) ≤ 140737488355328 := by rw [hL.out]; exact Int.ofNat_le.mpr DL0
      clear c4 DL0
      have j1 : (j : Int) < k := by have := JN.out; omega
      have FS := Lib.hid (fl_step JL.out); have AS := Lib.hid (al_step JL.out)
      obtain ⟨f, hf⟩ := named (flN (nds ys) j)
      obtain ⟨al, hal⟩ := named (alN (nds ys) j)
      obtain ⟨by_, hby⟩ := named (byN (nds ys) j)
      rw [← hf.out, ← hal.out, ← hby.out]
      rw [← hf.out] at fle FS
      rw [← hal.out] at AS
      rw [← hby.out] at BY
      have AF : Hid (al ≤ f) := by have := fl_form VAL.out j (Nat.le_of_lt JL.out); rw [← hf.out, ← hal.out] at this; show _ ≤ _; omega
      have f1 : (f : Int) ≤ 40 := by have := JN.out; have := H1.out; omega
      have a1 : (al : Int) ≤ 40 := by have := AF.out; omega
      have by1 : (by_ : Int) ≤ 5629499534213120 := by have := BY.out; have := JN.out; have := H1.out; omega
      clear fle
      by_cases hk : ¬ kd = 1
      · have nk : (kd != 1) = true := by simpa using hk
        have hc0 : cl = 0 := by have := OC.out.2.1 (by rw [EJ.out]; exact hk); rw [EJ.out] at this; exact this
        have hd0 : d = [] := by have := OC.out.2.2.1 (by rw [EJ.out]; exact hk); rw [EJ.out] at this; exact this
        have s1 : flN (nds ys) (j + 1) = f := by rw [FS.out, EJ.out, if_neg hk]
        have s2 : alN (nds ys) (j + 1) = al := by rw [AS.out, EJ.out, if_neg (fun h => hk h.1)]
        have s3 : byN (nds ys) (j + 1) = by_ := by rw [by_nil (by rw [EJ.out]; exact hd0), hby.out]
        have s4 := ME.out.stay JL.out (.inl (by rw [EJ.out, hc0]; exact Int.le_refl _))
        have T1 := Lib.hid s1; have T2 := Lib.hid s2; have T3 := Lib.hid s3; have T4 := Lib.hid s4
        clear s1 s2 s3 s4 hc0 hd0 hk
        go_wp2_with (first | (refine wpList_alloc_obj rfl 32 rfl (ndL 0 emp 0 emp none 0 0 0) NZ.out ?_; intro w5 g5 b5; have G5 := Lib.hid g5; have HM5 := Lib.hid (HM.out.below b5 HM.out.lt); have B5 := Lib.hid b5; clear g5 b5 c0 c1 c2 c3 c4' c5) | (refine wpList_store_obj rfl 32 _ _ rfl wr.heap.size rfl (ndL kd p mo t x L xc cl) (ndL 0 emp 0 emp none 0 0 0) rfl 32 G5.out NO.out.2 rfl (nd_one _ _ _ _ _ _ _ _) ?_; intro w6 g6 t6; have HM6 := Lib.hid (HM5.out.block (t6.other (Nat.ne_of_lt WM.out))); have B6 := Lib.hid (B5.out.trans (t6.below (Nat.le_refl _))); have BB6 := Lib.hid (HB.out.trans (B6.out.mono WG.out)); have c0 := g6.get 0 rfl; have c4 := g6.get 4 rfl; have c5 := g6.get 5 rfl; clear g6 t6))
        go_round
        case rel => exact ⟨j + 1, N, F, by rw [T1.out], by rw [T3.out], by rw [T2.out], by go_num, by have := JN.out; omega, by rw [T3.out]; have := BY.out; omega, HM6.out, by rw [T4.out.2]; exact HNN.out, T4.out.1, BB6.out⟩
        case measure => simp [intOf]; have := JN.out; omega
      obtain rfl : kd = 1 := Decidable.not_not.mp hk
      clear hk
      have T1 : Hid (flN (nds ys) (j + 1) = f + 1) := by show _ = _; rw [FS.out, EJ.out, if_pos rfl]
      have nk : ((1 : Int) != 1) = false := by simp
      by_cases hc : cl = 0
      · subst hc
        have nc : ((0 : Int) == 0) = true := by simp
        have NA : ¬ Again (nds ys) j := fun h => by have := h.1; rw [EJ.out] at this; exact absurd this (show ¬ (0 : Int) < 0 by decide)
        have T2 : Hid (alN (nds ys) (j + 1) = al + 1) := by show _ = _; rw [AS.out, EJ.out, if_pos ⟨rfl, rfl⟩]
        have T3 : Hid (byN (nds ys) (j + 1) = by_ + L) := by show _ = _; rw [by_new NA, EJ.out, hby.out, hL.out]
        have T4 := Lib.hid (ME.out.stay JL.out (.inl (by rw [EJ.out]; exact Int.le_refl _)))
        clear NA
        go_wp2_with (first | (refine wpList_alloc_obj rfl 32 rfl (ndL 0 emp 0 emp none 0 0 0) NZ.out ?_; intro w5 g5 b5; have G5 := Lib.hid g5; have HM5 := Lib.hid (HM.out.below b5 HM.out.lt); have B5 := Lib.hid b5; clear g5 b5 c0 c1 c2 c3 c4' c5) | (refine wpList_store_obj rfl 32 _ _ rfl wr.heap.size rfl (ndL 1 p mo t x L xc 0) (ndL 0 emp 0 emp none 0 0 0) rfl 32 G5.out NO.out.2 rfl (nd_one _ _ _ _ _ _ _ _) ?_; intro w6 g6 t6; have HM6 := Lib.hid (HM5.out.block (t6.other (Nat.ne_of_lt WM.out))); have B6 := Lib.hid (B5.out.trans (t6.below (Nat.le_refl _))); have BB6 := Lib.hid (HB.out.trans (B6.out.mono WG.out)); have c0 := g6.get 0 rfl; have c4 := g6.get 4 rfl; have c5 := g6.get 5 rfl; clear g6 t6))
        go_round
        case rel => exact ⟨j + 1, N, F, by rw [T1.out]; go_num, by rw [T3.out]; go_num, by rw [T2.out]; go_num, by go_num, by have := JN.out; omega, by rw [T3.out]; have := BY.out; omega, HM6.out, by rw [T4.out.2]; exact HNN.out, T4.out.1, BB6.out⟩
        case measure => simp [intOf]; have := JN.out; omega
      · have nc : (cl == 0) = false := by simpa using hc
        have hp : 0 < cl := by have := OC.out.1; rw [EJ.out] at this; have this : 0 ≤ cl := this; omega
        have T2 : Hid (alN (nds ys) (j + 1) = al) := by show _ = _; rw [AS.out, EJ.out, if_neg (fun h => hc h.2)]
        by_cases hag : Again (nds ys) j
        · have T3 : Hid (byN (nds ys) (j + 1) = by_) := by show _ = _; rw [by_old hag, hby.out]
          have T4 := Lib.hid (ME.out.stay JL.out (.inr hag))
          have HFF : Hid (F (.int .i64 cl) = some (.int .i64 1)) := by
            show _ = _
            rw [ME.out cl, if_pos (dp_mem.mpr ⟨hp, by have := hag.2; rw [EJ.out] at this; exact this⟩)]
          clear hag hc hp
          go_wp2_with (first | (refine wpList_alloc_obj rfl 32 rfl (ndL 0 emp 0 emp none 0 0 0) NZ.out ?_; intro w5 g5 b5; have G5 := Lib.hid g5; have HM5 := Lib.hid (HM.out.below b5 HM.out.lt); have B5 := Lib.hid b5; clear g5 b5 c0 c1 c2 c3 c4' c5) | (refine wpList_store_obj rfl 32 _ _ rfl wr.heap.size rfl (ndL 1 p mo t x L xc cl) (ndL 0 emp 0 emp none 0 0 0) rfl 32 G5.out NO.out.2 rfl (nd_one _ _ _ _ _ _ _ _) ?_; intro w6 g6 t6; have HM6 := Lib.hid (HM5.out.block (t6.other (Nat.ne_of_lt WM.out))); have B6 := Lib.hid (B5.out.trans (t6.below (Nat.le_refl _))); have BB6 := Lib.hid (HB.out.trans (B6.out.mono WG.out)); have c0 := g6.get 0 rfl; have c4 := g6.get 4 rfl; have c5 := g6.get 5 rfl; have G6 := Lib.hid g6; have q1 := (run_lookF (P := Tryd.prog) (w := w6) 41 3 3 UM.out (.int .i64) UK.out (.int .i64 0) ZI.out m N (.int .i64 cl) (show IsKey (.int .i64) (.int .i64 cl) from rfl) F HM6.out).1; rw [HFF.out] at q1; simp only [Option.getD_some, Option.isSome_some] at q1; clear g6 t6))
          go_round
          case rel => exact ⟨j + 1, N, F, by rw [T1.out]; go_num, by rw [T3.out], by rw [T2.out], by go_num, by have := JN.out; omega, by rw [T3.out]; have := BY.out; omega, HM6.out, by rw [T4.out.2]; exact HNN.out, T4.out.1, BB6.out⟩
          case measure => simp [intOf]; have := JN.out; omega
        · have T3 : Hid (byN (nds ys) (j + 1) = by_ + L) := by show _ = _; rw [by_new hag, EJ.out, hby.out, hL.out]
          have T4 := ME.out.more JL.out (by rw [EJ.out]; exact hp) hag
          rw [EJ.out] at T4
          have T4 := Lib.hid T4
          have HFF : Hid (F (.int .i64 cl) = none) := by
            show _ = _
            rw [ME.out cl, if_neg (fun h => hag ⟨by rw [EJ.out]; exact hp, by rw [EJ.out]; exact (dp_mem.mp h).2⟩)]
          clear hag hc hp
          go_wp2_with (first | (refine wpList_alloc_obj rfl 32 rfl (ndL 0 emp 0 emp none 0 0 0) NZ.out ?_; intro w5 g5 b5; have G5 := Lib.hid g5; have HM5 := Lib.hid (HM.out.below b5 HM.out.lt); have B5 := Lib.hid b5; clear g5 b5 c0 c1 c2 c3 c4' c5) | (refine wpList_store_obj rfl 32 _ _ rfl wr.heap.size rfl (ndL 1 p mo t x L xc cl) (ndL 0 emp 0 emp none 0 0 0) rfl 32 G5.out NO.out.2 rfl (nd_one _ _ _ _ _ _ _ _) ?_; intro w6 g6 t6; have HM6 := Lib.hid (HM5.out.block (t6.other (Nat.ne_of_lt WM.out))); have B6 := Lib.hid (B5.out.trans (t6.below (Nat.le_refl _))); have BB6 := Lib.hid (HB.out.trans (B6.out.mono WG.out)); have c0 := g6.get 0 rfl; have c4 := g6.get 4 rfl; have c5 := g6.get 5 rfl; have G6 := Lib.hid g6; have q1 := (run_lookF (P := Tryd.prog) (w := w6) 41 3 3 UM.out (.int .i64) UK.out (.int .i64 0) ZI.out m N (.int .i64 cl) (show IsKey (.int .i64) (.int .i64 cl) from rfl) F HM6.out).1; rw [HFF.out] at q1; simp only [Option.getD_none, Option.isSome_none] at q1; clear g6 t6) | (refine wpList_update_map rfl 41 _ _ _ rfl 3 3 UM.out (.int .i64) UK.out m rfl (.int .i64 cl) rfl (show IsKey (.int .i64) (.int .i64 cl) from rfl) (.int .i64 1) rfl N F HM6.out ?_; intro w9 m9 t9; rw [HFF.out, if_pos rfl] at m9; have HM9 := Lib.hid m9; have B9 := Lib.hid (BB6.out.trans (t9.below (Nat.le_refl _))); have G9 := Lib.hid (G6.out.turnB t9 (Nat.ne_of_gt WM.out)); have c4 := G9.out.get 4 rfl; clear m9 t9))
          go_round
          case rel => exact ⟨j + 1, N + 1, _, by rw [T1.out]; go_num, by rw [T3.out]; go_num, by rw [T2.out], by go_num, by have := JN.out; omega, by rw [T3.out]; have := BY.out; omega, HM9.out, by rw [T4.out.2, ← HNN.out], T4.out.1, B9.out⟩
          case measure => simp [intOf]; have := JN.out; omega
    · obtain rfl : j = k := by omega
      obtain ⟨wz, hwz⟩ : ∃ wz, wz = wr := ⟨wr, rfl⟩
      have BZ : Hid (Below w.heap.size w wz) := by show Below _ _ _; rw [hwz]; exact B2.out.trans (HB.out.mono (by rw [HM0.out]; exact B2.out.size))
      have B2Z : Hid (Below w2.heap.size w2 wz) := by show Below _ _ _; rw [hwz, ← HM0.out]; exact HB.out
      rw [← hwz] at HM ⊢
      clear hwz HB
      have EQ := hard_links VAL.out
      rw [HN.out] at EQ
      have ND : N = (dp (cs (nds ys))).length := by
        rw [HNN.out, List.take_of_length_le (by unfold cs; rw [List.length_map, HN.out]; exact Nat.le_refl _)]
      rw [← ND, ← UMB.out] at EQ
      obtain ⟨f, hf⟩ := named (flN (nds ys) j)
      obtain ⟨al, hal⟩ := named (alN (nds ys) j)
      obtain ⟨by_, hby⟩ := named (byN (nds ys) j)
      rw [← hf.out, ← hal.out, ← hby.out] at EQ ⊢
      rw [← hf.out] at fle
      have EQL := Lib.hid EQ.1; have EQS := Lib.hid EQ.2
      have f1 : (f : Int) ≤ 40 := by have := H1.out; omega
      clear EQ ND hf hal hby HNN ME BY fle hjn hj
      go_wp2_with fail
      go_loopw [8, 15, 73] (fun lk st i wr => ∃ q : Nat, lk = .int .i64 (lkN (mms us) q : Nat) ∧ st = .int .i64 (stN (mms us) q : Nat) ∧ i = .int .i64 q ∧ q ≤ j ∧ stN (mms us) q ≤ 140737488355328 * q ∧ Below wz.heap.size wz wr) (fun _ _ i _ => j - (intOf i).toNat)
      case atStart => exact ⟨0, rfl, rfl, rfl, Nat.zero_le _, Nat.zero_le _, Below.refl _ _⟩
      case round =>
        obtain ⟨q, rfl, rfl, rfl, hq, hst, hB⟩ := hrel
        have HB := Lib.hid hB; have ST := Lib.hid hst
        have BB := Lib.hid (belT B2Z.out hB)
        have lke := lk_le (mms us) q
        clear hB hst
        by_cases hqj : q < j
        · obtain ⟨b', off, y, rfl, hb, hy, hf, hat⟩ := HMB.out.get q hqj
          obtain ⟨c0, c1, c2, c3, c4, c5⟩ := (hat.below BB.out hb).c hy
          have LS := Lib.hid (lk_step (mms_at hy)); have SS := Lib.hid (st_step (mms_at hy))
          have QN := Lib.hid hqj
          have DL0 := hf.l
          have cc := HMB.out.c
          have cci : (j : Int) ≤ c := by omega
          clear hb hat hy hf hqj hq cc
          obtain ⟨⟨⟨kd, p, mo, t, s⟩, d⟩, x, xc⟩ := y
          obtain ⟨L, hL⟩ := named d.length
          have c5' : wr.cell? ⟨b', off + q * 6 + 5, none⟩ = some (.slice x L xc) := by rw [hL.out]; exact c5
          have DL : (L : Int) ≤ 140737488355328 := by rw [hL.out]; exact Int.ofNat_le.mpr DL0
          clear c5 DL0
          have q1 : (q : Int) < j := by have := QN.out; omega
          obtain ⟨lk, hlk⟩ := named (lkN (mms us) q)
          obtain ⟨st, hst⟩ := named (stN (mms us) q)
          rw [← hlk.out, ← hst.out]
          rw [← hlk.out] at LS lke
          rw [← hst.out] at SS ST
          have T2 : Hid (stN (mms us) (q + 1) = st + L) := by show _ = _; rw [SS.out, hL.out]
          have lk1 : (lk : Int) ≤ 40 := by have := QN.out; have := H1.out; omega
          have st1 : (st : Int) ≤ 5629499534213120 := by have := ST.out; have := QN.out; have := H1.out; omega
          clear lke
          by_cases hk : kd = 3
          · subst hk
            have nk : ((3 : Int) == 3) = true := by simp
            have T1 : Hid (lkN (mms us) (q + 1) = lk + 1) := by show _ = _; rw [LS.out, if_pos rfl]
            go_wp2_with (first | (refine wpList_alloc_obj rfl 46 rfl (mbC 0 emp 0 emp 0 none 0 0) MZ.out ?_; intro w5 g5 b5; have G5 := Lib.hid g5; have B5 := Lib.hid b5; clear g5 b5 c0 c1 c2 c3 c4 c5') | (refine wpList_store_obj rfl 46 _ _ rfl wr.heap.size rfl (mbC 3 p mo t s x L xc) (mbC 0 emp 0 emp 0 none 0 0) rfl 46 G5.out MO.out.2 rfl (mb_one _ _ _ _ _ _ _ _) ?_; intro w6 g6 t6; have B6 := Lib.hid (HB.out.trans ((B5.out.trans (t6.below (Nat.le_refl _))).mono HB.out.size)); have d0 := g6.get 0 rfl; have d5 := g6.get 5 rfl; clear g6 t6))
            go_round
            case rel => exact ⟨q + 1, by rw [T1.out]; go_num, by rw [T2.out]; go_num, by go_num, by have := QN.out; omega, by rw [T2.out]; have := ST.out; omega, B6.out⟩
            case measure => simp [intOf]; have := QN.out; omega
          · have nk : (kd == 3) = false := by simpa using hk
            have T1 : Hid (lkN (mms us) (q + 1) = lk) := by show _ = _; rw [LS.out, if_neg hk]
            clear hk
            go_wp2_with (first | (refine wpList_alloc_obj rfl 46 rfl (mbC 0 emp 0 emp 0 none 0 0) MZ.out ?_; intro w5 g5 b5; have G5 := Lib.hid g5; have B5 := Lib.hid b5; clear g5 b5 c0 c1 c2 c3 c4 c5') | (refine wpList_store_obj rfl 46 _ _ rfl wr.heap.size rfl (mbC kd p mo t s x L xc) (mbC 0 emp 0 emp 0 none 0 0) rfl 46 G5.out MO.out.2 rfl (mb_one _ _ _ _ _ _ _ _) ?_; intro w6 g6 t6; have B6 := Lib.hid (HB.out.trans ((B5.out.trans (t6.below (Nat.le_refl _))).mono HB.out.size)); have d0 := g6.get 0 rfl; have d5 := g6.get 5 rfl; clear g6 t6))
            go_round
            case rel => exact ⟨q + 1, by rw [T1.out], by rw [T2.out]; go_num, by go_num, by have := QN.out; omega, by rw [T2.out]; have := ST.out; omega, B6.out⟩
            case measure => simp [intOf]; have := QN.out; omega
        · obtain rfl : q = j := by omega
          have HMW := Lib.hid (HM.out.below HB.out HM.out.lt)
          have BW := Lib.hid (belT BZ.out HB.out)
          obtain ⟨lk, hlk⟩ := named (lkN (mms us) q)
          obtain ⟨st, hst⟩ := named (stN (mms us) q)
          rw [← hlk.out, ← hst.out]
          rw [← hlk.out] at EQL
          rw [← hst.out] at EQS
          obtain rfl : st = by_ := EQS.out
          obtain ⟨A, hA⟩ := named (f - al)
          have m1 : IntKind.i64.wrap ((f : Int) - (al : Int)) = (A : Int) := by rw [wrapP (by have := EQL.out; omega) (by omega)]; have := EQL.out; have := hA.out; omega
          have m2 : IntKind.i64.wrap ((A : Int) - (N : Int)) = (lk : Int) := by rw [wrapP (by have := EQL.out; have := hA.out; omega) (by have := EQL.out; have := hA.out; omega)]; have := EQL.out; have := hA.out; omega
          have n1 : ((lk : Int) == (lk : Int)) = true := by simp
          have n2 : ((st : Int) == (st : Int)) = true := by simp
          clear lke hqj hq hlk hst hA
          go_wp2_with fail
          refine (Flt.alive_any wr (HV.out.go BW.out)).mono ?_; rintro e x1 ⟨rfl, b1⟩
          have X1 := Lib.hid (belT BW.out b1)
          have ql := run_lenF (P := Tryd.prog) (w := x1) 41 3 3 3 UM.out (.int .i64) m N F (HMW.out.below b1 HMW.out.lt)
          clear b1
          go_wp2_with fail
          go_ret
          exact ⟨rfl, X1.out⟩
end Go.Proofs.YtmbimnnacjbdfaaDoor
