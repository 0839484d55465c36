/-
  The statement RebuildCheckIsPure: a walk. (gen_RebLaw5.py writes it.)
-/
import Derived.Test.YtinmkgpmoclcoaaDoorRebUse
import Derived.Test.YtinmkgpmoclcoaaDoorRebLarge
import Derived.Test.YtinmkgpmoclcoaaDoorPz14
namespace Go.Proofs.YtinmkgpmoclcoaaDoor
open Go.RowKit Go.Proofs.YtinmkgpmoclcoaaDoor.Fit Pnm Tre Flt Reb

theorem ArgNds.only {S : Nat → Prop} {w w' : World} {a : Option Addr} {n c : Nat} {zs : List NdS} (h : ArgNds w a n c zs) (ho : Only S w w') (ha : ∀ x, a = some x → ¬ S x.block) (hz : ∀ z ∈ zs, ∀ x, z.a = some x → ¬ S x.block) : ArgNds w' a n c zs := by
  refine ⟨h.n, h.c, h.m, ?_, fun z hm => Flt.NdF.only (h.s z hm) ho (hz z hm)⟩
  rcases h.r with h0 | ⟨b, off, h1, h2, h3⟩
  · exact .inl h0
  · exact .inr ⟨b, off, h1, Nat.lt_of_lt_of_le h2 ho.size, h3.block (ho.block b h2 (ha _ h1))⟩

set_option maxRecDepth 100000 in
set_option maxHeartbeats 16000000 in
theorem walk_RebuildCheckIsPure (a : Option Addr) (n cap : Nat) (ys : List MbS) (w : World) (V : Pxr.Vars w) (ha : ArgMbs w a n cap ys) :
    Calls Tryd.prog 7 #[.slice a n cap] w fun e w' => e = .returned (.bool true) ∧ Below w.heap.size w w' := by
  have HV := Lib.hid (FVars.mk V)
  have HA := Lib.hid ha
  have MZ := Lib.hid Flt.zMb
  have MT := Lib.hid Flt.mbT
  have EO := Lib.hid enT
  clear V ha
  go_enter Tryd.func7, Tryd.ntmps7
  go_wp2_with fail
  refine (new_any w).mono ?_; rintro e w1 ⟨S, g, rfl, p1, s1, b1⟩
  have P1 := Lib.hid p1; have S1 := Lib.hid s1; have B1 := Lib.hid b1
  clear p1 s1 b1
  go_wp2_with fail
  refine (Reb.large_any a n cap ys w1 (HA.out.below B1.out)).mono ?_; rintro e w2 ⟨R, rfl, hR, b2⟩
  have B2 := Lib.hid (belT B1.out b2)
  have P2 := Lib.hid (P1.out.below b2)
  clear b2 P1
  rcases hR with rfl | ⟨rfl, h40, _⟩
  · go_wp2_with fail
    refine (Reb.alive_any w2 (HV.out.go B2.out)).mono ?_; rintro e w3 ⟨rfl, b3⟩
    have B3 := Lib.hid (belT B2.out b3)
    go_wp2
    go_ret
    exact ⟨rfl, B3.out⟩
  have H1 := Lib.hid h40
  have n40 : (n : Int) ≤ 40 := by omega
  clear h40
  go_wp2_with fail
  go_loopw [22] (fun i wr => ∃ (j : Nat) (S' : Nat → Prop) (A : List Mb), i = .int .i64 j ∧ j ≤ n ∧ A.length ≤ j ∧ (∀ q, S' q → w.heap.size ≤ q) ∧ PBd wr S' g A ∧ Below w.heap.size w wr) (fun i _ => n - (intOf i).toNat)
  case atStart => exact ⟨0, S, [], rfl, Nat.zero_le _, Nat.zero_le _, S1.out, P2.out, B2.out⟩
  case round =>
    obtain ⟨wo, hwo⟩ : ∃ wo, wo = wr := ⟨wr, rfl⟩
    subst hwo
    obtain ⟨j, S', A, rfl, hj, hLj, hS, hP, hB⟩ := hrel
    have HS := Lib.hid hS; have HP := Lib.hid hP; have HB := Lib.hid hB
    clear hS hP hB
    by_cases hjn : j < n
    · obtain ⟨bb, off, y, hbe, hbl, hy, hf, hat⟩ := HA.out.get j hjn
      subst hbe
      have HF := Lib.hid hf; have AT0 := at_row (hat.below HB.out hbl) hy
      have AL : Hid (A.length ≤ j) := hLj
      have JN := Lib.hid hjn
      have j1 : (j : Int) < n := by omega
      clear hbl hy hf hat hLj hj
      obtain ⟨⟨⟨k, p, m, t, s⟩, d⟩, x, xc⟩ := y
      obtain ⟨Ly, hLy⟩ := named d.length
      have HLY : Hid (d.length = Ly) := hLy.out.symm
      have AT : Hid (∀ q u, (mbC k p m t s x Ly xc)[q]? = some u → wo.cell? ⟨bb, off + j * 6 + q, none⟩ = some u) := by show ∀ _ _, _; rw [← HLY.out]; exact AT0
      clear AT0 hLy hjn
      obtain ⟨XC, hXC⟩ := named (chR A ⟨k, p, m, t, s⟩)
      obtain ⟨N, hN⟩ := named A.length
      have HNN : Hid (A.length = N) := hN.out.symm
      have A40 : Hid (A.length + 1 ≤ 40) := by show _ ≤ _; have := AL.out; have := JN.out; have := H1.out; omega
      have NDS : Hid (∀ w' S3, PBd w' S3 g A → Calls Tryd.prog 11 #[.pointer (some ⟨g, 0, none⟩)] w' (NdsP w' A N)) := fun w' S3 h => by
        have := pbnds_any h (by have := A40.out; omega)
        rw [HNN.out] at this
        exact this
      have PS : Hid (p.size ≤ maxLen) := Nat.le_trans HF.out.p (by unfold maxLen; omega)
      have TS : Hid (t.size ≤ maxLen) := Nat.le_trans HF.out.t (by unfold maxLen; omega)
      have PCK : Hid (∀ w', PBd w' S' g A → Below w.heap.size w w' → Calls Tryd.prog 10 #[.pointer (some ⟨g, 0, none⟩), .agg (enV k p m t s).toArray] w' fun e w'' => e = .returned (.int .i64 XC) ∧ Below w'.heap.size w' w'') := fun w' h hb => by
        obtain ⟨_, _, _, _, _, _, _, _, _, h1, _⟩ := h
        rw [hXC.out]
        exact pbchk_any h1 (HV.out.go hb) k p m t s PS.out TS.out
      have PCA : Hid (∀ w' k p m t s, PBd w' S' g A → Below w.heap.size w w' → p.size ≤ 140737488355328 → t.size ≤ 140737488355328 → Calls Tryd.prog 10 #[.pointer (some ⟨g, 0, none⟩), .agg (enV k p m t s).toArray] w' fun e w'' => ∃ X, e = .returned (.int .i64 X) ∧ Below w'.heap.size w' w'') := fun w' k p m t s h hb hp ht => by
        obtain ⟨_, _, _, _, _, _, _, _, _, h1, _⟩ := h
        refine (pbchk_any h1 (HV.out.go hb) k p m t s (Nat.le_trans hp (by decide)) (Nat.le_trans ht (by decide))).mono ?_
        rintro e w' ⟨h2, h3⟩
        exact ⟨_, h2, h3⟩
      clear hN
      go_wp2_with (first | (refine wpList_load_part rfl 30 6 MT.out _ rfl bb (off + j * 6) rfl (mbC k p m t s x Ly xc) rfl AT.out ?_) | (refine wpList_alloc_obj rfl 30 rfl (mbC 0 emp 0 emp 0 none 0 0) MZ.out ?_; intro w7 g7 b7; have G7 := Lib.hid g7; have B7 := Lib.hid b7; clear g7 b7) | (refine wpList_store_obj rfl 30 _ _ rfl wo.heap.size rfl (mbC k p m t s x Ly xc) (mbC 0 emp 0 emp 0 none 0 0) rfl 30 G7.out MT.out.2 rfl (mb_one _ _ _ _ _ _ _ _) ?_; intro wz g8 t8; have G8 := Lib.hid g8; have B8 := Lib.hid (B7.out.trans (t8.below (Nat.le_refl _))); clear g8 t8))
      have BW := Lib.hid (HB.out.trans (B8.out.mono HB.out.size))
      have P8 := Lib.hid (HP.out.below B8.out)
      refine (NDS.out _ _ P8.out).mono ?_; rintro e w3 ⟨a3, c3, zs, rfl, hz, hzn, hzf, hza, b3⟩
      have HZ3 := Lib.hid hz; have HZN := Lib.hid hzn
      have OFA : Hid (∀ x, a3 = some x → ¬ S' x.block) := fun x hx hs => by
        have h1 := (hza x hx).1
        have h2 := P8.out.lt _ hs
        omega
      have OFZ : Hid (∀ z ∈ zs, ∀ x, z.a = some x → ¬ S' x.block) := fun z hz x hx hs => by
        have h1 := frs_at (hzf z hz) x hx
        have h2 := P8.out.lt _ hs
        omega
      have P3 := Lib.hid (P8.out.below b3); have G3 := Lib.hid (G8.out.below b3 G8.out.lt); have B3 := Lib.hid (belT BW.out b3)
      clear hz hzn hzf hza b3
      go_wp2_with (first | (refine wpList_load_part rfl 27 5 EO.out _ rfl wo.heap.size 0 rfl (enV k p m t s) rfl (fun j u hj => by rw [Nat.zero_add, G3.out.cell]; match j, hj with | 0, hj => exact hj | 1, hj => exact hj | 2, hj => exact hj | 3, hj => exact hj | 4, hj => exact hj) ?_))
      refine (PCK.out _ P3.out B3.out).mono ?_; rintro e w4 ⟨rfl, b4⟩
      have P4 := Lib.hid (P3.out.below b4); have G4 := Lib.hid (G3.out.below b4 G3.out.lt); have B4 := Lib.hid (belT B3.out b4); have HZ4 := Lib.hid (HZ3.out.below b4)
      clear b4
      go_wp2_with fail
      go_loopw [35] (fun i wi => ∃ q : Nat, i = .int .i64 q ∧ q ≤ n ∧ Below w4.heap.size w4 wi) (fun i _ => n - (intOf i).toNat)
      case atStart => exact ⟨0, rfl, Nat.zero_le _, Below.refl _ _⟩
      case round =>
        obtain ⟨q, rfl, hq, hBq⟩ := hrel
        have BQ := Lib.hid hBq
        clear hBq
        have P5 := Lib.hid (P4.out.below BQ.out); have B5 := Lib.hid (belT B4.out BQ.out)
        by_cases hqn : q < n
        · obtain ⟨bq, ofq, v, hbe, hbl, hv, hf, hat⟩ := HA.out.get q hqn
          have VF := Lib.hid hf; have ATV0 := at_row (hat.below B5.out hbl) hv
          injection hbe with hbe; injection hbe with e1 e2
          subst e1; subst e2
          obtain ⟨⟨⟨k2, p2, m2, t2, s2⟩, d2⟩, x2, xc2⟩ := v
          obtain ⟨L2, hL2⟩ := named d2.length
          have ATV : Hid (∀ i u, (mbC k2 p2 m2 t2 s2 x2 L2 xc2)[i]? = some u → wr.cell? ⟨bb, off + q * 6 + i, none⟩ = some u) := by show ∀ _ _, _; rw [hL2.out]; exact ATV0
          have q1 : (q : Int) < n := by omega
          clear hbl hv hf hat ATV0 hL2
          go_wp2_with (first | (refine wpList_load_part rfl 30 6 MT.out _ rfl bb (off + q * 6) rfl (mbC k2 p2 m2 t2 s2 x2 L2 xc2) rfl ATV.out ?_) | (refine wpList_alloc_obj rfl 30 rfl (mbC 0 emp 0 emp 0 none 0 0) MZ.out ?_; intro w17 g17 b17; have G17 := Lib.hid g17; have B17 := Lib.hid b17; clear g17 b17) | (refine wpList_store_obj rfl 30 _ _ rfl wr.heap.size rfl (mbC k2 p2 m2 t2 s2 x2 L2 xc2) (mbC 0 emp 0 emp 0 none 0 0) rfl 30 G17.out MT.out.2 rfl (mb_one _ _ _ _ _ _ _ _) ?_; intro w18 g18 t18; have G18 := Lib.hid g18; have B18 := Lib.hid (B17.out.trans (t18.below (Nat.le_refl _))); clear g18 t18) | (refine wpList_load_part rfl 27 5 EO.out _ rfl wr.heap.size 0 rfl (enV k2 p2 m2 t2 s2) rfl (fun j u hj => by rw [Nat.zero_add, G18.out.cell]; match j, hj with | 0, hj => exact hj | 1, hj => exact hj | 2, hj => exact hj | 3, hj => exact hj | 4, hj => exact hj) ?_))
          refine (PCA.out w18 k2 p2 m2 t2 s2 (P5.out.below B18.out) (belT B5.out B18.out) VF.out.p VF.out.t).mono ?_; rintro e w19 ⟨X2, rfl, b19⟩
          have B19 := Lib.hid (belT BQ.out (belT B18.out b19))
          clear b19
          go_wp2_with fail
          go_round
          case rel => exact ⟨q + 1, by go_num, by omega, B19.out⟩
          case measure => simp [intOf]; omega
        · obtain rfl : q = n := by omega
          have G5 := Lib.hid (G4.out.below BQ.out G4.out.lt); have HZ5 := Lib.hid (HZ4.out.below BQ.out)
          clear BQ hq hqn
          go_wp2_with (first | (refine wpList_load_part rfl 27 5 EO.out _ rfl wo.heap.size 0 rfl (enV k p m t s) rfl (fun j u hj => by rw [Nat.zero_add, G5.out.cell]; match j, hj with | 0, hj => exact hj | 1, hj => exact hj | 2, hj => exact hj | 3, hj => exact hj | 4, hj => exact hj) ?_))
          refine (PCK.out _ P5.out B5.out).mono ?_; rintro e w6 ⟨rfl, b6⟩
          have P6 := Lib.hid (P5.out.below b6); have G6 := Lib.hid (G5.out.below b6 G5.out.lt); have B6 := Lib.hid (belT B5.out b6); have HZ6 := Lib.hid (HZ5.out.below b6)
          clear b6
          have nxc : (XC != XC) = false := by simp
          go_wp2_with fail
          refine (NDS.out _ _ P6.out).mono ?_; rintro e w7 ⟨a7, c7, zs7, rfl, h7, hn7, _, _, b7⟩
          have HZ7 := Lib.hid h7; have HN7 := Lib.hid hn7; have P7 := Lib.hid (P6.out.below b7); have B7' := Lib.hid (belT B6.out b7); have HB7 := Lib.hid (HZ6.out.below b7); have G7' := Lib.hid (G6.out.below b7 G6.out.lt)
          clear h7 hn7 b7
          go_wp2_with fail
          refine (rsame_any a7 N c7 zs7 a3 N c3 zs w7 HZ7.out HB7.out).mono ?_; rintro e w8 ⟨Bs, rfl, hs, b8⟩
          obtain rfl : Bs = true := hs.mpr (by rw [HN7.out, HZN.out])
          have P8' := Lib.hid (P7.out.below b8); have B8' := Lib.hid (belT B7'.out b8); have HB8 := Lib.hid (HB7.out.below b8); have G8' := Lib.hid (G7'.out.below b8 G7'.out.lt)
          clear hs b8
          go_wp2_with (first | (refine wpList_load_obj rfl 30 6 MT.out _ rfl wo.heap.size rfl 30 (mbC k p m t s x Ly xc) G8'.out rfl ?_))
          have PAD : Hid (Calls Tryd.prog 9 #[.pointer (some ⟨g, 0, none⟩), .agg (mbC k p m t s x Ly xc).toArray] w8 (AddQ w8 S' g A ⟨⟨k, p, m, t, s⟩, d⟩)) := by
            have := pbadd_any P8'.out (HV.out.go B8'.out) ⟨⟨⟨k, p, m, t, s⟩, d⟩, x, xc⟩ (HF.out.below B8'.out) (Reb.MbF.off HF.out HS.out) (by have := A40.out; omega)
            dsimp only [mbV] at this
            rw [HLY.out] at this
            exact this
          obtain ⟨X, hX⟩ := named (adR A ⟨⟨k, p, m, t, s⟩, d⟩)
          refine PAD.out.mono ?_; intro e w9 hq
          obtain ⟨rfl, o9, b9, S9, s9, q9, p9⟩ := hq.go hX.out.symm HS.out B8'.out
          have P9 := Lib.hid p9; have S9' := Lib.hid s9; have B9 := Lib.hid b9
          have HB9 := Lib.hid (Go.Proofs.YtinmkgpmoclcoaaDoor.ArgNds.only HB8.out o9 OFA.out OFZ.out)
          have G9 := Lib.hid (G8'.out.only o9 fun hs => absurd (HP.out.lt _ hs) (Nat.lt_irrefl _))
          have c4 := G9.out.get 4 rfl; have c5 := G9.out.get 5 rfl
          clear hq p9 s9 q9 b9 o9
          by_cases xc0 : XC = 0
          · subst xc0
            by_cases hs : (Ly : Int) = s
            · obtain rfl : X = 0 := by rw [hX.out]; exact adR_ok hXC.out.symm (by show (d.length : Int) = s; rw [HLY.out]; exact hs)
              subst hs
              have ns : ((Ly : Int) == (Ly : Int)) = true := by simp
              have PA : Hid (PBd w9 S9 g (A ++ [⟨⟨k, p, m, t, (Ly : Int)⟩, d⟩])) := by have := P9.out; rw [if_pos rfl] at this; exact this
              have NDSB : Hid (Calls Tryd.prog 11 #[.pointer (some ⟨g, 0, none⟩)] w9 (NdsP w9 (A ++ [⟨⟨k, p, m, t, (Ly : Int)⟩, d⟩]) (N + 1))) := by
                have := pbnds_any PA.out (by rw [List.length_append]; exact A40.out)
                rw [List.length_append, List.length_singleton, HNN.out] at this
                exact this
              have nN : ¬ ((j : Int) + 1 < (N : Int) + 1) := by have := AL.out; have := HNN.out; omega
              clear hX hXC P9
              go_wp2_with fail
              refine NDSB.out.mono ?_; rintro e w12 ⟨a12, c12, zs12, rfl, h12, _, _, _, b12⟩
              have P12 := Lib.hid (PA.out.below b12); have B12 := Lib.hid (belT B9.out b12)
              clear h12 b12
              go_wp2_with fail
              go_round
              case rel => exact ⟨j + 1, S9, _, by go_num, by have := JN.out; omega, by rw [List.length_append, List.length_singleton]; have := AL.out; omega, S9'.out, P12.out, B12.out⟩
              case measure => simp [intOf]; have := JN.out; omega
            · obtain rfl : X = 2 := by rw [hX.out]; exact adR_sz hXC.out.symm (by show ¬ (d.length : Int) = s; rw [HLY.out]; exact hs)
              have ns : ((Ly : Int) == s) = false := by simpa using hs
              have P9' : Hid (PBd w9 S9 g A) := by have := P9.out; rw [if_neg (by decide)] at this; exact this
              have NDSA := Lib.hid NDS.out
              have P9 := Lib.hid P9'.out
              have nN : ¬ ((j : Int) + 1 < (N : Int)) := by have := AL.out; have := HNN.out; omega
              clear hX hXC hs P9'
              go_wp2_with fail
              refine (NDSA.out _ _ P9.out).mono ?_; rintro e w10 ⟨a10, c10, zs10, rfl, h10, hn10, _, _, b10⟩
              have HZ10 := Lib.hid h10; have HN10 := Lib.hid hn10; have P10 := Lib.hid (P9.out.below b10); have B10 := Lib.hid (belT B9.out b10); have HB10 := Lib.hid (HB9.out.below b10)
              clear h10 hn10 b10
              go_wp2_with fail
              refine (rsame_any a10 N c10 zs10 a3 N c3 zs w10 HZ10.out HB10.out).mono ?_; rintro e w11 ⟨Bs, rfl, hs, b11⟩
              obtain rfl : Bs = true := hs.mpr (by rw [HN10.out, HZN.out])
              have P11 := Lib.hid (P10.out.below b11); have B11 := Lib.hid (belT B10.out b11)
              clear hs b11
              go_wp2_with fail
              refine (NDSA.out _ _ P11.out).mono ?_; rintro e w12 ⟨a12, c12, zs12, rfl, h12, _, _, _, b12⟩
              have P12 := Lib.hid (P11.out.below b12); have B12 := Lib.hid (belT B11.out b12)
              clear h12 b12
              go_wp2_with fail
              go_round
              case rel => exact ⟨j + 1, S9, A, by go_num, by have := JN.out; omega, by have := AL.out; omega, S9'.out, P12.out, B12.out⟩
              case measure => simp [intOf]; have := JN.out; omega
          · obtain rfl : X = XC := by rw [hX.out, adR_ck (by rw [← hXC.out]; exact xc0), hXC.out]
            have n1 : (X != 0) = true := by simpa using xc0
            have n2 : (X == 0) = false := by simpa using xc0
            have P9' : Hid (PBd w9 S9 g A) := by have := P9.out; rw [if_neg xc0] at this; exact this
            have NDSA := Lib.hid NDS.out
            have P9 := Lib.hid P9'.out
            have nN : ¬ ((j : Int) + 1 < (N : Int)) := by have := AL.out; have := HNN.out; omega
            clear hX hXC xc0 P9'
            go_wp2_with fail
            refine (NDSA.out _ _ P9.out).mono ?_; rintro e w10 ⟨a10, c10, zs10, rfl, h10, hn10, _, _, b10⟩
            have HZ10 := Lib.hid h10; have HN10 := Lib.hid hn10; have P10 := Lib.hid (P9.out.below b10); have B10 := Lib.hid (belT B9.out b10); have HB10 := Lib.hid (HB9.out.below b10)
            clear h10 hn10 b10
            go_wp2_with fail
            refine (rsame_any a10 N c10 zs10 a3 N c3 zs w10 HZ10.out HB10.out).mono ?_; rintro e w11 ⟨Bs, rfl, hs, b11⟩
            obtain rfl : Bs = true := hs.mpr (by rw [HN10.out, HZN.out])
            have P11 := Lib.hid (P10.out.below b11); have B11 := Lib.hid (belT B10.out b11)
            clear hs b11
            go_wp2_with fail
            refine (NDSA.out _ _ P11.out).mono ?_; rintro e w12 ⟨a12, c12, zs12, rfl, h12, _, _, _, b12⟩
            have P12 := Lib.hid (P11.out.below b12); have B12 := Lib.hid (belT B11.out b12)
            clear h12 b12
            go_wp2_with fail
            go_round
            case rel => exact ⟨j + 1, S9, A, by go_num, by have := JN.out; omega, by have := AL.out; omega, S9'.out, P12.out, B12.out⟩
            case measure => simp [intOf]; have := JN.out; omega
    · obtain rfl : j = n := by omega
      go_wp2_with fail
      refine (Reb.alive_any wo (HV.out.go HB.out)).mono ?_; rintro e w7 ⟨rfl, b7⟩
      have B7 := Lib.hid (belT HB.out b7)
      go_wp2
      go_ret
      exact ⟨rfl, B7.out⟩
end Go.Proofs.YtinmkgpmoclcoaaDoor
