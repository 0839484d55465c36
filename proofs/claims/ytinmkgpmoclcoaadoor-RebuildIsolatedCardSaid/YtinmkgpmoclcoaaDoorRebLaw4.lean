/-
  The statement RebuildIsolated: a walk. (gen_RebLaw4.py writes it.)
-/
import Derived.Test.YtinmkgpmoclcoaaDoorRebUse
import Derived.Test.YtinmkgpmoclcoaaDoorRebIso
import Derived.Test.YtinmkgpmoclcoaaDoorFltRMem
import Derived.Test.YtinmkgpmoclcoaaDoorPz14
namespace Go.Proofs.YtinmkgpmoclcoaaDoor
open Go.RowKit Go.Proofs.YtinmkgpmoclcoaaDoor.Fit Pnm Tre Flt Reb

set_option maxRecDepth 100000 in
set_option maxHeartbeats 16000000 in
theorem walk_RebuildIsolated (a : Option Addr) (n cap : Nat) (ys : List NdS) (w : World) (V : Pxr.Vars w) (ha : ArgNds w a n cap ys) (hlen : n * 80 ≤ 140737488355328) :
    Calls Tryd.prog 6 #[.slice a n cap] w fun e w' => e = .returned (.bool true) ∧ Below w.heap.size w w' := by
  have HV := Lib.hid (FVars.mk V)
  have HA := Lib.hid ha
  have MZ := Lib.hid Flt.zMb
  have MT := Lib.hid Flt.mbT
  have EO := Lib.hid enT
  have S5 : Hid ((Tryd.prog.info? 5).map (·.size) = some 1) := by show _ = _; kernel_rfl
  have U8 : Hid (ElemT Tryd.prog 5 .u8 1) := elemT (by kernel_rfl)
  have HLN : Hid (n ≤ 1759218604441) := by show _ ≤ _; omega
  clear V ha hlen
  go_enter Tryd.func6, Tryd.ntmps6
  go_wp2_with fail
  refine (rmem_any a n cap ys w HA.out HLN.out).mono ?_; rintro e w1 ⟨b, k, c, us, X1, X2, rfl, h1, h2, hm, hu, b1⟩
  have B1 := Lib.hid b1; have HM := Lib.hid hm; have HU := Lib.hid hu; have E2 := Lib.hid h2
  clear b1 hm hu h1 h2
  go_wp2_with fail
  refine (new_any w1).mono ?_; rintro e w2 ⟨S, g, rfl, p2, s2, b2⟩
  have P2 := Lib.hid p2; have S2 := Lib.hid s2; have B2 := Lib.hid b2; have HM2 := Lib.hid (HM.out.below b2)
  have BB2 := Lib.hid (belT B1.out b2)
  clear p2 s2 b2
  go_wp2_with fail
  refine (Tre.large_any a n cap ys w2 (HA.out.below BB2.out)).mono ?_; rintro e w3 ⟨R, rfl, hR, b3⟩
  have B3 := Lib.hid (belT B2.out b3); have P3 := Lib.hid (P2.out.below b3); have BB3 := Lib.hid (belT BB2.out b3)
  clear b3 P2
  rcases hR with rfl | ⟨rfl, h40, _⟩
  · go_wp2_with fail
    refine (Reb.alive_any w3 (HV.out.go BB3.out)).mono ?_; rintro e w4 ⟨rfl, b4⟩
    have B4 := Lib.hid (belT BB3.out b4)
    go_wp2
    go_ret
    exact ⟨rfl, B4.out⟩
  have H1 := Lib.hid h40
  clear h40
  by_cases x0 : ¬ X2 = 0
  · have nx : (X2 != 0) = true := by simpa using x0
    go_wp2_with fail
    refine (Reb.alive_any w3 (HV.out.go BB3.out)).mono ?_; rintro e w4 ⟨rfl, b4⟩
    have B4 := Lib.hid (belT BB3.out b4)
    go_wp2
    go_ret
    exact ⟨rfl, B4.out⟩
  obtain rfl : X2 = 0 := Decidable.not_not.mp x0
  clear x0
  obtain ⟨hC, hR⟩ := mbR_good E2.out.symm
  have HC := Lib.hid hC
  have HU2 : Hid (mms us = Flt.mbs (canon (nds ys))) := HU.out.trans hR
  have KN : Hid (k = n) := by
    have h1 := congrArg List.length HU2.out
    rw [mms_len, Flt.mbs_len, canon_len, nds_len, HM.out.n, HA.out.n] at h1
    exact h1
  clear hC hR HU E2
  go_wp2_with fail
  go_loopw [35] (fun i wr => ∃ (j : Nat) (S' : Nat → Prop), i = .int .i64 j ∧ j ≤ k ∧ (∀ q, S' q → w1.heap.size ≤ q) ∧ PBd wr S' g ((mms us).take j) ∧ Below w1.heap.size w1 wr) (fun i _ => k - (intOf i).toNat)
  case atStart => exact ⟨0, S, rfl, Nat.zero_le _, S2.out, P3.out, B3.out⟩
  case round =>
    obtain ⟨wo, hwo⟩ : ∃ wo, wo = wr := ⟨wr, rfl⟩
    subst hwo
    obtain ⟨j, S', rfl, hj, hS, hP, hB⟩ := hrel
    have HS := Lib.hid hS; have HP := Lib.hid hP; have HB := Lib.hid hB
    clear hS hP hB
    by_cases hjn : j < k
    · obtain ⟨bb, off, y, hbe, hbl, hy, hf, hat⟩ := HM.out.get j hjn
      subst hbe
      have HY := Lib.hid hy; have HF := Lib.hid hf; have AT0 := at_row (hat.below HB.out hbl) hy
      have ADD := Lib.hid (can_add HC.out HU2.out hy)
      have j1 : (j : Int) < k := by omega
      have JN := Lib.hid hjn
      have k40 : (k : Int) ≤ 40 := by have := H1.out; have := KN.out; omega
      have JL : Hid (((mms us).take j).length ≤ 1000) := by
        show _ ≤ _
        have := H1.out; have := KN.out
        rw [List.length_take]; omega
      clear hbl hy hf hat
      obtain ⟨⟨⟨ek, p, m, t, s⟩, d⟩, x, xc⟩ := y
      obtain ⟨L, hL⟩ := named d.length
      have HL : Hid (d.length = L) := hL.out.symm
      have LB : Hid (L ≤ 140737488355328) := by show _ ≤ _; rw [hL.out]; exact HF.out.l
      have AT : Hid (∀ q u, (mbC ek p m t s x L xc)[q]? = some u → wo.cell? ⟨bb, off + j * 6 + q, none⟩ = some u) := by show ∀ _ _, _; rw [← HL.out]; exact AT0
      have IK : Hid (∀ w', Below w1.heap.size w1 w' → InK .u8 w' x d) := fun w' h => (HF.out.below h).d.inK
      clear AT0 hL hjn hj
      go_wp2_with (first | (refine wpList_load_part rfl 30 6 MT.out _ rfl bb (off + j * 6) rfl (mbC ek p m t s x L xc) rfl AT.out ?_) | (refine wpList_alloc_obj rfl 30 rfl (mbC 0 emp 0 emp 0 none 0 0) MZ.out ?_; intro w5 g5 b5; have G5 := Lib.hid g5; have B5 := Lib.hid b5; clear g5 b5) | (refine wpList_store_obj rfl 30 _ _ rfl wo.heap.size rfl (mbC ek p m t s x L xc) (mbC 0 emp 0 emp 0 none 0 0) rfl 30 G5.out MT.out.2 rfl (mb_one _ _ _ _ _ _ _ _) ?_; intro w6 g6 t6; have G6 := Lib.hid g6; have B6 := Lib.hid (B5.out.trans (t6.below (Nat.le_refl _))); have BW6 := Lib.hid (HB.out.trans (B6.out.mono HB.out.size)); clear g6 t6) | (refine wpList_lit_k rfl 28 5 .u8 rfl Tryd.underlying28 S5.out ?_; intro w7 h7 b7; have O7 := Lib.hid h7; have B7 := Lib.hid (B6.out.trans (b7.mono B6.out.size)); have BW7 := Lib.hid (belT BW6.out b7); have G7 := Lib.hid (G6.out.below b7 G6.out.lt); have c5 := G7.out.get 5 rfl; have Z7 := Lib.hid b7.size; clear h7 b7) | (at_builtin; refine wpList_append_k rfl _ _ 28 rfl w6.heap.size 5 .u8 1 Tryd.underlying28 U8.out (.slice (some ⟨w6.heap.size, 0, none⟩) 0 0) 0 [] rfl O7.out x L xc d rfl (IK.out _ BW7.out) HL.out (by have := LB.out; unfold maxLen; omega) (by have := LB.out; omega) Z7.out ?_; intro v8 w8 h8 b8; rw [Nat.zero_add, List.nil_append] at h8; obtain ⟨va, vc, rfl, O8⟩ : ∃ va vc, v8 = .slice va L vc ∧ Hid (w8.ownsRow w6.heap.size 5 1 v8 L (d.map (.int .u8))) := (by obtain ⟨va, vc, hv, _⟩ := own_any h8; exact ⟨va, vc, hv, h8⟩); have B8 := Lib.hid b8; clear h8 b8) | (refine wpList_load_part rfl 27 5 EO.out _ rfl wo.heap.size 0 rfl (enV ek p m t s) rfl (fun j u hj => by rw [Nat.zero_add, (G7.out.below B8.out G6.out.lt).cell]; match j, hj with | 0, hj => exact hj | 1, hj => exact hj | 2, hj => exact hj | 3, hj => exact hj | 4, hj => exact hj) ?_))
      have BO8 : Hid (Below wo.heap.size wo w8) := B7.out.trans (B8.out.mono B6.out.size)
      have BW8 := Lib.hid (HB.out.trans (BO8.out.mono HB.out.size))
      have HP8 := Lib.hid (HP.out.below BO8.out)
      have PL := Lib.hid HP.out.lt
      have OFF : Hid (∀ q, (Value.slice va L vc).ownBlock = some q → ¬ S' q) := fun q hq hs => by
        have h1 := (own_under O8.out q hq).1
        have h2 := PL.out q hs
        have h3 := B6.out.size
        omega
      have YF : Hid (MbF w8 ⟨⟨⟨ek, p, m, t, s⟩, d⟩, va, vc⟩) := by
        refine ⟨HF.out.k, HF.out.p, HF.out.m, HF.out.t, HF.out.s, ?_, HF.out.l⟩
        show ArgInts .u8 w8 va d.length vc d
        rw [HL.out]
        exact own_arg O8.out HF.out.d.2.2.2.1
      have PAD : Hid (Calls Tryd.prog 9 #[.pointer (some ⟨g, 0, none⟩), .agg (mbC ek p m t s va L vc).toArray] w8 (AddQ w8 S' g ((mms us).take j) ⟨⟨ek, p, m, t, s⟩, d⟩)) := by
        have := pbadd_any HP8.out (HV.out.go (belT B1.out BW8.out)) ⟨⟨⟨ek, p, m, t, s⟩, d⟩, va, vc⟩ YF.out (.inr fun q hq => OFF.out _ (by subst hq; simp [Value.ownBlock])) JL.out
        dsimp only [mbV] at this
        rw [HL.out] at this
        exact this
      refine PAD.out.mono ?_; intro e w9 hq
      obtain ⟨rfl, o9, b9, S9, s9, q9, p9⟩ := hq.go ADD.out HS.out BW8.out
      rw [if_pos rfl] at p9
      have p9' : PBd w9 S9 g ((mms us).take (j + 1)) := by rw [← take_next HY.out]; exact p9
      have P9 := Lib.hid p9'; have S9' := Lib.hid s9; have B9 := Lib.hid b9
      have OW9 : Hid (OwnW w1.heap.size S9 va L w9) := by
        refine ownW_of (own_onlyA (own_base O8.out (Nat.le_trans HB.out.size B6.out.size)) o9 OFF.out) fun q hq hs => ?_
        rcases q9 q hs with h | h
        · exact OFF.out q hq h
        · exact absurd (own_under O8.out q hq).2 (Nat.not_lt_of_le h)
      have lc : (L : Int) ≤ vc := by
        obtain ⟨b', c', hv, _, hc, _⟩ := own_any O8.out
        injection hv with _ _ e3
        omega
      have lb : (L : Int) ≤ 140737488355328 := by have := LB.out; omega
      clear hq p9 p9' s9 q9 b9 o9 c5
      go_wp2_with fail
      go_loopw [52] (fun i wq => ∃ q : Nat, i = .int .i64 q ∧ q ≤ L ∧ Below w1.heap.size w1 wq ∧ PBd wq S9 g ((mms us).take (j + 1)) ∧ OwnW w1.heap.size S9 va L wq) (fun i _ => L - (intOf i).toNat)
      case atStart => exact ⟨0, rfl, Nat.zero_le _, B9.out, P9.out, OW9.out⟩
      case round =>
        obtain ⟨q, rfl, hq, hBq, hPq, hOq⟩ := hrel
        have BQ := Lib.hid hBq; have PQ := Lib.hid hPq; have OQ := Lib.hid hOq
        clear hBq hPq hOq
        by_cases hql : q < L
        · obtain ⟨b', e1, e2, e3, e4, e5⟩ := OQ.out (by omega)
          obtain ⟨x', cx⟩ := e5 q hql
          have E2' := Lib.hid e2; have E3' := Lib.hid e3
          have fz := e4 q
          have q1 : (q : Int) < L := by omega
          subst e1
          clear e2 e3 e4 e5
          go_wp2_with fail
          exact ⟨⟨q + 1, by go_num, by omega, BQ.out.setCell E2'.out _, PQ.out.only (set_only (T := fun z => z = b') (Only.refl _ _) rfl _) (fun z hz e => E3'.out (e ▸ hz)), OQ.out.set _⟩, by simp [intOf]; omega⟩
        · obtain rfl : q = L := by omega
          go_wp2_with fail
          exact ⟨⟨j + 1, S9, by go_num, by have := JN.out; omega, S9'.out, PQ.out, BQ.out⟩, by simp [intOf]; have := JN.out; omega⟩
    · obtain rfl : j = k := by omega
      have P5 : Hid (PBd wo S' g (mms us)) := by
        have := HP.out
        rw [List.take_of_length_le (by rw [mms_len, HM.out.n]; exact Nat.le_refl _)] at this
        exact this
      have BW := Lib.hid (belT B1.out HB.out)
      have UL : Hid ((mms us).length = n) := by show _ = _; rw [mms_len, HM.out.n, KN.out]
      have NDS : Hid (∀ w', PBd w' S' g (mms us) → Calls Tryd.prog 11 #[.pointer (some ⟨g, 0, none⟩)] w' (NdsP w' (mms us) n)) := fun w' h => by
        have := pbnds_any h (by rw [UL.out]; exact H1.out)
        rw [UL.out] at this
        exact this
      have n40 : (n : Int) ≤ 40 := by have := H1.out; omega
      clear HP hj hjn
      go_wp2_with fail
      refine (NDS.out _ P5.out).mono ?_; rintro e w7 ⟨a7, c7, zs, rfl, hz, ez, hfr, hown, b7⟩
      have ncc : (n : Int) ≤ c7 := by have := hz.c; omega
      have ZN : Hid (zs.length = n) := hz.n
      have WG : Hid (∀ q, S' q → q < wo.heap.size) := P5.out.lt
      have P7 := Lib.hid (P5.out.below b7)
      obtain ⟨gr, hg⟩ : ∃ gr, 0 < n → a7 = some ⟨gr, 0, none⟩ ∧ IsoC wo.heap.size gr zs w7 := by
        rcases Nat.eq_zero_or_pos n with h0 | h0
        · exact ⟨0, fun h => by omega⟩
        · obtain ⟨b, off, y, rfl, _, _, _, _⟩ := hz.get 0 h0
          obtain ⟨h1, h2, h3⟩ := hown _ rfl
          have h2 : off = 0 := h2
          subst h2
          exact ⟨b, fun _ => ⟨rfl, isoC_of hz hfr h1 h3 h0⟩⟩
      have HG := Lib.hid hg
      have DL : Hid (∀ y ∈ zs, y.n.d.length ≤ 140737488355328 ∧ y.n.d.length ≤ y.cap) := fun y hy => ⟨(hz.s y hy).l, (hz.s y hy).d.2.1⟩
      have B7 : Hid (Only (fun q => wo.heap.size ≤ q) wo w7) := Only.of_below b7 (Nat.le_refl _)
      clear hz ez hfr hown b7 hg
      go_wp2_with fail
      go_loopw [67] (fun i wr => ∃ q : Nat, i = .int .i64 q ∧ q ≤ n ∧ Only (fun q => wo.heap.size ≤ q) wo wr ∧ PBd wr S' g (mms us) ∧ (0 < n → IsoC wo.heap.size gr zs wr)) (fun i _ => n - (intOf i).toNat)
      case atStart => exact ⟨0, rfl, Nat.zero_le _, B7.out, P7.out, fun h => (HG.out h).2⟩
      case round =>
        obtain ⟨q, rfl, hq, hB, hP, hI⟩ := hrel
        by_cases hqn : q < n
        · obtain ⟨rfl, _⟩ := HG.out (by omega)
          have IS := Lib.hid (hI (by omega)); have HBq := Lib.hid hB; have HPq := Lib.hid hP
          obtain ⟨y, hy⟩ : ∃ y, zs[q]? = some y := ⟨_, List.getElem?_eq_getElem (by rw [ZN.out]; exact hqn)⟩
          have HY := Lib.hid hy
          obtain ⟨d1, d2⟩ := DL.out y (List.mem_of_getElem? hy)
          obtain ⟨L, hL⟩ := named y.n.d.length
          obtain ⟨c4, _, _⟩ := hI (by omega) |>.at_ q y hy
          rw [← hL.out] at d1 d2 c4
          have l1 : (L : Int) ≤ 140737488355328 := by omega
          have l2 : (L : Int) ≤ y.cap := by omega
          have q1 : (q : Int) < n := by omega
          have QN := Lib.hid hqn
          clear hI hB hP hy hqn hq d1 d2
          go_wp2_with fail
          go_loopw [76] (fun i wq => ∃ k : Nat, i = .int .i64 k ∧ k ≤ L ∧ Only (fun q => wo.heap.size ≤ q) wo wq ∧ PBd wq S' g (mms us) ∧ IsoC wo.heap.size gr zs wq) (fun i _ => L - (intOf i).toNat)
          case atStart => exact ⟨0, rfl, Nat.zero_le _, HBq.out, HPq.out, IS.out⟩
          case round =>
            obtain ⟨k', rfl, hk, hq, hp, hi⟩ := hrel
            clear c4
            have QB := Lib.hid hq; have QP := Lib.hid hp; have QI := Lib.hid hi
            obtain ⟨c4, ⟨p, c1⟩, c5⟩ := hi.at_ q y HY.out
            rw [← hL.out] at c4 c5
            have F1 := hi.fz (q * 6 + 5)
            clear hq hp hi
            by_cases hkl : k' < L
            · obtain ⟨b, e1, e2, e3, e4, e5⟩ := c5 (by omega)
              obtain ⟨x, cx⟩ := e5 k' hkl
              have E3 := Lib.hid e3; have E2 := Lib.hid e2
              have fz := e4 k'
              rw [e1] at c4
              have k1 : (k' : Int) < L := by omega
              clear c1 c5 e1 e2 e3 e4 e5
              go_wp2_with fail
              exact ⟨⟨k' + 1, by go_num, by omega, set_only QB.out E2.out _, QP.out.only (set_only (T := fun z => wo.heap.size ≤ z) (Only.refl _ _) E2.out _) (fun z hz e => absurd (WG.out z hz) (Nat.not_lt_of_le e)), QI.out.data E3.out _⟩, by simp [intOf]; omega⟩
            · obtain rfl : k' = L := by omega
              clear c5
              go_wp2_with fail
              exact ⟨⟨q + 1, by go_num, by have := QN.out; omega, set_only QB.out QI.out.big _, QP.out.only (set_only (T := fun z => wo.heap.size ≤ z) (Only.refl _ _) QI.out.big _) (fun z hz e => absurd (WG.out z hz) (Nat.not_lt_of_le e)), fun _ => QI.out.cls HY.out _⟩, by simp [intOf]; have := QN.out; omega⟩
        · obtain rfl : q = n := by omega
          have B8 := Lib.hid (BW.out.trans ((hB.below (fun _ h => h) (Nat.le_refl _)).mono BW.out.size)); have P8 := Lib.hid hP
          clear hI hB hP hq hqn
          go_wp2_with fail
          refine (Reb.alive_any wr (HV.out.go B8.out)).mono ?_; rintro e w9 ⟨rfl, b9⟩
          have B9 := Lib.hid (belT B8.out b9); have P9 := Lib.hid (P8.out.below b9)
          clear b9
          go_wp2_with fail
          refine (NDS.out _ P9.out).mono ?_; rintro e w10 ⟨a10, c10, vs, rfl, hv, hvn, _, _, b10⟩
          have HV10 := Lib.hid hv; have B10 := Lib.hid (belT B9.out b10)
          have HVN : Hid (nds vs = canon (nds ys)) := hvn.trans (by rw [HU2.out]; exact can_back HC.out)
          clear hv hvn b10
          go_wp2_with fail
          refine (rcanon_any a q cap ys w10 (HA.out.below B10.out) HLN.out).mono ?_; rintro e w11 ⟨a11, c11, rs, rfl, hr, hrn, _, _, b11⟩
          have HR11 := Lib.hid hr; have HRN := Lib.hid hrn; have HV11 := Lib.hid (HV10.out.below b11); have B11 := Lib.hid (belT B10.out b11)
          clear hr hrn b11
          go_wp2_with fail
          refine (rsame_any a10 q c10 vs a11 q c11 rs w11 HV11.out HR11.out).mono ?_; rintro e w12 ⟨Bs, rfl, hs, b12⟩
          obtain rfl : Bs = true := hs.mpr (by rw [HVN.out, HRN.out])
          have B12 := Lib.hid (belT B11.out b12)
          clear hs b12
          go_wp2
          go_ret
          exact ⟨rfl, B12.out⟩
end Go.Proofs.YtinmkgpmoclcoaaDoor
