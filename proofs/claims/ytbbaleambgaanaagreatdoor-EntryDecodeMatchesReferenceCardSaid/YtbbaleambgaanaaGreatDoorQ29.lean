/- PxrRParse EtrRRec -/
import Derived.Test.YtbbaleambgaanaaGreatDoorQ28
import Derived.Test.YtbbaleambgaanaaGreatDoorQ5
import Derived.Test.YtbbaleambgaanaaGreatDoorQ24
import Derived.Test.YtbbaleambgaanaaGreatDoorQ8
namespace Go.Proofs.YtbbaleambgaanaaGreatDoor.Pxr
open Go.RowKit
set_option maxHeartbeats 1000000 in
set_option maxRecDepth 100000 in
theorem rparse_nil (a : Option Addr) (cap : Nat) (w : World) : Calls Tryz.prog 85 #[.slice a 0 cap] w (RetRecsF [] 0 0 w) := by
  go_enter Tryz.func85, Tryz.ntmps85
  go_wp2
  go_loop [5, 6] (fun v i => v = .slice none 0 0 ∧ i = .int .i64 (0 : Int)) (fun _ i => 0 - (intOf i).toNat)
  case atStart => exact ⟨rfl, rfl⟩
  case round =>
    obtain ⟨rfl, rfl⟩ := hrel
    go_wp2
    go_ret3
    exact .nil (Below.refl _ _)
set_option maxHeartbeats 8000000 in
set_option maxRecDepth 100000 in
theorem rparse_some (bb off n cap : Nat) (zs : List Int) (w : World) (hn : zs.length = n) (hc : n ≤ cap) (hz : ∀ z ∈ zs, 0 ≤ z ∧ z ≤ 255) (hlt : bb < w.heap.size) (hr : RowAt w bb off zs) (hN : n ≤ 300000) :
    Calls Tryz.prog 85 #[.slice (some ⟨bb, off, none⟩) n cap] w (RetRecsF (parZ zs).1 (parZ zs).2.1 (parZ zs).2.2 w) := by
  obtain ⟨PR, hPR⟩ := named (parZ zs).1
  obtain ⟨PN, hPN⟩ := named (parZ zs).2.1
  obtain ⟨PE, hPE⟩ := named (parZ zs).2.2
  have hP : Hid (parZ zs = (PR, PN, PE)) := by show _ = _; rw [hPR.out, hPN.out, hPE.out]
  rw [← hPR.out, ← hPN.out, ← hPE.out]
  by_cases hb : 262144 < n
  · have e : (PR, PN, PE) = (([] : List Rec), 0, (7 : Int)) := by rw [← hP.out]; unfold parZ; rw [if_pos (by omega)]
    simp only [Prod.mk.injEq] at e
    obtain ⟨rfl, rfl, rfl⟩ := e
    have m1 : (262144 : Int) < n := by omega
    clear hP hPR hPN hPE hr hz hlt
    go_enter Tryz.func85, Tryz.ntmps85
    go_wp2
    go_ret3
    exact .nil (Below.refl _ _)
  · have m1 : ¬ (262144 : Int) < n := by omega
    obtain ⟨i0, hI⟩ := recI
    have HP0 : Hid (pgo (n + 1) [] 0 zs = (PR, PN, PE)) := by show _ = _; rw [← hP.out]; unfold parZ; rw [hn, if_neg hb]
    have HZB := Lib.hid hz; have HNL := Lib.hid hn; have HROW := Lib.hid hr; have HLT := Lib.hid hlt
    have hJ := Lib.hid recJ; have HZ := Lib.hid recZ; have HO := Lib.hid recO
    have HB := Lib.hid hb; have HCAP := Lib.hid hc
    have HUnd := Lib.hid Tryz.underlying57
    clear hP hPR hPN hPE hz hr hn hb hN hlt
    go_enter Tryz.func85, Tryz.ntmps85
    go_wp2_with fail
    go_loopw [5, 6] (fun l o wr => ∃ (out : List Rec) (at_ f : Nat), o = .int .i64 at_ ∧ at_ ≤ n ∧ out.length ≤ at_ ∧ n < at_ + f ∧ pgo f out at_ zs = (PR, PN, PE) ∧ wr.ownsRow w.heap.size 107 2 l out.length (recCells out) ∧ Below w.heap.size w wr)
      (fun _ o _ => n + 1 - (intOf o).toNat)
    case atStart => exact ⟨[], 0, n + 1, rfl, Nat.zero_le _, Nat.le_refl _, by omega, HP0.out, ⟨rfl, .inl ⟨rfl, rfl⟩⟩, Below.refl _ _⟩
    case round =>
      obtain ⟨out, at_, f, rfl, hat, hol, hf, hgo, hown, hbel⟩ := hrel
      obtain ⟨g, rfl⟩ : ∃ g, f = g + 1 := ⟨f - 1, by omega⟩
      have HG := Lib.hid hgo; have HW := Lib.hid hown; have HL := Lib.hid hbel; have HF := Lib.hid hf; have HOL := Lib.hid hol
      obtain ⟨va, vc, hv, hvn, hvc, hvm, hvi, hvb⟩ := RecsIn.of_own hown
      subst hv
      have HVI := Lib.hid hvi; have HVC := Lib.hid hvc; have HVM := Lib.hid hvm; have HVB := Lib.hid hvb
      clear hgo hown hbel hf hol hvi hvn hvc hvm hvb
      by_cases hlt : at_ < n
      · have q1 : (at_ : Int) < n := by omega
        have q2 : (at_ : Int) ≤ n := by omega
        have q3 : ¬ cap = at_ := by have := HCAP.out; omega
        have hzn : ¬ zs.length ≤ at_ := by rw [HNL.out]; omega
        have hdz : ∀ z ∈ zs.drop at_, 0 ≤ z ∧ z ≤ 255 := fun z hz0 => HZB.out z (List.mem_of_mem_drop hz0)
        have hdl : (zs.drop at_).length = n - at_ := by rw [List.length_drop, HNL.out]
        have hrow : RowAt wr bb (off + at_) (zs.drop at_) := by
          have h := HROW.out.below HL.out HLT.out
          refine ⟨fun i hi => ?_, hdz⟩
          rw [hdl] at hi
          rw [Nat.add_assoc, h.1 (at_ + i) (by rw [HNL.out]; omega), getD_drop]
        have hcv := run_str_of (P := Tryz.prog) Tryz.underlying24 Tryz.underlying5 Tryz.underlying9 hrow (n - at_) (cap - at_) hdl
        obtain ⟨sub, hsub⟩ := named (strOfNums (zs.drop at_))
        rw [← hsub.out] at hcv
        have hsubn : numsOf sub = zs.drop at_ := by rw [hsub.out]; exact numsOf_strOfNums hdz
        have hsubs : sub.size ≤ 300000 := by rw [← numsOf_length, hsubn, hdl]; have := HB.out; omega
        have PF := rtake_any sub wr hsubs
        rw [hsubn] at PF
        have XS := tkX_sz hdz (by rw [hdl]; have := HB.out; omega)
        obtain ⟨E, hE⟩ := named (tkE (zs.drop at_))
        obtain ⟨K, hK⟩ := named (tkX (zs.drop at_)).1
        obtain ⟨D, hD⟩ := named (tkX (zs.drop at_)).2
        obtain ⟨tn, htn⟩ := named (tkM (zs.drop at_))
        rw [← hE.out, ← hK.out, ← hD.out, ← htn.out] at PF
        rw [← hK.out, ← hD.out] at XS
        have HPF := Lib.hid PF
        have HXS := Lib.hid XS
        have HZN := Lib.hid hzn
        clear PF XS hsubn hsubs hzn hrow
        by_cases hE0 : E = 0
        · have T0 : TkOk (zs.drop at_) := (tkE_ok _).1 (by rw [← hE.out]; exact hE0)
          have hX : tkX (zs.drop at_) = tkR (zs.drop at_) := by unfold tkX; rw [if_pos (by rw [← hE.out]; exact hE0)]
          have hM : Hid (tn = tkN (zs.drop at_)) := by show _ = _; rw [htn.out]; unfold tkM; rw [if_pos (by rw [← hE.out]; exact hE0)]
          have hKD : Hid ((K, D) = tkR (zs.drop at_)) := by show _ = _; rw [hK.out, hD.out, hX]
          have hte : Hid (tkE (zs.drop at_) = 0) := by show _ = _; rw [← hE.out]; exact hE0
          have hTN : 1 ≤ tn ∧ tn ≤ n - at_ := by rw [hM.out]; exact ⟨T0.pos, by have := T0.len; rw [hdl] at this; exact this⟩
          have HTN := Lib.hid hTN
          have ho6 : Hid (out.length ≤ 1000000) := by show _ ≤ _; have := HOL.out; have := HB.out; omega
          have p1 : (at_ : Int) + tn ≤ 1000000 := by have := HTN.out; have := HB.out; omega
          subst hE0
          obtain ⟨C, hC⟩ := named (chk (K, D))
          have HCK := Lib.hid fun (w' : World) => rcheck_any K D w' (by have := HXS.out; unfold maxLen; omega)
          rw [← hC.out] at HCK
          have HWR : Hid (chkN out (K, D) ≠ 0 → ([] : List Rec) = PR ∧ at_ = PN ∧ chkN out (K, D) = PE) := fun h => by
            have := HG.out
            rw [pgo_wrong HZN.out hte.out (by rw [← hKD.out]; exact h), ← hKD.out] at this
            simpa using this
          have HGO : Hid (chkN out (K, D) = 0 → pgo g (out ++ [(K, D)]) (at_ + tn) zs = (PR, PN, PE)) := fun h => by
            have := HG.out
            rw [pgo_go HZN.out hte.out (by rw [← hKD.out]; exact h), ← hKD.out, ← hM.out] at this
            exact this
          clear T0 hX hTN hdz hdl
          by_cases hC0 : C = 0
          · have ch0 : chk (K, D) = 0 := by rw [← hC.out]; exact hC0
            by_cases hlen : out = []
            · have cN : chkN out (K, D) = 0 := by unfold chkN; rw [if_neg (by rw [ch0]; simp), hlen, prev_none]; rfl
              have HG2 := Lib.hid (HGO.out cN)
              have hd : decide ((0 : Int) < (out.length : Int)) = false := by rw [hlen]; decide
              have hd2 : decide (0 < out.length) = false := by rw [hlen]; decide
              subst hC0
              clear ch0 cN hlen
              go_wp2_with fail
              refine HPF.out.mono ?_; rintro e w1 ⟨rfl, b1⟩
              have A1 := Lib.hid b1
              have I1 := Lib.hid (HVI.out.below b1)
              have W1 := Lib.hid (own_stay HW.out b1 (Nat.le_refl _))
              have B1 := Lib.hid (belT HL.out b1)
              clear b1 hcv
              go_wp2_with (first | (refine wpList_alloc_obj rfl 107 rfl rz HZ.out ?_; intro w2 g2 b2; have R2 := Lib.hid g2; have A2 := Lib.hid b2; have B2 := Lib.hid (belT B1.out b2); clear g2 b2) | (refine wpList_store_obj rfl 107 _ _ rfl w1.heap.size rfl [.string K, .string D] rz rfl 107 R2.out HO.out.2 rfl (rec_one _ _) ?_; intro w3 g3 t3; have R3 := Lib.hid g3; have A3 := Lib.hid (A2.out.trans (t3.below (Nat.le_refl w1.heap.size))); have I3 := Lib.hid (I1.out.below A3.out); have W3 := Lib.hid (own_stay W1.out A3.out (Nat.le_refl _)); have B3 := Lib.hid (belT B1.out A3.out); have c0 := g3.get 0 rfl; have c1 := g3.get 1 rfl; clear g3 t3))
              refine (HCK.out _).mono ?_; rintro e w4 ⟨rfl, b4⟩
              have R4 := Lib.hid (R3.out.below b4 R3.out.lt)
              have I4 := Lib.hid (I3.out.below b4)
              have W4 := Lib.hid (own_stay W3.out b4 (Nat.le_refl _))
              have B4 := Lib.hid (belT B3.out b4)
              have Q4 := Lib.hid b4
              clear b4 c0 c1
              have c0 := R4.out.get 0 rfl
              have c1 := R4.out.get 1 rfl
              go_wp2_with fail
              go_quiet (fail)
              have R5 := Lib.hid (R4.out.below (drewN_below w4.heap.size w4 nq) R4.out.lt)
              have W5 := Lib.hid (own_stay W4.out (drewN_below w4.heap.size w4 nq) (Nat.le_refl _))
              have B5 := Lib.hid (belT B4.out (drewN_below w4.heap.size w4 nq))
              have LR := Lib.hid R5.out.lt
              clear c0 c1
              generalize hw5 : w4.drewN nq = w5 at R5 W5 B5 LR ⊢
              clear hw5
              have c0 := R5.out.get 0 rfl
              have c1 := R5.out.get 1 rfl
              go_wp2_with (first | (refine wpList_lit_rec rfl _ 107 _ rfl HUnd.out _ hJ.out K D rfl ?_; intro w6 g6 b6; have G6 := Lib.hid g6; have W6 := Lib.hid (own_stay W5.out b6 (Nat.le_refl _)); have B6 := Lib.hid (belT B5.out b6); clear g6 b6) | (at_builtin; refine wpList_append_rec rfl _ _ _ rfl w.heap.size _ i0 _ HUnd.out hI _ out.length out rfl W6.out w5.heap.size (K, D) rfl G6.out ho6.out B6.out.size ?_; intro v7 w7 o7 b7 k7; have W7 := Lib.hid o7; have B7 := Lib.hid (B6.out.trans b7); clear o7 b7 k7))
              go_roundw
              case rel => exact ⟨out ++ [(K, D)], at_ + tn, g, by go_num, by have := HTN.out; omega, by rw [List.length_append, List.length_singleton]; have := HTN.out; have := HOL.out; omega, by have := HTN.out; have := HF.out; omega, HG2.out, by rw [List.length_append, List.length_singleton]; exact W7.out, B7.out⟩
              case measure => simp [intOf]; have := HTN.out; omega
            · obtain ⟨m, hmm⟩ : ∃ m, out.length = m + 1 := ⟨out.length - 1, by
                have : out.length ≠ 0 := fun h => hlen (List.length_eq_zero_iff.1 h)
                omega⟩
              obtain ⟨r, hr⟩ : ∃ r, out[m]? = some r := ⟨out[m], List.getElem?_eq_getElem (by omega)⟩
              obtain ⟨gb, go, hva, hgl, k0, _⟩ := HVI.out.get m r hr
              subst hva
              have K0 : Hid (∀ w', Below wr.heap.size wr w' → w'.cell? ⟨gb, go + m * 2, none⟩ = some (.string r.1)) := fun w' hb => (hb.cell (p := ⟨gb, go + m * 2, none⟩) hgl).trans k0
              have hd : decide ((0 : Int) < (out.length : Int)) = true := decide_eq_true (by omega)
              have hd2 : decide (0 < out.length) = true := decide_eq_true (by omega)
              have n0 : out.length ≤ 1000000 := ho6.out
              have n1 : IntKind.i64.wrap ((out.length : Int) - 1) = (m : Int) := by rw [show (out.length : Int) - 1 = m by omega]; exact wrapP (by omega) (by omega)
              have n2 : (m : Int) < out.length := by omega
              have hle := prev_at hmm hr K
              cases hKL : keyLe K r.1 with
              | true =>
                have cN : chkN out (K, D) = 12 := by unfold chkN; rw [if_neg (by rw [ch0]; simp), hle, hKL]; rfl
                have r0 := HWR.out (by rw [cN]; decide)
                rw [cN] at r0
                have R0 := Lib.hid r0
                clear r0
                have hK' : (Op.bytesLess K.toList r.1.toList || K.toList == r.1.toList) = true := hKL
                subst hC0
                clear ch0 cN hlen hr k0 hle hKL hmm n0
                go_wp2_with fail
                refine HPF.out.mono ?_; rintro e w1 ⟨rfl, b1⟩
                have A1 := Lib.hid b1
                have I1 := Lib.hid (HVI.out.below b1)
                have W1 := Lib.hid (own_stay HW.out b1 (Nat.le_refl _))
                have B1 := Lib.hid (belT HL.out b1)
                clear b1 hcv
                go_wp2_with (first | (refine wpList_alloc_obj rfl 107 rfl rz HZ.out ?_; intro w2 g2 b2; have R2 := Lib.hid g2; have A2 := Lib.hid b2; have B2 := Lib.hid (belT B1.out b2); clear g2 b2) | (refine wpList_store_obj rfl 107 _ _ rfl w1.heap.size rfl [.string K, .string D] rz rfl 107 R2.out HO.out.2 rfl (rec_one _ _) ?_; intro w3 g3 t3; have R3 := Lib.hid g3; have A3 := Lib.hid (A2.out.trans (t3.below (Nat.le_refl w1.heap.size))); have I3 := Lib.hid (I1.out.below A3.out); have W3 := Lib.hid (own_stay W1.out A3.out (Nat.le_refl _)); have B3 := Lib.hid (belT B1.out A3.out); have c0 := g3.get 0 rfl; have c1 := g3.get 1 rfl; clear g3 t3))
                refine (HCK.out _).mono ?_; rintro e w4 ⟨rfl, b4⟩
                have R4 := Lib.hid (R3.out.below b4 R3.out.lt)
                have I4 := Lib.hid (I3.out.below b4)
                have W4 := Lib.hid (own_stay W3.out b4 (Nat.le_refl _))
                have B4 := Lib.hid (belT B3.out b4)
                have Q4 := Lib.hid b4
                clear b4 c0 c1
                have c0 := R4.out.get 0 rfl
                have c1 := R4.out.get 1 rfl
                have c2 := K0.out _ (belT (A1.out.trans ((A3.out.mono A1.out.size))) Q4.out)
                go_wp2_with fail
                go_quiet (fail)
                go_wp2
                go_ret3
                obtain ⟨r1, r2, r3⟩ := R0.out
                rw [← r1, ← r2, ← r3]
                exact .nil (B4.out.trans (drewN_below _ _ _))
              | false =>
                have cN : chkN out (K, D) = 0 := by unfold chkN; rw [if_neg (by rw [ch0]; simp), hle, hKL]; rfl
                have HG2 := Lib.hid (HGO.out cN)
                have hK' : (Op.bytesLess K.toList r.1.toList || K.toList == r.1.toList) = false := hKL
                subst hC0
                clear ch0 cN hlen hr k0 hle hKL hmm n0
                go_wp2_with fail
                refine HPF.out.mono ?_; rintro e w1 ⟨rfl, b1⟩
                have A1 := Lib.hid b1
                have I1 := Lib.hid (HVI.out.below b1)
                have W1 := Lib.hid (own_stay HW.out b1 (Nat.le_refl _))
                have B1 := Lib.hid (belT HL.out b1)
                clear b1 hcv
                go_wp2_with (first | (refine wpList_alloc_obj rfl 107 rfl rz HZ.out ?_; intro w2 g2 b2; have R2 := Lib.hid g2; have A2 := Lib.hid b2; have B2 := Lib.hid (belT B1.out b2); clear g2 b2) | (refine wpList_store_obj rfl 107 _ _ rfl w1.heap.size rfl [.string K, .string D] rz rfl 107 R2.out HO.out.2 rfl (rec_one _ _) ?_; intro w3 g3 t3; have R3 := Lib.hid g3; have A3 := Lib.hid (A2.out.trans (t3.below (Nat.le_refl w1.heap.size))); have I3 := Lib.hid (I1.out.below A3.out); have W3 := Lib.hid (own_stay W1.out A3.out (Nat.le_refl _)); have B3 := Lib.hid (belT B1.out A3.out); have c0 := g3.get 0 rfl; have c1 := g3.get 1 rfl; clear g3 t3))
                refine (HCK.out _).mono ?_; rintro e w4 ⟨rfl, b4⟩
                have R4 := Lib.hid (R3.out.below b4 R3.out.lt)
                have I4 := Lib.hid (I3.out.below b4)
                have W4 := Lib.hid (own_stay W3.out b4 (Nat.le_refl _))
                have B4 := Lib.hid (belT B3.out b4)
                have Q4 := Lib.hid b4
                clear b4 c0 c1
                have c0 := R4.out.get 0 rfl
                have c1 := R4.out.get 1 rfl
                have c2 := K0.out _ (belT (A1.out.trans ((A3.out.mono A1.out.size))) Q4.out)
                go_wp2_with fail
                go_quiet (fail)
                clear c2
                have R5 := Lib.hid (R4.out.below (drewN_below w4.heap.size w4 nq) R4.out.lt)
                have W5 := Lib.hid (own_stay W4.out (drewN_below w4.heap.size w4 nq) (Nat.le_refl _))
                have B5 := Lib.hid (belT B4.out (drewN_below w4.heap.size w4 nq))
                have LR := Lib.hid R5.out.lt
                clear c0 c1
                generalize hw5 : w4.drewN nq = w5 at R5 W5 B5 LR ⊢
                clear hw5
                have c0 := R5.out.get 0 rfl
                have c1 := R5.out.get 1 rfl
                go_wp2_with (first | (refine wpList_lit_rec rfl _ 107 _ rfl HUnd.out _ hJ.out K D rfl ?_; intro w6 g6 b6; have G6 := Lib.hid g6; have W6 := Lib.hid (own_stay W5.out b6 (Nat.le_refl _)); have B6 := Lib.hid (belT B5.out b6); clear g6 b6) | (at_builtin; refine wpList_append_rec rfl _ _ _ rfl w.heap.size _ i0 _ HUnd.out hI _ out.length out rfl W6.out w5.heap.size (K, D) rfl G6.out ho6.out B6.out.size ?_; intro v7 w7 o7 b7 k7; have W7 := Lib.hid o7; have B7 := Lib.hid (B6.out.trans b7); clear o7 b7 k7))
                go_roundw
                case rel => exact ⟨out ++ [(K, D)], at_ + tn, g, by go_num, by have := HTN.out; omega, by rw [List.length_append, List.length_singleton]; have := HTN.out; have := HOL.out; omega, by have := HTN.out; have := HF.out; omega, HG2.out, by rw [List.length_append, List.length_singleton]; exact W7.out, B7.out⟩
                case measure => simp [intOf]; have := HTN.out; omega
          · have cN : chkN out (K, D) = C := by unfold chkN; rw [if_pos (by rw [← hC.out]; exact hC0), hC.out]
            have r0 := HWR.out (by rw [cN]; exact hC0)
            rw [cN] at r0
            have R0 := Lib.hid r0
            clear r0
            have z3 : (C == 0) = false := by simpa using hC0
            have z4 : (C != 0) = true := by simpa using hC0
            clear hC0 cN
            go_wp2_with fail
            refine HPF.out.mono ?_; rintro e w1 ⟨rfl, b1⟩
            have A1 := Lib.hid b1
            have I1 := Lib.hid (HVI.out.below b1)
            have W1 := Lib.hid (own_stay HW.out b1 (Nat.le_refl _))
            have B1 := Lib.hid (belT HL.out b1)
            clear b1 hcv
            go_wp2_with (first | (refine wpList_alloc_obj rfl 107 rfl rz HZ.out ?_; intro w2 g2 b2; have R2 := Lib.hid g2; have A2 := Lib.hid b2; have B2 := Lib.hid (belT B1.out b2); clear g2 b2) | (refine wpList_store_obj rfl 107 _ _ rfl w1.heap.size rfl [.string K, .string D] rz rfl 107 R2.out HO.out.2 rfl (rec_one _ _) ?_; intro w3 g3 t3; have R3 := Lib.hid g3; have A3 := Lib.hid (A2.out.trans (t3.below (Nat.le_refl w1.heap.size))); have I3 := Lib.hid (I1.out.below A3.out); have W3 := Lib.hid (own_stay W1.out A3.out (Nat.le_refl _)); have B3 := Lib.hid (belT B1.out A3.out); have c0 := g3.get 0 rfl; have c1 := g3.get 1 rfl; clear g3 t3))
            refine (HCK.out _).mono ?_; rintro e w4 ⟨rfl, b4⟩
            have R4 := Lib.hid (R3.out.below b4 R3.out.lt)
            have I4 := Lib.hid (I3.out.below b4)
            have W4 := Lib.hid (own_stay W3.out b4 (Nat.le_refl _))
            have B4 := Lib.hid (belT B3.out b4)
            have Q4 := Lib.hid b4
            clear b4 c0 c1
            have c0 := R4.out.get 0 rfl
            have c1 := R4.out.get 1 rfl
            go_wp2_with fail
            go_quiet (fail)
            go_wp2
            go_ret3
            obtain ⟨r1, r2, r3⟩ := R0.out
            rw [← r1, ← r2, ← r3]
            exact .nil (B4.out.trans (drewN_below _ _ _))
        · have z3 : (E == 0) = false := by simpa using hE0
          have z4 : (E != 0) = true := by simpa using hE0
          have R0 : Hid (([] : List Rec) = PR ∧ at_ = PN ∧ E = PE) := by
            show _ ∧ _ ∧ _
            have := HG.out
            rw [pgo_bad HZN.out (by rw [← hE.out]; exact hE0), ← hE.out] at this
            simpa using this
          clear hE0 hdl hdz
          go_wp2_with fail
          refine HPF.out.mono ?_; rintro e w1 ⟨rfl, b1⟩
          have A1 := Lib.hid b1
          have I1 := Lib.hid (HVI.out.below b1)
          have W1 := Lib.hid (own_stay HW.out b1 (Nat.le_refl _))
          have B1 := Lib.hid (belT HL.out b1)
          clear b1 hcv
          go_wp2_with (first | (refine wpList_alloc_obj rfl 107 rfl rz HZ.out ?_; intro w2 g2 b2; have R2 := Lib.hid g2; have A2 := Lib.hid b2; have B2 := Lib.hid (belT B1.out b2); clear g2 b2) | (refine wpList_store_obj rfl 107 _ _ rfl w1.heap.size rfl [.string K, .string D] rz rfl 107 R2.out HO.out.2 rfl (rec_one _ _) ?_; intro w3 g3 t3; have R3 := Lib.hid g3; have A3 := Lib.hid (A2.out.trans (t3.below (Nat.le_refl w1.heap.size))); have I3 := Lib.hid (I1.out.below A3.out); have W3 := Lib.hid (own_stay W1.out A3.out (Nat.le_refl _)); have B3 := Lib.hid (belT B1.out A3.out); have c0 := g3.get 0 rfl; have c1 := g3.get 1 rfl; clear g3 t3))
          clear c1
          go_quiet (fail)
          go_wp2
          go_ret3
          obtain ⟨r1, r2, r3⟩ := R0.out
          rw [← r1, ← r2, ← r3]
          exact .nil (B3.out.trans (drewN_below _ _ _))
      · obtain rfl : at_ = n := by omega
        have q1 : ¬ (at_ : Int) < at_ := by omega
        have R0 : Hid (out = PR ∧ at_ = PN ∧ (0 : Int) = PE) := by
          show _ ∧ _ ∧ _
          have := HG.out
          rw [pgo_stop (by rw [HNL.out]; exact Nat.le_refl _), HNL.out] at this
          simpa using this
        clear hlt
        go_wp2
        go_ret3
        obtain ⟨r1, r2, r3⟩ := R0.out
        rw [← r1, ← r2, ← r3]
        exact ⟨va, out.length, vc, rfl, rfl, HVC.out, HVM.out, HVI.out, HL.out, fun x hx => (HVB.out x hx).1⟩
theorem rparse_new (a : Option Addr) (n cap : Nat) (zs : List Int) (w : World) (hn : zs.length = n) (hc : n ≤ cap) (hz : ∀ z ∈ zs, 0 ≤ z ∧ z ≤ 255) (hi : BytesIn w a zs) (hN : n ≤ 300000) :
    Calls Tryz.prog 85 #[.slice a n cap] w (RetRecsF (parZ zs).1 (parZ zs).2.1 (parZ zs).2.2 w) := by
  rcases hi with rfl | ⟨bb, off, rfl, hlt, hr⟩
  · obtain rfl : n = 0 := hn.symm
    exact rparse_nil a cap w
  · exact rparse_some bb off n cap zs w hn hc hz hlt hr hN
theorem rparse_any (a : Option Addr) (n cap : Nat) (zs : List Int) (w : World) (hn : zs.length = n) (hc : n ≤ cap) (hz : ∀ z ∈ zs, 0 ≤ z ∧ z ≤ 255) (hi : BytesIn w a zs) (hN : n ≤ 300000) :
    Calls Tryz.prog 85 #[.slice a n cap] w (RetRecs (parZ zs).1 (parZ zs).2.1 (parZ zs).2.2 w) :=
  (rparse_new a n cap zs w hn hc hz hi hN).mono fun _ _ h => h.ret
end Go.Proofs.YtbbaleambgaanaaGreatDoor.Pxr
namespace Go.Proofs.YtbbaleambgaanaaGreatDoor.Etr
open Go.RowKit Go.Proofs.YtbbaleambgaanaaGreatDoor.Fit Pxr Pnm
def RetRc (rs : List Rec) (p : Int) (e : Int) (w : World) (x : Ending) (w' : World) : Prop :=
  ∃ b n c, x = .returned (.tuple #[.slice b n c, .int .i64 p, .int .i64 e]) ∧ rs.length = n ∧ n ≤ c ∧ c ≤ maxLen ∧ RecsIn w' b rs ∧ ∀ x, b = some x → w.heap.size ≤ x.block
theorem RetRc.nil {p e : Int} {w w' : World} : RetRc [] p e w (.returned (.tuple #[.slice none 0 0, .int .i64 p, .int .i64 e])) w' := ⟨none, 0, 0, rfl, rfl, Nat.le_refl _, Nat.zero_le _, .inl rfl, fun x hx => by cases hx⟩
theorem eq_pax (nm pf lk : ByteArray) (md sz : Int) (w : World) :
    (Op.equalIn 10000 67 (.agg (Ust.hdV 120 nm pf lk md sz).toArray) (.agg (Ust.hdV 120 kPax emp emp 0 sz).toArray)).run Tryz.prog w = .ok (decide (nm = kPax ∧ pf = emp ∧ lk = emp ∧ md = 0)) w := by
  rw [Ust.run_eqH 67 Tryz.underlying67 (by kernel_rfl)]
  congr 1
  simp
section
variable {lo hi q : Nat} {Z : List Int} {E : Int} {o o1 : Nat} {nm pf lk : ByteArray} {md sz : Int}
set_option maxRecDepth 100000 in
set_option maxHeartbeats 4000000 in
theorem rrec_pax (w : World) (h : ¬ paxOk ⟨120, nm, pf, lk, md, sz⟩) :
    Calls Tryz.prog 41 #[.pointer (some ⟨q, 0, none⟩), .agg (Ust.hdV 120 nm pf lk md sz).toArray, .int .i64 o] w fun e w' => RetRc [] o 17 w e w' ∧ Below w.heap.size w w' := by
  have HQ := Lib.hid (eq_pax nm pf lk md sz)
  by_cases h1 : nm = kPax ∧ pf = emp ∧ lk = emp ∧ md = 0
  · have hs : sz < 1 ∨ 262144 < sz := by
      apply Decidable.byContradiction
      intro hs
      exact h ⟨h1.1, h1.2.1, h1.2.2.1, h1.2.2.2, by show 1 ≤ sz; omega, by show sz ≤ 262144; omega⟩
    have hq : ∀ w : World, (Op.equalIn 10000 67 (.agg (Ust.hdV 120 nm pf lk md sz).toArray) (.agg (Ust.hdV 120 kPax emp emp 0 sz).toArray)).run Tryz.prog w = .ok true w := fun w => by rw [HQ.out w, decide_eq_true h1]
    clear h1 h HQ
    rcases hs with hs | hs
    · go_enter Tryz.func41, Tryz.ntmps41
      go_wp2_with (first | (refine wpList_box_obj rfl 67 _ rfl (Ust.hdV 120 nm pf lk md sz) rfl ?_; intro w1 h1 b1; have H1 := Lib.hid h1; have B1 := Lib.hid b1; have c0 := h1.get 0 rfl; have c1 := h1.get 1 rfl; have c2 := h1.get 2 rfl; have c3 := h1.get 3 rfl; have c4 := h1.get 4 rfl; have c5 := h1.get 5 rfl; clear h1 b1))
      go_ret3
      exact ⟨.nil, B1.out⟩
    · have hs1 : ¬ sz < 1 := by omega
      go_enter Tryz.func41, Tryz.ntmps41
      go_wp2_with (first | (refine wpList_box_obj rfl 67 _ rfl (Ust.hdV 120 nm pf lk md sz) rfl ?_; intro w1 h1 b1; have H1 := Lib.hid h1; have B1 := Lib.hid b1; have c0 := h1.get 0 rfl; have c1 := h1.get 1 rfl; have c2 := h1.get 2 rfl; have c3 := h1.get 3 rfl; have c4 := h1.get 4 rfl; have c5 := h1.get 5 rfl; clear h1 b1))
      go_ret3
      exact ⟨.nil, B1.out⟩
  · have hq : ∀ w : World, (Op.equalIn 10000 67 (.agg (Ust.hdV 120 nm pf lk md sz).toArray) (.agg (Ust.hdV 120 kPax emp emp 0 sz).toArray)).run Tryz.prog w = .ok false w := fun w => by rw [HQ.out w, decide_eq_false h1]
    clear h1 h HQ
    go_enter Tryz.func41, Tryz.ntmps41
    go_wp2_with (first | (refine wpList_box_obj rfl 67 _ rfl (Ust.hdV 120 nm pf lk md sz) rfl ?_; intro w1 h1 b1; have H1 := Lib.hid h1; have B1 := Lib.hid b1; have c0 := h1.get 0 rfl; have c1 := h1.get 1 rfl; have c2 := h1.get 2 rfl; have c3 := h1.get 3 rfl; have c4 := h1.get 4 rfl; have c5 := h1.get 5 rfl; clear h1 b1))
    go_ret3
    exact ⟨.nil, B1.out⟩
theorem rdD_le (Z : List Int) (o : Nat) (err : Int) (s : Nat) : (rdD Z o err s).length ≤ s := by
  unfold rdD
  split
  · exact Nat.zero_le _
  · split
    · rw [List.length_take]; exact Nat.min_le_left _ _
    · exact Nat.zero_le _
set_option maxRecDepth 100000 in
set_option maxHeartbeats 4000000 in
theorem rrec_read {s : Nat} (w : World) (h : RRd w lo hi q Z E o1 0) (hZB : Bytes Z) (hs1 : 1 ≤ s) (hs2 : s ≤ 262144) (hE : rdE Z E o1 0 s ≠ 0) :
    Calls Tryz.prog 41 #[.pointer (some ⟨q, 0, none⟩), .agg (Ust.hdV 120 kPax emp emp 0 s).toArray, .int .i64 o] w fun e w' => RetRc [] (rdP Z o1 0 s) (rdE Z E o1 0 s) w e w' ∧ RRd w' lo hi q Z E (rdO Z o1 0 s) (rdS Z E o1 0 s) ∧ Out lo hi w w' := by
  have HQ := Lib.hid (eq_pax kPax emp emp 0 s)
  have hq : ∀ w : World, (Op.equalIn 10000 67 (.agg (Ust.hdV 120 kPax emp emp 0 s).toArray) (.agg (Ust.hdV 120 kPax emp emp 0 s).toArray)).run Tryz.prog w = .ok true w := fun w => by rw [HQ.out w]; simp
  have H := Lib.hid h; have ZB := Lib.hid hZB
  have hs1' : ¬ (s : Int) < 1 := by omega
  have hs2' : ¬ (262144 : Int) < s := by omega
  have HS2 := Lib.hid hs2
  obtain ⟨V, hV⟩ := named (rdE Z E o1 0 s)
  obtain ⟨P, hP⟩ := named (rdP Z o1 0 s)
  rw [← hV.out] at hE
  rw [← hV.out, ← hP.out]
  have hne : (V != 0) = true := by simp [hE]
  clear h hZB hs1 hs2 hE
  go_enter Tryz.func41, Tryz.ntmps41
  go_wp2_with (first | (refine wpList_box_obj rfl 67 _ rfl (Ust.hdV 120 kPax emp emp 0 s) rfl ?_; intro w1 h1 b1; have H1 := Lib.hid h1; have B1 := Lib.hid b1; have c0 := h1.get 0 rfl; have c1 := h1.get 1 rfl; have c2 := h1.get 2 rfl; have c3 := h1.get 3 rfl; have c4 := h1.get 4 rfl; have c5 := h1.get 5 rfl; clear h1 b1))
  have R1 := Lib.hid (H.out.below B1.out)
  refine (rrd_any (s : Int) w1 R1.out).mono ?_; rintro e w2 ⟨⟨b2, c2', rfl, l2, i2, x2⟩, r2, u2⟩
  rw [← hV.out, ← hP.out]
  have R2 := Lib.hid r2; have U2 := Lib.hid u2
  clear l2 i2 x2 r2 u2
  go_wp2_with fail
  go_ret3
  exact ⟨.nil, R2.out, (Out.of_below B1.out (Nat.le_refl _)).trans U2.out⟩
set_option maxRecDepth 100000 in
set_option maxHeartbeats 4000000 in
theorem rrec_par {s : Nat} (w : World) (h : RRd w lo hi q Z E o1 0) (hZB : Bytes Z) (hs1 : 1 ≤ s) (hs2 : s ≤ 262144) (hE : rdE Z E o1 0 s = 0) (hP : (Pxr.parZ (rdD Z o1 0 s)).2.2 ≠ 0) (ho : o ≤ 100000000) :
    Calls Tryz.prog 41 #[.pointer (some ⟨q, 0, none⟩), .agg (Ust.hdV 120 kPax emp emp 0 s).toArray, .int .i64 o] w fun e w' => RetRc [] ((o + 512 + (Pxr.parZ (rdD Z o1 0 s)).2.1 : Nat) : Int) (Pxr.parZ (rdD Z o1 0 s)).2.2 w e w' ∧ RRd w' lo hi q Z E (rdO Z o1 0 s) (rdS Z E o1 0 s) ∧ Out lo hi w w' := by
  have HQ := Lib.hid (eq_pax kPax emp emp 0 s)
  have hq : ∀ w : World, (Op.equalIn 10000 67 (.agg (Ust.hdV 120 kPax emp emp 0 s).toArray) (.agg (Ust.hdV 120 kPax emp emp 0 s).toArray)).run Tryz.prog w = .ok true w := fun w => by rw [HQ.out w]; simp
  have H := Lib.hid h; have ZB := Lib.hid hZB
  have hs1' : ¬ (s : Int) < 1 := by omega
  have hs2' : ¬ (262144 : Int) < s := by omega
  have HS2 := Lib.hid hs2
  have HE := Lib.hid hE
  obtain ⟨D, hD⟩ := named (rdD Z o1 0 s)
  have DL : Hid (D.length ≤ 262144) := by show _ ≤ _; rw [hD.out]; exact Nat.le_trans (rdD_le Z o1 0 s) hs2
  have DB : Hid (Bytes D) := by show Bytes _; rw [hD.out]; exact rdD_bytes hZB _ _ _
  obtain ⟨V, hV⟩ := named (Pxr.parZ D).2.2
  obtain ⟨N, hN⟩ := named (Pxr.parZ D).2.1
  rw [← hD.out, ← hV.out] at hP
  rw [← hD.out, ← hV.out, ← hN.out]
  have hne : (V != 0) = true := by simp [hP]
  have hN8 : (N : Int) ≤ 262144 := by
    have := par_says D DB.out
    have h2 := DL.out
    rw [hN.out]
    omega
  have ho8 : (o : Int) ≤ 100000000 := by omega
  clear h hZB hs1 hs2 hE hP
  go_enter Tryz.func41, Tryz.ntmps41
  go_wp2_with (first | (refine wpList_box_obj rfl 67 _ rfl (Ust.hdV 120 kPax emp emp 0 s) rfl ?_; intro w1 h1 b1; have H1 := Lib.hid h1; have B1 := Lib.hid b1; have c0 := h1.get 0 rfl; have c1 := h1.get 1 rfl; have c2 := h1.get 2 rfl; have c3 := h1.get 3 rfl; have c4 := h1.get 4 rfl; have c5 := h1.get 5 rfl; clear h1 b1))
  have R1 := Lib.hid (H.out.below B1.out)
  refine (rrd_any (s : Int) w1 R1.out).mono ?_; rintro e w2 ⟨⟨b2, c2', rfl, l2, i2, x2⟩, r2, u2⟩
  rw [← hD.out] at i2 l2
  rw [HE.out, ← hD.out]
  have R2 := Lib.hid r2; have U2 := Lib.hid u2
  go_wp2_with fail
  refine (rparse_any b2 D.length c2' D w2 rfl l2 DB.out (i2.bytes DB.out) (by have := DL.out; omega)).mono ?_; rintro e w3 ⟨a3, l3, c3', rfl, e3, f3, g3, h3, b3⟩
  rw [← hV.out, ← hN.out]
  have R3 := Lib.hid (R2.out.below b3); have U3 : Hid (Out lo hi w2 w3) := Out.of_below b3 (Nat.le_refl _)
  clear l2 i2 x2 r2 u2 e3 f3 g3 h3 b3
  go_wp2_with fail
  go_ret3
  have ev : (o : Int) + 512 + N = ((o + 512 + N : Nat) : Int) := by omega
  rw [ev]
  exact ⟨.nil, R3.out, ((Out.of_below B1.out (Nat.le_refl _)).trans U2.out).trans U3.out⟩
set_option maxRecDepth 100000 in
set_option maxHeartbeats 4000000 in
theorem rrec_ok {s : Nat} (w : World) (h : RRd w lo hi q Z E o1 0) (hZB : Bytes Z) (hs1 : 1 ≤ s) (hs2 : s ≤ 262144) (hE : rdE Z E o1 0 s = 0) (hP : (Pxr.parZ (rdD Z o1 0 s)).2.2 = 0) :
    Calls Tryz.prog 41 #[.pointer (some ⟨q, 0, none⟩), .agg (Ust.hdV 120 kPax emp emp 0 s).toArray, .int .i64 o] w fun e w' => RetRc (Pxr.parZ (rdD Z o1 0 s)).1 0 0 w e w' ∧ RRd w' lo hi q Z E (rdO Z o1 0 s) (rdS Z E o1 0 s) ∧ Out lo hi w w' := by
  have HQ := Lib.hid (eq_pax kPax emp emp 0 s)
  have hq : ∀ w : World, (Op.equalIn 10000 67 (.agg (Ust.hdV 120 kPax emp emp 0 s).toArray) (.agg (Ust.hdV 120 kPax emp emp 0 s).toArray)).run Tryz.prog w = .ok true w := fun w => by rw [HQ.out w]; simp
  have H := Lib.hid h; have ZB := Lib.hid hZB
  have hs1' : ¬ (s : Int) < 1 := by omega
  have hs2' : ¬ (262144 : Int) < s := by omega
  have HS2 := Lib.hid hs2
  have HE := Lib.hid hE
  obtain ⟨D, hD⟩ := named (rdD Z o1 0 s)
  have DL : Hid (D.length ≤ 262144) := by show _ ≤ _; rw [hD.out]; exact Nat.le_trans (rdD_le Z o1 0 s) hs2
  have DB : Hid (Bytes D) := by show Bytes _; rw [hD.out]; exact rdD_bytes hZB _ _ _
  obtain ⟨N, hN⟩ := named (Pxr.parZ D).2.1
  obtain ⟨L, hL⟩ := named (Pxr.parZ D).1
  rw [← hD.out] at hP
  have HP := Lib.hid hP
  rw [← hD.out, ← hL.out]
  clear h hZB hs1 hs2 hE hP
  go_enter Tryz.func41, Tryz.ntmps41
  go_wp2_with (first | (refine wpList_box_obj rfl 67 _ rfl (Ust.hdV 120 kPax emp emp 0 s) rfl ?_; intro w1 h1 b1; have H1 := Lib.hid h1; have B1 := Lib.hid b1; have c0 := h1.get 0 rfl; have c1 := h1.get 1 rfl; have c2 := h1.get 2 rfl; have c3 := h1.get 3 rfl; have c4 := h1.get 4 rfl; have c5 := h1.get 5 rfl; clear h1 b1))
  have R1 := Lib.hid (H.out.below B1.out)
  refine (rrd_any (s : Int) w1 R1.out).mono ?_; rintro e w2 ⟨⟨b2, c2', rfl, l2, i2, x2⟩, r2, u2⟩
  rw [← hD.out] at i2 l2
  rw [HE.out, ← hD.out]
  have R2 := Lib.hid r2; have U2 := Lib.hid u2
  go_wp2_with fail
  refine (rparse_new b2 D.length c2' D w2 rfl l2 DB.out (i2.bytes DB.out) (by have := DL.out; omega)).mono ?_; rintro e w3 ⟨a3, l3, c3', rfl, e3, f3, g3, h3, b3, y3⟩
  rw [HP.out, ← hN.out]
  rw [← hL.out] at e3 h3
  have R3 := Lib.hid (R2.out.below b3); have U3 : Hid (Out lo hi w2 w3) := Out.of_below b3 (Nat.le_refl _)
  have HR3 := Lib.hid h3; have E3 := Lib.hid e3; have F3 := Lib.hid f3; have G3 := Lib.hid g3; have Y3 : Hid (∀ x, a3 = some x → w.heap.size ≤ x.block) := fun x hx => Nat.le_trans (Nat.le_trans B1.out.size U2.out.size) (y3 x hx)
  clear l2 i2 x2 r2 u2 e3 f3 g3 h3 b3 y3
  go_wp2_with fail
  go_ret3
  exact ⟨⟨a3, l3, c3', rfl, E3.out.symm, F3.out, G3.out, HR3.out, Y3.out⟩, R3.out, ((Out.of_below B1.out (Nat.le_refl _)).trans U2.out).trans U3.out⟩
end
end Go.Proofs.YtbbaleambgaanaaGreatDoor.Etr
