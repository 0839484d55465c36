/-
  Layer 9: the reference's Parse.
-/
import Derived.Test.YtjmnhnijmaceeaaDoorPxrRTake2
import Derived.Test.YtjmnhnijmaceeaaDoorPxrParse
namespace Go.Proofs.YtjmnhnijmaceeaaDoor.Pxr
open Go.RowKit

set_option maxHeartbeats 1000000 in
set_option maxRecDepth 100000 in
theorem rparse_nil (a : Option Addr) (cap : Nat) (w : World) : Calls Tryd.prog 21 #[.slice a 0 cap] w (RetRecs [] 0 0 w) := by
  go_enter Tryd.func21, Tryd.ntmps21
  go_wp2
  go_loop [5, 6] (fun v i => v = .slice none 0 0 ∧ i = .int .i64 (0 : Int)) (fun _ i => 0 - (intOf i).toNat)
  case atStart => exact ⟨rfl, rfl⟩
  case round =>
    obtain ⟨rfl, rfl⟩ := hrel
    go_wp2
    go_ret3
    exact .nil (Below.refl _ _)

set_option maxHeartbeats 8000000 in
set_option maxRecDepth 100000 in
theorem rparse_some (bb off n cap : Nat) (zs : List Int) (w : World) (hn : zs.length = n) (hc : n ≤ cap) (hz : ∀ z ∈ zs, 0 ≤ z ∧ z ≤ 255) (hlt : bb < w.heap.size) (hr : RowAt w bb off zs) (hN : n ≤ 300000) :
    Calls Tryd.prog 21 #[.slice (some ⟨bb, off, none⟩) n cap] w (RetRecs (parZ zs).1 (parZ zs).2.1 (parZ zs).2.2 w) := by
  obtain ⟨PR, hPR⟩ := named (parZ zs).1
  obtain ⟨PN, hPN⟩ := named (parZ zs).2.1
  obtain ⟨PE, hPE⟩ := named (parZ zs).2.2
  have hP : Hid (parZ zs = (PR, PN, PE)) := by show _ = _; rw [hPR.out, hPN.out, hPE.out]
  rw [← hPR.out, ← hPN.out, ← hPE.out]
  by_cases hb : 262144 < n
  · have e : (PR, PN, PE) = (([] : List Rec), 0, (7 : Int)) := by rw [← hP.out]; unfold parZ; rw [if_pos (by omega)]
    simp only [Prod.mk.injEq] at e
    obtain ⟨rfl, rfl, rfl⟩ := e
    have m1 : (262144 : Int) < n := by omega
    clear hP hPR hPN hPE hr hz hlt
    go_enter Tryd.func21, Tryd.ntmps21
    go_wp2
    go_ret3
    exact .nil (Below.refl _ _)
  · have m1 : ¬ (262144 : Int) < n := by omega
    obtain ⟨i0, hI⟩ := recI
    have HP0 : Hid (pgo (n + 1) [] 0 zs = (PR, PN, PE)) := by show _ = _; rw [← hP.out]; unfold parZ; rw [hn, if_neg hb]
    have HZB := Lib.hid hz; have HNL := Lib.hid hn; have HROW := Lib.hid hr; have HLT := Lib.hid hlt
    have hJ := Lib.hid recJ; have HZ := Lib.hid recZ; have HO := Lib.hid recO
    have HB := Lib.hid hb; have HCAP := Lib.hid hc
    have HUnd := Lib.hid Tryd.underlying22
    clear hP hPR hPN hPE hz hr hn hb hN hlt
    go_enter Tryd.func21, Tryd.ntmps21
    go_wp2_with fail
    go_loopw [5, 6] (fun l o wr => ∃ (out : List Rec) (at_ f : Nat), o = .int .i64 at_ ∧ at_ ≤ n ∧ out.length ≤ at_ ∧ n < at_ + f ∧ pgo f out at_ zs = (PR, PN, PE) ∧ wr.ownsRow w.heap.size 32 2 l out.length (recCells out) ∧ Below w.heap.size w wr)
      (fun _ o _ => n + 1 - (intOf o).toNat)
    case atStart => exact ⟨[], 0, n + 1, rfl, Nat.zero_le _, Nat.le_refl _, by omega, HP0.out, ⟨rfl, .inl ⟨rfl, rfl⟩⟩, Below.refl _ _⟩
    case round =>
      obtain ⟨out, at_, f, rfl, hat, hol, hf, hgo, hown, hbel⟩ := hrel
      obtain ⟨g, rfl⟩ : ∃ g, f = g + 1 := ⟨f - 1, by omega⟩
      have HG := Lib.hid hgo; have HW := Lib.hid hown; have HL := Lib.hid hbel; have HF := Lib.hid hf; have HOL := Lib.hid hol
      obtain ⟨va, vc, hv, hvn, hvc, hvm, hvi, hvb⟩ := RecsIn.of_own hown
      subst hv
      have HVI := Lib.hid hvi; have HVC := Lib.hid hvc; have HVM := Lib.hid hvm
      clear hgo hown hbel hf hol hvi hvn hvc hvm hvb
      by_cases hlt : at_ < n
      · have q1 : (at_ : Int) < n := by omega
        have q2 : (at_ : Int) ≤ n := by omega
        have q3 : ¬ cap = at_ := by have := HCAP.out; omega
        have hzn : ¬ zs.length ≤ at_ := by rw [HNL.out]; omega
        have hdz : ∀ z ∈ zs.drop at_, 0 ≤ z ∧ z ≤ 255 := fun z hz0 => HZB.out z (List.mem_of_mem_drop hz0)
        have hdl : (zs.drop at_).length = n - at_ := by rw [List.length_drop, HNL.out]
        have hrow : RowAt wr bb (off + at_) (zs.drop at_) := by
          have h := HROW.out.below HL.out HLT.out
          refine ⟨fun i hi => ?_, hdz⟩
          rw [hdl] at hi
          rw [Nat.add_assoc, h.1 (at_ + i) (by rw [HNL.out]; omega), getD_drop]
        have hcv := run_str_of (P := Tryd.prog) Tryd.underlying25 Tryd.underlying5 Tryd.underlying9 hrow (n - at_) (cap - at_) hdl
        obtain ⟨sub, hsub⟩ := named (strOfNums (zs.drop at_))
        rw [← hsub.out] at hcv
        have hsubn : numsOf sub = zs.drop at_ := by rw [hsub.out]; exact numsOf_strOfNums hdz
        have hsubs : sub.size ≤ 300000 := by rw [← numsOf_length, hsubn, hdl]; have := HB.out; omega
        have PF := rtake_any sub wr hsubs
        rw [hsubn] at PF
        have XS := tkX_sz hdz (by rw [hdl]; have := HB.out; omega)
        obtain ⟨E, hE⟩ := named (tkE (zs.drop at_))
        obtain ⟨K, hK⟩ := named (tkX (zs.drop at_)).1
        obtain ⟨D, hD⟩ := named (tkX (zs.drop at_)).2
        obtain ⟨tn, htn⟩ := named (tkM (zs.drop at_))
        rw [← hE.out, ← hK.out, ← hD.out, ← htn.out] at PF
        rw [← hK.out, ← hD.out] at XS
        have HPF := Lib.hid PF
        have HXS := Lib.hid XS
        have HZN := Lib.hid hzn
        clear PF XS hsubn hsubs hzn hrow
        by_cases hE0 : E = 0
        · have T0 : TkOk (zs.drop at_) := (tkE_ok _).1 (by rw [← hE.out]; exact hE0)
          have hX : tkX (zs.drop at_) = tkR (zs.drop at_) := by unfold tkX; rw [if_pos (by rw [← hE.out]; exact hE0)]
          have hM : Hid (tn = tkN (zs.drop at_)) := by show _ = _; rw [htn.out]; unfold tkM; rw [if_pos (by rw [← hE.out]; exact hE0)]
          have hKD : Hid ((K, D) = tkR (zs.drop at_)) := by show _ = _; rw [hK.out, hD.out, hX]
          have hte : Hid (tkE (zs.drop at_) = 0) := by show _ = _; rw [← hE.out]; exact hE0
          have hTN : 1 ≤ tn ∧ tn ≤ n - at_ := by rw [hM.out]; exact ⟨T0.pos, by have := T0.len; rw [hdl] at this; exact this⟩
          have HTN := Lib.hid hTN
          have ho6 : Hid (out.length ≤ 1000000) := by show _ ≤ _; have := HOL.out; have := HB.out; omega
          have p1 : (at_ : Int) + tn ≤ 1000000 := by have := HTN.out; have := HB.out; omega
          subst hE0
          obtain ⟨C, hC⟩ := named (chk (K, D))
          have HCK := Lib.hid fun (w' : World) => rcheck_any K D w' (by have := HXS.out; unfold maxLen; omega)
          rw [← hC.out] at HCK
          have HWR : Hid (chkN out (K, D) ≠ 0 → ([] : List Rec) = PR ∧ at_ = PN ∧ chkN out (K, D) = PE) := fun h => by
            have := HG.out
            rw [pgo_wrong HZN.out hte.out (by rw [← hKD.out]; exact h), ← hKD.out] at this
            simpa using this
          have HGO : Hid (chkN out (K, D) = 0 → pgo g (out ++ [(K, D)]) (at_ + tn) zs = (PR, PN, PE)) := fun h => by
            have := HG.out
            rw [pgo_go HZN.out hte.out (by rw [← hKD.out]; exact h), ← hKD.out, ← hM.out] at this
            exact this
          clear T0 hX hTN hdz hdl
          by_cases hC0 : C = 0
          · have ch0 : chk (K, D) = 0 := by rw [← hC.out]; exact hC0
            by_cases hlen : out = []
            · have cN : chkN out (K, D) = 0 := by unfold chkN; rw [if_neg (by rw [ch0]; simp), hlen, prev_none]; rfl
              have HG2 := Lib.hid (HGO.out cN)
              have hd : decide ((0 : Int) < (out.length : Int)) = false := by rw [hlen]; decide
              have hd2 : decide (0 < out.length) = false := by rw [hlen]; decide
              subst hC0
              clear ch0 cN hlen
              go_wp2_with fail
              refine HPF.out.mono ?_; rintro e w1 ⟨rfl, b1⟩
              have A1 := Lib.hid b1
              have I1 := Lib.hid (HVI.out.below b1)
              have W1 := Lib.hid (own_stay HW.out b1 (Nat.le_refl _))
              have B1 := Lib.hid (belT HL.out b1)
              clear b1 hcv
              go_wp2_with (first | (refine wpList_alloc_obj rfl 32 rfl rz HZ.out ?_; intro w2 g2 b2; have R2 := Lib.hid g2; have A2 := Lib.hid b2; have B2 := Lib.hid (belT B1.out b2); clear g2 b2) | (refine wpList_store_obj rfl 32 _ _ rfl w1.heap.size rfl [.string K, .string D] rz rfl 32 R2.out HO.out.2 rfl (rec_one _ _) ?_; intro w3 g3 t3; have R3 := Lib.hid g3; have A3 := Lib.hid (A2.out.trans (t3.below (Nat.le_refl w1.heap.size))); have I3 := Lib.hid (I1.out.below A3.out); have W3 := Lib.hid (own_stay W1.out A3.out (Nat.le_refl _)); have B3 := Lib.hid (belT B1.out A3.out); have c0 := g3.get 0 rfl; have c1 := g3.get 1 rfl; clear g3 t3))
              refine (HCK.out _).mono ?_; rintro e w4 ⟨rfl, b4⟩
              have R4 := Lib.hid (R3.out.below b4 R3.out.lt)
              have I4 := Lib.hid (I3.out.below b4)
              have W4 := Lib.hid (own_stay W3.out b4 (Nat.le_refl _))
              have B4 := Lib.hid (belT B3.out b4)
              have Q4 := Lib.hid b4
              clear b4 c0 c1
              have c0 := R4.out.get 0 rfl
              have c1 := R4.out.get 1 rfl
              go_wp2_with fail
              go_quiet (fail)
              have R5 := Lib.hid (R4.out.below (drewN_below w4.heap.size w4 nq) R4.out.lt)
              have W5 := Lib.hid (own_stay W4.out (drewN_below w4.heap.size w4 nq) (Nat.le_refl _))
              have B5 := Lib.hid (belT B4.out (drewN_below w4.heap.size w4 nq))
              have LR := Lib.hid R5.out.lt
              clear c0 c1
              generalize hw5 : w4.drewN nq = w5 at R5 W5 B5 LR ⊢
              clear hw5
              have c0 := R5.out.get 0 rfl
              have c1 := R5.out.get 1 rfl
              go_wp2_with (first | (refine wpList_lit_rec rfl _ 32 _ rfl HUnd.out _ hJ.out K D rfl ?_; intro w6 g6 b6; have G6 := Lib.hid g6; have W6 := Lib.hid (own_stay W5.out b6 (Nat.le_refl _)); have B6 := Lib.hid (belT B5.out b6); clear g6 b6) | (at_builtin; refine wpList_append_rec rfl _ _ _ rfl w.heap.size _ i0 _ HUnd.out hI _ out.length out rfl W6.out w5.heap.size (K, D) rfl G6.out ho6.out B6.out.size ?_; intro v7 w7 o7 b7 k7; have W7 := Lib.hid o7; have B7 := Lib.hid (B6.out.trans b7); clear o7 b7 k7))
              go_roundw
              case rel => exact ⟨out ++ [(K, D)], at_ + tn, g, by go_num, by have := HTN.out; omega, by rw [List.length_append, List.length_singleton]; have := HTN.out; have := HOL.out; omega, by have := HTN.out; have := HF.out; omega, HG2.out, by rw [List.length_append, List.length_singleton]; exact W7.out, B7.out⟩
              case measure => simp [intOf]; have := HTN.out; omega
            · obtain ⟨m, hmm⟩ : ∃ m, out.length = m + 1 := ⟨out.length - 1, by
                have : out.length ≠ 0 := fun h => hlen (List.length_eq_zero_iff.1 h)
                omega⟩
              obtain ⟨r, hr⟩ : ∃ r, out[m]? = some r := ⟨out[m], List.getElem?_eq_getElem (by omega)⟩
              obtain ⟨gb, go, hva, hgl, k0, _⟩ := HVI.out.get m r hr
              subst hva
              have K0 : Hid (∀ w', Below wr.heap.size wr w' → w'.cell? ⟨gb, go + m * 2, none⟩ = some (.string r.1)) := fun w' hb => (hb.cell (p := ⟨gb, go + m * 2, none⟩) hgl).trans k0
              have hd : decide ((0 : Int) < (out.length : Int)) = true := decide_eq_true (by omega)
              have hd2 : decide (0 < out.length) = true := decide_eq_true (by omega)
              have n0 : out.length ≤ 1000000 := ho6.out
              have n1 : IntKind.i64.wrap ((out.length : Int) - 1) = (m : Int) := by rw [show (out.length : Int) - 1 = m by omega]; exact wrapP (by omega) (by omega)
              have n2 : (m : Int) < out.length := by omega
              have hle := prev_at hmm hr K
              cases hKL : keyLe K r.1 with
              | true =>
                have cN : chkN out (K, D) = 12 := by unfold chkN; rw [if_neg (by rw [ch0]; simp), hle, hKL]; rfl
                have r0 := HWR.out (by rw [cN]; decide)
                rw [cN] at r0
                have R0 := Lib.hid r0
                clear r0
                have hK' : (Op.bytesLess K.toList r.1.toList || K.toList == r.1.toList) = true := hKL
                subst hC0
                clear ch0 cN hlen hr k0 hle hKL hmm n0
                go_wp2_with fail
                refine HPF.out.mono ?_; rintro e w1 ⟨rfl, b1⟩
                have A1 := Lib.hid b1
                have I1 := Lib.hid (HVI.out.below b1)
                have W1 := Lib.hid (own_stay HW.out b1 (Nat.le_refl _))
                have B1 := Lib.hid (belT HL.out b1)
                clear b1 hcv
                go_wp2_with (first | (refine wpList_alloc_obj rfl 32 rfl rz HZ.out ?_; intro w2 g2 b2; have R2 := Lib.hid g2; have A2 := Lib.hid b2; have B2 := Lib.hid (belT B1.out b2); clear g2 b2) | (refine wpList_store_obj rfl 32 _ _ rfl w1.heap.size rfl [.string K, .string D] rz rfl 32 R2.out HO.out.2 rfl (rec_one _ _) ?_; intro w3 g3 t3; have R3 := Lib.hid g3; have A3 := Lib.hid (A2.out.trans (t3.below (Nat.le_refl w1.heap.size))); have I3 := Lib.hid (I1.out.below A3.out); have W3 := Lib.hid (own_stay W1.out A3.out (Nat.le_refl _)); have B3 := Lib.hid (belT B1.out A3.out); have c0 := g3.get 0 rfl; have c1 := g3.get 1 rfl; clear g3 t3))
                refine (HCK.out _).mono ?_; rintro e w4 ⟨rfl, b4⟩
                have R4 := Lib.hid (R3.out.below b4 R3.out.lt)
                have I4 := Lib.hid (I3.out.below b4)
                have W4 := Lib.hid (own_stay W3.out b4 (Nat.le_refl _))
                have B4 := Lib.hid (belT B3.out b4)
                have Q4 := Lib.hid b4
                clear b4 c0 c1
                have c0 := R4.out.get 0 rfl
                have c1 := R4.out.get 1 rfl
                have c2 := K0.out _ (belT (A1.out.trans ((A3.out.mono A1.out.size))) Q4.out)
                go_wp2_with fail
                go_quiet (fail)
                go_wp2
                go_ret3
                obtain ⟨r1, r2, r3⟩ := R0.out
                rw [← r1, ← r2, ← r3]
                exact .nil (B4.out.trans (drewN_below _ _ _))
              | false =>
                have cN : chkN out (K, D) = 0 := by unfold chkN; rw [if_neg (by rw [ch0]; simp), hle, hKL]; rfl
                have HG2 := Lib.hid (HGO.out cN)
                have hK' : (Op.bytesLess K.toList r.1.toList || K.toList == r.1.toList) = false := hKL
                subst hC0
                clear ch0 cN hlen hr k0 hle hKL hmm n0
                go_wp2_with fail
                refine HPF.out.mono ?_; rintro e w1 ⟨rfl, b1⟩
                have A1 := Lib.hid b1
                have I1 := Lib.hid (HVI.out.below b1)
                have W1 := Lib.hid (own_stay HW.out b1 (Nat.le_refl _))
                have B1 := Lib.hid (belT HL.out b1)
                clear b1 hcv
                go_wp2_with (first | (refine wpList_alloc_obj rfl 32 rfl rz HZ.out ?_; intro w2 g2 b2; have R2 := Lib.hid g2; have A2 := Lib.hid b2; have B2 := Lib.hid (belT B1.out b2); clear g2 b2) | (refine wpList_store_obj rfl 32 _ _ rfl w1.heap.size rfl [.string K, .string D] rz rfl 32 R2.out HO.out.2 rfl (rec_one _ _) ?_; intro w3 g3 t3; have R3 := Lib.hid g3; have A3 := Lib.hid (A2.out.trans (t3.below (Nat.le_refl w1.heap.size))); have I3 := Lib.hid (I1.out.below A3.out); have W3 := Lib.hid (own_stay W1.out A3.out (Nat.le_refl _)); have B3 := Lib.hid (belT B1.out A3.out); have c0 := g3.get 0 rfl; have c1 := g3.get 1 rfl; clear g3 t3))
                refine (HCK.out _).mono ?_; rintro e w4 ⟨rfl, b4⟩
                have R4 := Lib.hid (R3.out.below b4 R3.out.lt)
                have I4 := Lib.hid (I3.out.below b4)
                have W4 := Lib.hid (own_stay W3.out b4 (Nat.le_refl _))
                have B4 := Lib.hid (belT B3.out b4)
                have Q4 := Lib.hid b4
                clear b4 c0 c1
                have c0 := R4.out.get 0 rfl
                have c1 := R4.out.get 1 rfl
                have c2 := K0.out _ (belT (A1.out.trans ((A3.out.mono A1.out.size))) Q4.out)
                go_wp2_with fail
                go_quiet (fail)
                clear c2
                have R5 := Lib.hid (R4.out.below (drewN_below w4.heap.size w4 nq) R4.out.lt)
                have W5 := Lib.hid (own_stay W4.out (drewN_below w4.heap.size w4 nq) (Nat.le_refl _))
                have B5 := Lib.hid (belT B4.out (drewN_below w4.heap.size w4 nq))
                have LR := Lib.hid R5.out.lt
                clear c0 c1
                generalize hw5 : w4.drewN nq = w5 at R5 W5 B5 LR ⊢
                clear hw5
                have c0 := R5.out.get 0 rfl
                have c1 := R5.out.get 1 rfl
                go_wp2_with (first | (refine wpList_lit_rec rfl _ 32 _ rfl HUnd.out _ hJ.out K D rfl ?_; intro w6 g6 b6; have G6 := Lib.hid g6; have W6 := Lib.hid (own_stay W5.out b6 (Nat.le_refl _)); have B6 := Lib.hid (belT B5.out b6); clear g6 b6) | (at_builtin; refine wpList_append_rec rfl _ _ _ rfl w.heap.size _ i0 _ HUnd.out hI _ out.length out rfl W6.out w5.heap.size (K, D) rfl G6.out ho6.out B6.out.size ?_; intro v7 w7 o7 b7 k7; have W7 := Lib.hid o7; have B7 := Lib.hid (B6.out.trans b7); clear o7 b7 k7))
                go_roundw
                case rel => exact ⟨out ++ [(K, D)], at_ + tn, g, by go_num, by have := HTN.out; omega, by rw [List.length_append, List.length_singleton]; have := HTN.out; have := HOL.out; omega, by have := HTN.out; have := HF.out; omega, HG2.out, by rw [List.length_append, List.length_singleton]; exact W7.out, B7.out⟩
                case measure => simp [intOf]; have := HTN.out; omega
          · have cN : chkN out (K, D) = C := by unfold chkN; rw [if_pos (by rw [← hC.out]; exact hC0), hC.out]
            have r0 := HWR.out (by rw [cN]; exact hC0)
            rw [cN] at r0
            have R0 := Lib.hid r0
            clear r0
            have z3 : (C == 0) = false := by simpa using hC0
            have z4 : (C != 0) = true := by simpa using hC0
            clear hC0 cN
            go_wp2_with fail
            refine HPF.out.mono ?_; rintro e w1 ⟨rfl, b1⟩
            have A1 := Lib.hid b1
            have I1 := Lib.hid (HVI.out.below b1)
            have W1 := Lib.hid (own_stay HW.out b1 (Nat.le_refl _))
            have B1 := Lib.hid (belT HL.out b1)
            clear b1 hcv
            go_wp2_with (first | (refine wpList_alloc_obj rfl 32 rfl rz HZ.out ?_; intro w2 g2 b2; have R2 := Lib.hid g2; have A2 := Lib.hid b2; have B2 := Lib.hid (belT B1.out b2); clear g2 b2) | (refine wpList_store_obj rfl 32 _ _ rfl w1.heap.size rfl [.string K, .string D] rz rfl 32 R2.out HO.out.2 rfl (rec_one _ _) ?_; intro w3 g3 t3; have R3 := Lib.hid g3; have A3 := Lib.hid (A2.out.trans (t3.below (Nat.le_refl w1.heap.size))); have I3 := Lib.hid (I1.out.below A3.out); have W3 := Lib.hid (own_stay W1.out A3.out (Nat.le_refl _)); have B3 := Lib.hid (belT B1.out A3.out); have c0 := g3.get 0 rfl; have c1 := g3.get 1 rfl; clear g3 t3))
            refine (HCK.out _).mono ?_; rintro e w4 ⟨rfl, b4⟩
            have R4 := Lib.hid (R3.out.below b4 R3.out.lt)
            have I4 := Lib.hid (I3.out.below b4)
            have W4 := Lib.hid (own_stay W3.out b4 (Nat.le_refl _))
            have B4 := Lib.hid (belT B3.out b4)
            have Q4 := Lib.hid b4
            clear b4 c0 c1
            have c0 := R4.out.get 0 rfl
            have c1 := R4.out.get 1 rfl
            go_wp2_with fail
            go_quiet (fail)
            go_wp2
            go_ret3
            obtain ⟨r1, r2, r3⟩ := R0.out
            rw [← r1, ← r2, ← r3]
            exact .nil (B4.out.trans (drewN_below _ _ _))
        · have z3 : (E == 0) = false := by simpa using hE0
          have z4 : (E != 0) = true := by simpa using hE0
          have R0 : Hid (([] : List Rec) = PR ∧ at_ = PN ∧ E = PE) := by
            show _ ∧ _ ∧ _
            have := HG.out
            rw [pgo_bad HZN.out (by rw [← hE.out]; exact hE0), ← hE.out] at this
            simpa using this
          clear hE0 hdl hdz
          go_wp2_with fail
          refine HPF.out.mono ?_; rintro e w1 ⟨rfl, b1⟩
          have A1 := Lib.hid b1
          have I1 := Lib.hid (HVI.out.below b1)
          have W1 := Lib.hid (own_stay HW.out b1 (Nat.le_refl _))
          have B1 := Lib.hid (belT HL.out b1)
          clear b1 hcv
          go_wp2_with (first | (refine wpList_alloc_obj rfl 32 rfl rz HZ.out ?_; intro w2 g2 b2; have R2 := Lib.hid g2; have A2 := Lib.hid b2; have B2 := Lib.hid (belT B1.out b2); clear g2 b2) | (refine wpList_store_obj rfl 32 _ _ rfl w1.heap.size rfl [.string K, .string D] rz rfl 32 R2.out HO.out.2 rfl (rec_one _ _) ?_; intro w3 g3 t3; have R3 := Lib.hid g3; have A3 := Lib.hid (A2.out.trans (t3.below (Nat.le_refl w1.heap.size))); have I3 := Lib.hid (I1.out.below A3.out); have W3 := Lib.hid (own_stay W1.out A3.out (Nat.le_refl _)); have B3 := Lib.hid (belT B1.out A3.out); have c0 := g3.get 0 rfl; have c1 := g3.get 1 rfl; clear g3 t3))
          clear c1
          go_quiet (fail)
          go_wp2
          go_ret3
          obtain ⟨r1, r2, r3⟩ := R0.out
          rw [← r1, ← r2, ← r3]
          exact .nil (B3.out.trans (drewN_below _ _ _))
      · obtain rfl : at_ = n := by omega
        have q1 : ¬ (at_ : Int) < at_ := by omega
        have R0 : Hid (out = PR ∧ at_ = PN ∧ (0 : Int) = PE) := by
          show _ ∧ _ ∧ _
          have := HG.out
          rw [pgo_stop (by rw [HNL.out]; exact Nat.le_refl _), HNL.out] at this
          simpa using this
        clear hlt
        go_wp2
        go_ret3
        obtain ⟨r1, r2, r3⟩ := R0.out
        rw [← r1, ← r2, ← r3]
        exact ⟨va, out.length, vc, rfl, rfl, HVC.out, HVM.out, HVI.out, HL.out⟩

theorem rparse_any (a : Option Addr) (n cap : Nat) (zs : List Int) (w : World) (hn : zs.length = n) (hc : n ≤ cap) (hz : ∀ z ∈ zs, 0 ≤ z ∧ z ≤ 255) (hi : BytesIn w a zs) (hN : n ≤ 300000) :
    Calls Tryd.prog 21 #[.slice a n cap] w (RetRecs (parZ zs).1 (parZ zs).2.1 (parZ zs).2.2 w) := by
  rcases hi with rfl | ⟨bb, off, rfl, hlt, hr⟩
  · obtain rfl : n = 0 := hn.symm
    exact rparse_nil a cap w
  · exact rparse_some bb off n cap zs w hn hc hz hlt hr hN
end Go.Proofs.YtjmnhnijmaceeaaDoor.Pxr
