/-
  Layer 9: PaxrecConcatenation, walked.
-/
import Derived.Test.YtjmnhnijmaceeaaDoorPxrLib
import Derived.Test.YtjmnhnijmaceeaaDoorRecsArg
namespace Go.Proofs.YtjmnhnijmaceeaaDoor
open Go.RowKit Pxr

set_option maxHeartbeats 8000000 in
set_option maxRecDepth 100000 in
theorem walk_PaxrecConcatenation (a : Option Addr) (n cap : Nat) (rs : List Rec) (w : World) (V : Vars w) (h : ArgRecs w a n cap rs) :
    Calls Tryd.prog 7 #[.slice a n cap] w fun e w' => e = .returned (.bool true) ∧ Below w.heap.size w w' := by
  obtain ⟨hn, hc, hm, hR, hv⟩ := h
  have HV := Lib.hid V; have HR := Lib.hid hR; have HN := Lib.hid hn
  have HA := Lib.hid fun (w' : World) (hb : Below w.heap.size w w') => alive_any w' (V.go hb)
  have F := Lib.hid (format_any a n cap rs w V (fun r hr => by have := (hv r hr).2; unfold maxLen; omega) hn hc hm hR)
  obtain ⟨E, hE⟩ := named (fmE [] rs)
  obtain ⟨X, hX⟩ := named (fmR rs)
  rw [← hE.out, ← hX.out] at F
  by_cases h50 : 50 < n
  · have m1 : (50 : Int) < n := by omega
    clear V hR hn hv h50 hc hm
    go_enter Tryd.func7, Tryd.ntmps7
    go_wp2_with fail
    refine F.out.mono ?_; rintro e w1 ⟨p1, l1, c1, rfl, _, _, _, _, b1⟩
    have B1 := Lib.hid b1; clear b1
    go_wp2_with fail
    refine (HA.out _ B1.out).mono ?_; rintro e w2 ⟨rfl, b2⟩
    go_wp2
    go_ret
    exact ⟨rfl, belT B1.out b2⟩
  · have m1 : ¬ (50 : Int) < n := by omega
    have S := Lib.hid fun (w' : World) (hb : Below w.heap.size w w') => lsize_any a n cap rs w' hv hn (by omega) (hR.below hb)
    obtain ⟨t, ht⟩ := named ((tot rs : Nat) : Int)
    rw [← ht.out] at S
    by_cases htot : 200000 < tot rs
    · have m2 : (200000 : Int) < t := by rw [ht.out]; omega
      clear V hR hn hv h50 hc hm htot
      go_enter Tryd.func7, Tryd.ntmps7
      go_wp2_with fail
      refine F.out.mono ?_; rintro e w1 ⟨p1, l1, c1, rfl, _, _, _, _, b1⟩
      have B1 := Lib.hid b1; clear b1
      go_wp2_with fail
      refine (S.out _ B1.out).mono ?_; rintro e w2 ⟨rfl, b2⟩
      have B2 := Lib.hid (belT B1.out b2); clear b2
      go_wp2_with fail
      refine (HA.out _ B2.out).mono ?_; rintro e w3 ⟨rfl, b3⟩
      go_wp2
      go_ret
      exact ⟨rfl, belT B2.out b3⟩
    · have m2 : ¬ (200000 : Int) < t := by rw [ht.out]; omega
      by_cases hE0 : E = 0
      · have HFM := Lib.hid (hE.out.symm.trans hE0)
        have HX : Hid (X = fmB rs) := by show _ = _; rw [hX.out]; unfold fmR; rw [if_pos HFM.out]
        have HGD := Lib.hid (fmE_good rs [] HFM.out)
        have HLE := Lib.hid (fmB_le HFM.out)
        have HZ := Lib.hid recZ; have HO := Lib.hid recO; have hJ := Lib.hid recJ
        have HUnd := Lib.hid Tryd.underlying22
        subst hE0
        clear V hR hn hv h50 hc hm htot
        go_enter Tryd.func7, Tryd.ntmps7
        go_wp2_with fail
        refine F.out.mono ?_; rintro e w1 ⟨p1, l1, c1, rfl, hl1, _, _, i1, b1⟩
        have B1 := Lib.hid b1; have I1 := Lib.hid i1; have L1 := Lib.hid hl1; clear b1 i1 hl1
        go_wp2_with fail
        refine (S.out _ B1.out).mono ?_; rintro e w2 ⟨rfl, b2⟩
        have B2 := Lib.hid (belT B1.out b2); have I2 := Lib.hid (I1.out.below b2); clear b2
        go_wp2_with fail
        go_loopw [5, 6, 31] (fun s t i wr => ∃ (j : Nat) (z : Int), i = .int .i64 j ∧ t = .int .i64 z ∧ j ≤ n ∧ s = .string (strOfNums (fmB (rs.take j))) ∧ Hid (z = ((fmB (rs.take j)).length : Nat)) ∧ 0 ≤ z ∧ z ≤ 200000 ∧ Below w2.heap.size w2 wr) (fun _ _ i _ => n - (intOf i).toNat)
        case atStart => exact ⟨0, 0, rfl, rfl, Nat.zero_le _, rfl, rfl, Int.le_refl _, by decide, Below.refl _ _⟩
        case round =>
          obtain ⟨j, z, rfl, rfl, hj, rfl, HJ, z0, z1, hb⟩ := hrel
          have HL := Lib.hid hb; have BL := Lib.hid (belT B2.out hb)
          clear hb
          obtain ⟨U, hU⟩ := named (strOfNums (fmB (rs.take j)))
          rw [← hU.out]
          have hUn : Hid (numsOf U = fmB (rs.take j)) := by show _ = _; rw [hU.out]; exact numsOf_strOfNums (fmB_bd _)
          have us : (U.size : Int) ≤ 200000 := by rw [← numsOf_length, hUn.out]; have := HJ.out; omega
          by_cases hjn : j < n
          · obtain ⟨r, hr⟩ := get_some (show j < rs.length by rw [HN.out]; exact hjn)
            have hg := HGD.out _ (List.mem_of_getElem? hr)
            have htake : rs.take (j + 1) = rs.take j ++ [r] := by
              have hl : j < rs.length := (List.getElem?_eq_some_iff.1 hr).1
              rw [List.take_succ_eq_append_getElem hl, (List.getElem?_eq_some_iff.1 hr).2]
            have FT := Lib.hid (show fmB (rs.take (j + 1)) = fmB (rs.take j) ++ enR r by rw [htake, fmB_snoc])
            have hle := HLE.out (j + 1)
            obtain ⟨K, D⟩ := r
            have G := hg.1
            have go : oth (K, D) ≤ 1000000 := by have := G.oth; omega
            have gl := enR_len go
            rw [FT.out, List.length_append, gl] at hle
            obtain ⟨b, off, rfl, _, c0', c1'⟩ := (HR.out.below BL.out).get j _ hr
            have c0 : wr.cell? ⟨b, off + j * 2, none⟩ = some (.string K) := c0'
            have c1 : wr.cell? ⟨b, off + j * 2 + 1, none⟩ = some (.string D) := c1'
            have j1 : (j : Int) < n := by omega
            have e1 : fmE [] [(K, D)] = 0 := by
              rw [fmE_cons]
              have : chkN [] (K, D) = 0 := by unfold chkN; rw [if_neg (by rw [hg.2]; simp), prev_none]; rfl
              rw [this, if_neg (by simp)]; rfl
            have e2 : fmR [(K, D)] = enR (K, D) := by unfold fmR; rw [if_pos e1, fmB_cons, fmB_nil, List.append_nil]
            have FO := Lib.hid fun (p : Option Addr) (w' : World) (hb : Below wr.heap.size wr w') (hr : RecsIn w' p [(K, D)]) => format_any p 1 1 [(K, D)] w' (HV.out.go (belT BL.out hb)) (by intro q hq; rw [List.mem_singleton.1 hq]; have := G.val; unfold maxLen; omega) rfl (Nat.le_refl _) (by decide) hr
            rw [e1, e2] at FO
            have SA := Lib.hid fun (w' : World) (hb : Below wr.heap.size wr w') => size_any K D w' (HV.out.go (belT BL.out hb)) go
            obtain ⟨Z, hZ⟩ := named ((szR (K, D) : Nat) : Int)
            rw [← hZ.out] at SA
            obtain ⟨Y, hY⟩ := named (strOfNums (enR (K, D)))
            have hYn : Hid (numsOf Y = enR (K, D)) := by show _ = _; rw [hY.out]; exact numsOf_strOfNums (enR_bd _)
            have GL := Lib.hid gl
            have ys : (Y.size : Int) ≤ 200000 := by rw [← numsOf_length, hYn.out, gl]; have := G.sz; omega
            have hZ0 : 0 ≤ Z := by rw [hZ.out]; omega
            have hZ1 : Z ≤ 200000 := by rw [hZ.out]; have := G.sz; omega
            have HZ2 : Hid (z + Z = ((fmB (rs.take (j + 1))).length : Nat)) := by
              show _ = _
              rw [FT.out, List.length_append, gl, hZ.out]; have := HJ.out; omega
            have HZ3 : Hid (z + Z ≤ 200000) := by show _ ≤ _; rw [hZ.out]; have := HJ.out; omega
            have HST : Hid (U ++ Y = strOfNums (fmB (rs.take (j + 1)))) := by
              show _ = _
              apply nums_inj
              rw [nums_cat, hUn.out, hYn.out, numsOf_strOfNums (fmB_bd _), FT.out]
            clear c0' c1' hr hg htake hle G go gl e1 e2 hjn
            go_wp2_with (first | (refine wpList_alloc_obj rfl 32 rfl rz HZ.out ?_; intro w4 g4 b4; have R4 := Lib.hid g4; have A4 := Lib.hid b4; clear g4 b4) | (refine wpList_store_obj rfl 32 _ _ rfl wr.heap.size rfl [.string K, .string D] rz rfl 32 R4.out HO.out.2 rfl (rec_one _ _) ?_; intro w5 g5 t5; have R5 := Lib.hid g5; have A5 := Lib.hid (A4.out.trans (t5.below (Nat.le_refl wr.heap.size))); have d0 := g5.get 0 rfl; have d1 := g5.get 1 rfl; clear g5 t5 c0 c1) | (refine wpList_lit_rec rfl _ 32 _ rfl HUnd.out _ hJ.out K D rfl ?_; intro w6 g6 b6; have G6 := Lib.hid g6; have R6 := Lib.hid (R5.out.below b6 R5.out.lt); have A6 := Lib.hid (A5.out.trans (b6.mono A5.out.size)); clear g6 b6 d0 d1))
            have HR6 : Hid (RecsIn w6 (some ⟨w5.heap.size, 0, none⟩) [(K, D)]) := by
              refine .inr ⟨w5.heap.size, 0, rfl, (Array.getElem?_eq_some_iff.1 G6.out).1, fun i r hi => ?_⟩
              obtain rfl : i = 0 := by
                rcases Nat.eq_zero_or_pos i with h | h
                · exact h
                · rw [List.getElem?_eq_none (by simp; omega)] at hi; cases hi
              obtain rfl : r = (K, D) := (Option.some.inj hi).symm
              rw [World.cell?, World.cell?, G6.out]
              exact ⟨rfl, rfl⟩
            refine (FO.out _ _ A6.out HR6.out).mono ?_; rintro e w7 ⟨p7, l7, c7, rfl, hl7, _, _, i7, b7⟩
            have R7 := Lib.hid (R6.out.below b7 R6.out.lt); have A7 := Lib.hid (A6.out.trans (b7.mono A6.out.size)); have I7 := Lib.hid i7; have L7 := Lib.hid hl7
            clear b7 i7 hl7
            have d0 := R7.out.get 0 rfl
            have d1 := R7.out.get 1 rfl
            go_wp2_with fail
            refine (SA.out _ A7.out).mono ?_; rintro e w8 ⟨rfl, b8⟩
            have R8 := Lib.hid (R7.out.below b8 R7.out.lt); have A8 := Lib.hid (A7.out.trans (b8.mono A7.out.size)); have I8 := Lib.hid (I7.out.below b8)
            clear b8 d0 d1
            have q1 : ((l7 : Int) != Z) = false := by have := L7.out; rw [GL.out] at this; rw [hZ.out, this]; simp
            have hcv := run_str_in (P := Tryd.prog) Tryd.underlying25 Tryd.underlying5 Tryd.underlying9 I8.out l7 c7 L7.out
            rw [← hY.out] at hcv
            have d0 := R8.out.get 0 rfl
            have d1 := R8.out.get 1 rfl
            go_wp2_with fail
            refine (SA.out _ A8.out).mono ?_; rintro e w9 ⟨rfl, b9⟩
            have A9 := Lib.hid (HL.out.trans ((A8.out.trans (b9.mono A8.out.size)).mono HL.out.size))
            clear b9 d0 d1 hcv q1
            go_wp2
            go_roundw
            case rel => exact ⟨j + 1, _, by go_num, rfl, by omega, by rw [← HST.out], HZ2.out, by omega, HZ3.out, A9.out⟩
            case measure => simp [intOf]; omega
          · have hj' : j = n := by omega
            have j1 : ¬ (j : Int) < n := by omega
            have hall : rs.take j = rs := List.take_of_length_le (by rw [HN.out]; omega)
            have q1 : ((l1 : Int) == z) = true := by
              have h1 := L1.out; have h2 := HJ.out; have h3 := HX.out
              rw [hall, ← h3, h1] at h2
              rw [h2]; simp
            have hUX : Hid (strOfNums X = U) := by show _ = _; rw [hU.out, hall, HX.out]
            clear hjn hj' hall
            go_wp2_with fail
            refine (HA.out _ BL.out).mono ?_; rintro e w4 ⟨rfl, b4⟩
            have hcv := run_str_in (P := Tryd.prog) Tryd.underlying25 Tryd.underlying5 Tryd.underlying9 (I2.out.below (HL.out.trans (b4.mono HL.out.size))) l1 c1 L1.out
            rw [hUX.out] at hcv
            have B4 := Lib.hid (belT BL.out b4)
            clear b4
            go_wp2
            go_ret
            exact ⟨rfl, B4.out⟩
      · have m3 : (E != 0) = true := by simpa using hE0
        clear V hR hn hv h50 hc hm htot hE0
        go_enter Tryd.func7, Tryd.ntmps7
        go_wp2_with fail
        refine F.out.mono ?_; rintro e w1 ⟨p1, l1, c1, rfl, _, _, _, _, b1⟩
        have B1 := Lib.hid b1; clear b1
        go_wp2_with fail
        refine (S.out _ B1.out).mono ?_; rintro e w2 ⟨rfl, b2⟩
        have B2 := Lib.hid (belT B1.out b2); clear b2
        go_wp2_with fail
        refine (HA.out _ B2.out).mono ?_; rintro e w3 ⟨rfl, b3⟩
        go_wp2
        go_ret
        exact ⟨rfl, belT B2.out b3⟩
end Go.Proofs.YtjmnhnijmaceeaaDoor
