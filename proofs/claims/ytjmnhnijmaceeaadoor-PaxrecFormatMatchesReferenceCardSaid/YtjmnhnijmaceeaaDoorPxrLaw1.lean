/-
  Layer 9: PaxrecFormatMatchesReference, walked.
-/
import Derived.Test.YtjmnhnijmaceeaaDoorPxrLib
import Derived.Test.YtjmnhnijmaceeaaDoorRecsArg
namespace Go.Proofs.YtjmnhnijmaceeaaDoor
open Go.RowKit Pxr

set_option maxHeartbeats 8000000 in
set_option maxRecDepth 100000 in
theorem walk_PaxrecFormatMatchesReference (a : Option Addr) (n cap : Nat) (rs : List Rec) (w : World) (V : Vars w) (h : ArgRecs w a n cap rs) :
    Calls Tryd.prog 3 #[.slice a n cap] w fun e w' => e = .returned (.bool true) ∧ Below w.heap.size w w' := by
  obtain ⟨hn, hc, hm, hR, hv⟩ := h
  have HV := Lib.hid V; have HR := Lib.hid hR; have HN := Lib.hid hn
  have HA := Lib.hid fun (w' : World) (hb : Below w.heap.size w w') => alive_any w' (V.go hb)
  by_cases h50 : 50 < n
  · have m1 : (50 : Int) < n := by omega
    clear V hR hn hv h50 hc hm
    go_enter Tryd.func3, Tryd.ntmps3
    go_wp2_with fail
    refine (HA.out _ (Below.refl _ _)).mono ?_; rintro e w1 ⟨rfl, b1⟩
    go_wp2
    go_ret
    exact ⟨rfl, b1⟩
  · have m1 : ¬ (50 : Int) < n := by omega
    have S := Lib.hid (lsize_any a n cap rs w hv hn (by omega) hR)
    by_cases htot : 200000 < tot rs
    · obtain ⟨t, ht⟩ := named ((tot rs : Nat) : Int)
      rw [← ht.out] at S
      have m2 : (200000 : Int) < t := by rw [ht.out]; omega
      clear V hR hn hv h50 hc hm htot
      go_enter Tryd.func3, Tryd.ntmps3
      go_wp2_with fail
      refine S.out.mono ?_; rintro e w1 ⟨rfl, b1⟩
      have B1 := Lib.hid b1; clear b1
      go_wp2_with fail
      refine (HA.out _ B1.out).mono ?_; rintro e w2 ⟨rfl, b2⟩
      go_wp2
      go_ret
      exact ⟨rfl, belT B1.out b2⟩
    · have hall : ∀ r ∈ rs, r.1.size + r.2.size ≤ 200000 := fun r hr => by have := tot_mem hr; omega
      have HALL := Lib.hid hall
      obtain ⟨t, ht⟩ := named ((tot rs : Nat) : Int)
      rw [← ht.out] at S
      have m2 : ¬ (200000 : Int) < t := by rw [ht.out]; omega
      have hv2 : ∀ r ∈ rs, r.2.size ≤ maxLen := fun r hr => by have := hall r hr; unfold maxLen; omega
      have F := Lib.hid fun (w' : World) (hb : Below w.heap.size w w') => format_any a n cap rs w' (V.go hb) hv2 hn hc hm (hR.below hb)
      have G := Lib.hid fun (w' : World) (hb : Below w.heap.size w w') => rformat_any a n cap rs w' hv2 hn hc hm (hR.below hb)
      obtain ⟨E, hE⟩ := named (fmE [] rs)
      obtain ⟨X, hX⟩ := named (fmR rs)
      rw [← hE.out, ← hX.out] at F G
      have HZ := Lib.hid recZ; have HO := Lib.hid recO
      clear V hR hn hv h50 hc hm htot hall hv2
      go_enter Tryd.func3, Tryd.ntmps3
      go_wp2_with fail
      refine S.out.mono ?_; rintro e w1 ⟨rfl, b1⟩
      have B1 := Lib.hid b1; clear b1
      go_wp2_with fail
      refine (F.out _ B1.out).mono ?_; rintro e w2 ⟨p1, l1, c1, rfl, hl1, _, _, i1, b2⟩
      have B2 := Lib.hid (belT B1.out b2); have I1 := Lib.hid i1; have L1 := Lib.hid hl1; clear b2 i1 hl1
      go_wp2_with fail
      refine (G.out _ B2.out).mono ?_; rintro e w3 ⟨p2, l2, c2, rfl, hl2, i2, b3⟩
      have J1 := Lib.hid (I1.out.below b3); have J2 := Lib.hid i2; have L2 := Lib.hid hl2; have B3 := Lib.hid (belT B2.out b3); clear b3 i2 hl2
      go_wp2_with fail
      go_loopw [30] (fun i wr => ∃ j : Nat, i = .int .i64 j ∧ j ≤ n ∧ Below w3.heap.size w3 wr) (fun i _ => n - (intOf i).toNat)
      case atStart => exact ⟨0, rfl, Nat.zero_le _, Below.refl _ _⟩
      case round =>
        obtain ⟨j, rfl, hj, hb⟩ := hrel
        have HL := Lib.hid hb; have BL := Lib.hid (belT B3.out hb)
        clear hb
        by_cases hjn : j < n
        · obtain ⟨r, hr⟩ := get_some (show j < rs.length by rw [HN.out]; exact hjn)
          have hmem := HALL.out _ (List.mem_of_getElem? hr)
          obtain ⟨K, D⟩ := r
          obtain ⟨b, off, rfl, _, c0', c1'⟩ := (HR.out.below BL.out).get j _ hr
          have c0 : wr.cell? ⟨b, off + j * 2, none⟩ = some (.string K) := c0'
          have c1 : wr.cell? ⟨b, off + j * 2 + 1, none⟩ = some (.string D) := c1'
          have j1 : (j : Int) < n := by omega
          have go : oth (K, D) ≤ 1000000 := by unfold oth; dsimp only at hmem ⊢; omega
          have gd : D.size ≤ maxLen := by unfold maxLen; dsimp only at hmem; omega
          have CA := Lib.hid fun (w' : World) (hb : Below wr.heap.size wr w') => check_any K D w' (HV.out.go (belT BL.out hb)) gd
          have CB := Lib.hid fun (w' : World) => rcheck_any K D w' gd
          have SA := Lib.hid fun (w' : World) (hb : Below wr.heap.size wr w') => size_any K D w' (HV.out.go (belT BL.out hb)) go
          have SB := Lib.hid fun (w' : World) => rsize_any K D w' go
          obtain ⟨C, hC⟩ := named (chk (K, D))
          obtain ⟨Z, hZ⟩ := named ((szR (K, D) : Nat) : Int)
          rw [← hC.out] at CA CB
          rw [← hZ.out] at SA SB
          have hcc : (C != C) = false := by simp
          have hzz : (Z != Z) = false := by simp
          clear c0' c1' hr hmem hjn go gd
          go_wp2_with (first | (refine wpList_alloc_obj rfl 32 rfl rz HZ.out ?_; intro w4 g4 b4; have R4 := Lib.hid g4; have A4 := Lib.hid b4; clear g4 b4) | (refine wpList_store_obj rfl 32 _ _ rfl wr.heap.size rfl [.string K, .string D] rz rfl 32 R4.out HO.out.2 rfl (rec_one _ _) ?_; intro w5 g5 t5; have R5 := Lib.hid g5; have A5 := Lib.hid (A4.out.trans (t5.below (Nat.le_refl wr.heap.size))); have B5 := Lib.hid (belT HL.out A5.out); clear g5 t5))
          have d0 : ∀ q : Of (fun w' => Below w5.heap.size w5 w'), q.w.cell? ⟨wr.heap.size, 0, none⟩ = some (.string K) := fun q => (R5.out.below q.h R5.out.lt).get 0 rfl
          have d1 : ∀ q : Of (fun w' => Below w5.heap.size w5 w'), q.w.cell? ⟨wr.heap.size, 1, none⟩ = some (.string D) := fun q => (R5.out.below q.h R5.out.lt).get 1 rfl
          clear c0 c1
          go_simp
          refine wp_region_class (S := fun w' => Below w5.heap.size w5 w') (by kernel_rfl) (by kernel_rfl) (Below.refl _ _).drew ?_
          intro hne
          repeat (go_big_quiet_step (first | (go_at_call 13; exact Calls.in_class (CA.out _ (A5.out.trans (Below.mono (Of.h _) A5.out.size))) fun w' hb q => q.trans (hb.mono q.size)) | (go_at_call 14; exact Calls.in_class (CB.out _) fun w' hb q => q.trans (hb.mono q.size)) | (go_at_call 15; exact Calls.in_class (SA.out _ (A5.out.trans (Below.mono (Of.h _) A5.out.size))) fun w' hb q => q.trans (hb.mono q.size)) | (go_at_call 16; exact Calls.in_class (SB.out _) fun w' hb q => q.trans (hb.mono q.size))))
          refine wpQuiet_nil ?_
          rintro wq ⟨q, rfl⟩
          have BQ := Lib.hid (B5.out.trans (Below.mono q.h B5.out.size))
          go_wp2
          go_roundw
          case rel => exact ⟨j + 1, by go_num, by omega, BQ.out⟩
          case measure => simp [intOf]; omega
        · have j1 : ¬ (j : Int) < n := by omega
          clear hjn
          go_wp2_with fail
          refine (HA.out _ BL.out).mono ?_; rintro e w4 ⟨rfl, b4⟩
          have K1 := J1.out.below (HL.out.trans (b4.mono HL.out.size))
          have K2 := J2.out.below (HL.out.trans (b4.mono HL.out.size))
          have hcv1 := run_str_in (P := Tryd.prog) Tryd.underlying25 Tryd.underlying5 Tryd.underlying9 K1 l1 c1 L1.out
          have hcv2 := run_str_in (P := Tryd.prog) Tryd.underlying25 Tryd.underlying5 Tryd.underlying9 K2 l2 c2 L2.out
          obtain ⟨Y, hY⟩ := named (strOfNums X)
          rw [← hY.out] at hcv1 hcv2
          have B4 := Lib.hid (belT BL.out b4)
          clear K1 K2 b4
          go_wp2_with fail
          refine (pkeys_any _ (HV.out.go B4.out)).mono ?_; rintro e w5 ⟨g, rfl, x0, x1, x2, b5⟩
          have B5 := Lib.hid (belT B4.out b5)
          have X0 := Lib.hid x0; have X1 := Lib.hid x1; have X2 := Lib.hid x2
          clear b5 x0 x1 x2 hcv1 hcv2
          go_wp2_with fail
          refine (rkeys_any _).mono ?_; rintro e w6 ⟨g', rfl, y0, y1, y2, b6⟩
          have B6 := Lib.hid (belT B5.out b6)
          have q0 := (b6.cell (p := ⟨g, 0, none⟩) (cell_lt X0.out)).trans X0.out
          have q1 := (b6.cell (p := ⟨g, 1, none⟩) (cell_lt X1.out)).trans X1.out
          have q2 := (b6.cell (p := ⟨g, 2, none⟩) (cell_lt X2.out)).trans X2.out
          have EK := Lib.hid (eqk_any g g' w6 q0 q1 q2 y0 y1 y2)
          clear b6 y0 y1 y2 q0 q1 q2
          go_wp2_with fail
          refine EK.out.mono ?_; rintro e w7 ⟨rfl, b7⟩
          go_wp2
          go_ret
          exact ⟨rfl, belT B6.out b7⟩
end Go.Proofs.YtjmnhnijmaceeaaDoor
