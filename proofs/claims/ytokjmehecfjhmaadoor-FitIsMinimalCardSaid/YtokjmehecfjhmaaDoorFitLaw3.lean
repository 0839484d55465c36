/-
  The statement FitRoundTrip: a walk.
-/
import Derived.Test.YtokjmehecfjhmaaDoorFitB
import Derived.Test.YtokjmehecfjhmaaDoorFitM
import Derived.Test.YtokjmehecfjhmaaDoorPxrFmt
import Derived.Test.YtokjmehecfjhmaaDoorUstChk
namespace Go.Proofs.YtokjmehecfjhmaaDoor.Fit
open Go.RowKit Pxr Pnm

theorem pl_hd {e : Ent} (h : Ok e) : (plH e).nm.size ≤ 100 ∧ (plH e).pf.size ≤ 155 ∧ (plH e).lk.size ≤ 100 ∧ Ust.ckH (plH e).T (plH e).nm (plH e).pf (plH e).lk (plH e).md (plH e).sz = 0 := by
  have hp := path_pos h.path
  have h0 := path_nozero (chE_zero.1 h.path).2
  have hs := spl_nums e.p
  have hN : (0 : Int) ∉ splN (numsOf e.p) ∧ (splN (numsOf e.p)).length ≤ 100 ∧ (0 : Int) ∉ splP (numsOf e.p) ∧ (splP (numsOf e.p)).length ≤ 155 := by
    rcases spl_cases e.p with ⟨_, a, b, c⟩ | ⟨_, _, _, d, e1, e2, _⟩ | ⟨_, a, b, _⟩
    · rw [a, b]; exact ⟨h0, by rw [numsOf_length]; exact c, by simp, by simp⟩
    · refine ⟨fun hm => h0 (by rw [d]; exact List.mem_append_right _ (List.mem_cons_of_mem _ hm)), e2, fun hm => h0 (by rw [d]; exact List.mem_append_left _ hm), e1⟩
    · rw [a, b]; exact ⟨by simp, by simp, by simp, by simp⟩
  have hl : (plH e).lk.size ≤ 100 ∧ (0 : Int) ∉ numsOf (plH e).lk := by
    show (if e.t.size ≤ 100 then e.t else emp).size ≤ 100 ∧ (0 : Int) ∉ numsOf (if e.t.size ≤ 100 then e.t else emp)
    by_cases hc : e.t.size ≤ 100
    · rw [if_pos hc]
      refine ⟨hc, ?_⟩
      rcases (tg_cases h.tg).2.2 with ht | ht
      · rw [ht]; decide
      · intro hm
        unfold chkT at ht
        rw [if_neg (by omega), if_pos (.inr hm)] at ht
        cases ht
    · rw [if_neg hc]; decide
  obtain ⟨s0, s1, _⟩ := sz_cases h.sz
  refine ⟨by show (strOfNums (splN (numsOf e.p))).size ≤ 100; rw [str_len]; exact hN.2.1, by show (strOfNums (splP (numsOf e.p))).size ≤ 155; rw [str_len]; exact hN.2.2.2, hl.1, Ust.ckH_zero.2 ⟨?_, ?_, ?_, ?_, ⟨h.m0, h.m1⟩, ?_⟩⟩
  · have := ty_known h.k0 h.k4
    show Ust.known (tyZ e.k)
    unfold Ust.known; omega
  · refine Cst.ceF_zero.2 ⟨by decide, by decide, ?_, ?_⟩
    · show (0 : Int) ∉ numsOf (strOfNums (splN (numsOf e.p))); rw [hs.2]; exact hN.1
    · show ((numsOf (strOfNums (splN (numsOf e.p)))).length : Int) ≤ 100; rw [hs.2]; have := hN.2.1; omega
  · refine Cst.ceF_zero.2 ⟨by decide, by decide, hl.2, ?_⟩
    rw [numsOf_length]; have := hl.1; omega
  · refine Cst.ceF_zero.2 ⟨by decide, by decide, ?_, ?_⟩
    · show (0 : Int) ∉ numsOf (strOfNums (splP (numsOf e.p))); rw [hs.1]; exact hN.2.2.1
    · show ((numsOf (strOfNums (splP (numsOf e.p)))).length : Int) ≤ 155; rw [hs.1]; have := hN.2.2.2; omega
  · show 0 ≤ (if e.s ≤ 8589934591 then e.s else 0) ∧ (if e.s ≤ 8589934591 then e.s else 0) ≤ 8589934591
    split <;> omega
theorem pl_vals {e : Ent} (h : Ok e) : ∀ r ∈ plL e, r.2.size ≤ 65536 := fun r hr => (good_of (pl_chk h r hr)).val
end Go.Proofs.YtokjmehecfjhmaaDoor.Fit
namespace Go.Proofs.YtokjmehecfjhmaaDoor
open Go.RowKit Go.Proofs.YtokjmehecfjhmaaDoor.Fit Pxr Pnm

set_option maxHeartbeats 8000000 in
set_option maxRecDepth 100000 in
theorem walk_FitRoundTrip (k : Int) (p : ByteArray) (m : Int) (t : ByteArray) (s : Int) (w : World) (V : MVars w) (_ : (Lit.int .i64 k).wf = true) (hp : p.size ≤ maxLen) (_ : (Lit.int .i64 m).wf = true) (ht : t.size ≤ maxLen) (_ : (Lit.int .i64 s).wf = true) :
    Calls Tryd.prog 5 #[.agg (enV k p m t s).toArray] w fun e w' => e = .returned (.bool true) ∧ Below w.heap.size w w' := by
  have PL := Lib.hid fun w' (hb : Below w.heap.size w w') => pplan_any ⟨k, p, m, t, s⟩ w' (V.go hb).f hp ht
  have LG := Lib.hid fun w' => large_any k p m t s w' hp ht
  have AL := Lib.hid fun w' (hb : Below w.heap.size w w') => alive_any w' (V.go hb).f
  have HV := Lib.hid V
  unfold RetP at PL
  have HO := Lib.hid hdTp; have EO := Lib.hid enT
  have HZ := Lib.hid zHp; have EZ := Lib.hid zEn
  have gH : Tryd.prog.eqGuardType Tryd.prog.depth 27 = false := by kernel_rfl
  have gE : Tryd.prog.eqGuardType Tryd.prog.depth 23 = false := by kernel_rfl
  have qE : ∀ w : World, (Op.equalIn 10000 23 (.agg (enV k p m t s).toArray) (.agg (enV k p m t s).toArray)).run Tryd.prog w = .ok true w := fun w => by rw [run_eqE]; simp
  have q0 : ∀ w : World, (Op.equalIn 10000 27 (.agg (Ust.hd0).toArray) (.agg (Ust.hd0).toArray)).run Tryd.prog w = .ok true w := fun w => by
    rw [Ust.run_eqH 27 Tryd.underlying27 (by kernel_rfl)]; simp
  by_cases hE : ckE ⟨k, p, m, t, s⟩ = 0
  · have hok := ck_ok.1 hE
    obtain ⟨e2, e3⟩ := pl_good_eq hE
    rw [e2, e3, hE] at PL
    obtain ⟨z1, z2, z3, z4⟩ := pl_hd hok
    have HK := Lib.hid z4
    have HLL := Lib.hid (pl_len ⟨k, p, m, t, s⟩)
    have ZZ := Lib.hid (And.intro z1 (And.intro z2 z3))
    have HVL := Lib.hid (pl_vals hok)
    have HG := Lib.hid (pl_good hok)
    have MB := Lib.hid (mg_back hok)
    have BK := Lib.hid (back hok)
    obtain ⟨T, hT⟩ := named (plH ⟨k, p, m, t, s⟩).T
    obtain ⟨nm, hnm⟩ := named (plH ⟨k, p, m, t, s⟩).nm
    obtain ⟨pf, hpf⟩ := named (plH ⟨k, p, m, t, s⟩).pf
    obtain ⟨lk, hlk⟩ := named (plH ⟨k, p, m, t, s⟩).lk
    obtain ⟨md, hmd⟩ := named (plH ⟨k, p, m, t, s⟩).md
    obtain ⟨sz, hsz⟩ := named (plH ⟨k, p, m, t, s⟩).sz
    obtain ⟨L, hL⟩ := named (plL ⟨k, p, m, t, s⟩)
    have HH : Hid (plH ⟨k, p, m, t, s⟩ = ⟨T, nm, pf, lk, md, sz⟩) := by show _ = _; rw [hT.out, hnm.out, hpf.out, hlk.out, hmd.out, hsz.out]
    rw [← hT.out, ← hnm.out, ← hpf.out, ← hlk.out, ← hmd.out, ← hsz.out, ← hL.out] at PL
    rw [← hT.out, ← hnm.out, ← hpf.out, ← hlk.out, ← hmd.out, ← hsz.out] at HK
    rw [← hnm.out, ← hpf.out, ← hlk.out] at ZZ
    rw [HH.out, ← hL.out] at MB BK
    rw [← hL.out] at HLL HVL HG
    have hT01 : 0 ≤ T ∧ T ≤ 255 := by
      have := ty_known hok.k0 hok.k4
      have e : T = tyZ k := hT.out
      dsimp only at this
      omega
    have UC := Lib.hid fun w' => Ust.check_any T nm pf lk md sz w' (by have := ZZ.out; unfold maxLen; omega) (by have := ZZ.out; unfold maxLen; omega) (by have := ZZ.out; unfold maxLen; omega) hT01
    rw [HK.out] at UC
    clear hT hnm hpf hlk hmd hsz hL HH HK e2 e3 z1 z2 z3 z4 hok hE V hp ht hT01 q0
    go_enter Tryd.func5, Tryd.ntmps5
    go_wp2_with (first | (refine wpList_box_obj rfl 23 _ rfl (enV k p m t s) rfl ?_; intro w1 g1 b1; have E1 := Lib.hid g1; have B1 := Lib.hid b1; have c0 := E1.out.get 0 rfl; have c1 := E1.out.get 1 rfl; have c2 := E1.out.get 2 rfl; have c3 := E1.out.get 3 rfl; have c4 := E1.out.get 4 rfl; clear g1 b1))
    refine (LG.out w1).mono ?_; rintro e w2 ⟨BB, rfl, hBB, b2⟩
    have E2 := Lib.hid (E1.out.below b2 E1.out.lt)
    have B2 := Lib.hid (belT B1.out b2)
    clear b2 c0 c1 c2 c3 c4
    rcases hBB with rfl | rfl
    · have c0 := E2.out.get 0 rfl; have c1 := E2.out.get 1 rfl; have c2 := E2.out.get 2 rfl; have c3 := E2.out.get 3 rfl; have c4 := E2.out.get 4 rfl
      go_wp2_with fail
      refine (PL.out w2 B2.out).mono ?_; rintro e w3 ⟨b, n, c, rfl, hn, hc, hm, hR, b3⟩
      have E3 := Lib.hid (E2.out.below b3 E2.out.lt)
      have I3 := Lib.hid hR
      have B3 := Lib.hid (belT B2.out b3)
      have HN := Lib.hid hn; have HC := Lib.hid hc; have HM := Lib.hid hm
      clear b3 hR hn hc hm c0 c1 c2 c3 c4
      go_wp2_with (first | (refine wpList_alloc_obj rfl 27 rfl Ust.hd0 HZ.out ?_; intro w4 g4 b4; have R4 := Lib.hid g4; have A4 := Lib.hid b4; clear g4 b4) | (refine wpList_store_obj rfl 27 _ _ rfl w3.heap.size rfl (Ust.hdV T nm pf lk md sz) Ust.hd0 rfl 27 R4.out HO.out.2 rfl (hd_one _ _ _ _ _ _) ?_; intro w5 g5 t5; have X5 := Lib.hid g5; have A5 := Lib.hid (A4.out.trans (t5.below (Nat.le_refl _))); have B5 := Lib.hid (belT B3.out A5.out); have E5 := Lib.hid (E3.out.below A5.out E3.out.lt); have I5 := Lib.hid (I3.out.below A5.out); have d0 := X5.out.get 0 rfl; have d1 := X5.out.get 1 rfl; have d2 := X5.out.get 2 rfl; have d3 := X5.out.get 3 rfl; have d4 := X5.out.get 4 rfl; have d5 := X5.out.get 5 rfl; clear g5 t5))
      have MA := merge_any T nm pf lk md sz b n c L w5 (HV.out.go B5.out) (by have := ZZ.out; omega) (by have := ZZ.out; omega) (by have := ZZ.out; omega) (fun r hr => Nat.le_trans (HVL.out r hr) (by decide)) HN.out I5.out (by have := HLL.out; have := HN.out; omega)
      refine MA.mono ?_; rintro e w6 ⟨x, Em, rfl, hres, b6⟩
      obtain ⟨hx, rfl⟩ : x = ⟨k, p, m, t, s⟩ ∧ Em = 0 := by
        rcases hres with ⟨_, h1, h2⟩ | ⟨h1, _, _⟩
        · exact ⟨h1.trans BK.out, h2⟩
        · exact absurd MB.out h1
      subst hx
      have E6 := Lib.hid (E5.out.below b6 E5.out.lt)
      have X6 := Lib.hid (X5.out.below b6 X5.out.lt)
      have I6 := Lib.hid (I5.out.below b6)
      have B6 := Lib.hid (belT B5.out b6)
      clear b6 d0 d1 d2 d3 d4 d5 hres MA MB BK
      go_wp2_with (first | (refine wpList_alloc_obj rfl 23 rfl (enV 0 emp 0 emp 0) EZ.out ?_; intro w7 g7 b7; have R7 := Lib.hid g7; have A7 := Lib.hid b7; clear g7 b7) | (refine wpList_store_obj rfl 23 _ _ rfl w6.heap.size rfl (enV k p m t s) (enV 0 emp 0 emp 0) rfl 23 R7.out EO.out.2 rfl (en_one _ _ _ _ _) ?_; intro w8 g8 t8; have Y8 := Lib.hid g8; have A8 := Lib.hid (A7.out.trans (t8.below (Nat.le_refl _))); have E8 := Lib.hid (E6.out.below A8.out E6.out.lt); have X8 := Lib.hid (X6.out.below A8.out X6.out.lt); have I8 := Lib.hid (I6.out.below A8.out); have B8 := Lib.hid (belT B6.out A8.out); clear g8 t8))
      have FM := format_any b n c L w8 (HV.out.go B8.out).f.v (fun r hr => Nat.le_trans (HVL.out r hr) (by unfold maxLen; decide)) HN.out HC.out HM.out I8.out
      rw [HG.out] at FM
      refine FM.mono ?_; rintro e w9 ⟨fb, fm, fc, rfl, _, _, _, _, b9⟩
      have E9 := Lib.hid (E8.out.below b9 E8.out.lt)
      have X9 := Lib.hid (X8.out.below b9 X8.out.lt)
      have Y9 := Lib.hid (Y8.out.below b9 Y8.out.lt)
      have B9 := Lib.hid (belT B8.out b9)
      clear b9 FM
      go_wp2_with fail
      refine (AL.out w9 B9.out).mono ?_; rintro e w10 ⟨rfl, b10⟩
      have B10 := Lib.hid (belT B9.out b10)
      have E10 := Lib.hid (E9.out.below b10 E9.out.lt)
      have X10 := Lib.hid (X9.out.below b10 X9.out.lt)
      have Y10 := Lib.hid (Y9.out.below b10 Y9.out.lt)
      have c0 := E10.out.get 0 rfl; have c1 := E10.out.get 1 rfl; have c2 := E10.out.get 2 rfl; have c3 := E10.out.get 3 rfl; have c4 := E10.out.get 4 rfl
      have d0 := X10.out.get 0 rfl; have d1 := X10.out.get 1 rfl; have d2 := X10.out.get 2 rfl; have d3 := X10.out.get 3 rfl; have d4 := X10.out.get 4 rfl; have d5 := X10.out.get 5 rfl
      have f0 := Y10.out.get 0 rfl; have f1 := Y10.out.get 1 rfl; have f2 := Y10.out.get 2 rfl; have f3 := Y10.out.get 3 rfl; have f4 := Y10.out.get 4 rfl
      clear b10
      go_wp2_with fail
      refine (UC.out w10).mono ?_; rintro e w11 ⟨rfl, b11⟩
      have B11 := Lib.hid (belT B10.out b11)
      clear b11
      go_wp2
      go_ret
      exact ⟨rfl, B11.out⟩
    · go_wp2_with fail
      refine (AL.out w2 B2.out).mono ?_; rintro e w3 ⟨rfl, b3⟩
      have B3 := Lib.hid (belT B2.out b3)
      clear b3
      go_wp2
      go_ret
      exact ⟨rfl, B3.out⟩
  · obtain ⟨e2, e3⟩ := pl_bad_eq hE
    rw [e2, e3] at PL
    obtain ⟨E, hEn⟩ := named (ckE ⟨k, p, m, t, s⟩)
    rw [← hEn.out] at PL
    have n0 : (E != 0) = true := by rw [hEn.out]; simpa using hE
    clear hEn hE e2 e3 V hp ht qE gE
    go_enter Tryd.func5, Tryd.ntmps5
    go_wp2_with (first | (refine wpList_box_obj rfl 23 _ rfl (enV k p m t s) rfl ?_; intro w1 g1 b1; have E1 := Lib.hid g1; have B1 := Lib.hid b1; have c0 := E1.out.get 0 rfl; have c1 := E1.out.get 1 rfl; have c2 := E1.out.get 2 rfl; have c3 := E1.out.get 3 rfl; have c4 := E1.out.get 4 rfl; clear g1 b1))
    refine (LG.out w1).mono ?_; rintro e w2 ⟨BB, rfl, hBB, b2⟩
    have E2 := Lib.hid (E1.out.below b2 E1.out.lt)
    have B2 := Lib.hid (belT B1.out b2)
    clear b2 c0 c1 c2 c3 c4
    rcases hBB with rfl | rfl
    · have c0 := E2.out.get 0 rfl; have c1 := E2.out.get 1 rfl; have c2 := E2.out.get 2 rfl; have c3 := E2.out.get 3 rfl; have c4 := E2.out.get 4 rfl
      go_wp2_with fail
      refine (PL.out w2 B2.out).mono ?_; rintro e w3 ⟨b, n, c, rfl, hn, hc, hm, hR, b3⟩
      have E3 := Lib.hid (E2.out.below b3 E2.out.lt)
      have I3 := Lib.hid hR
      have B3 := Lib.hid (belT B2.out b3)
      have HN := Lib.hid hn; have HC := Lib.hid hc; have HM := Lib.hid hm
      clear b3 hR hn hc hm c0 c1 c2 c3 c4
      obtain rfl : n = 0 := HN.out.symm
      go_wp2_with (first | (refine wpList_alloc_obj rfl 27 rfl Ust.hd0 HZ.out ?_; intro w4 g4 b4; have R4 := Lib.hid g4; have A4 := Lib.hid b4; clear g4 b4) | (refine wpList_store_obj rfl 27 _ _ rfl w3.heap.size rfl (Ust.hd0) Ust.hd0 rfl 27 R4.out HO.out.2 rfl (hd_one _ _ _ _ _ _) ?_; intro w5 g5 t5; have X5 := Lib.hid g5; have A5 := Lib.hid (A4.out.trans (t5.below (Nat.le_refl _))); have B5 := Lib.hid (belT B3.out A5.out); have J5 := Lib.hid A5.out; clear g5 t5))
      refine (AL.out w5 B5.out).mono ?_; rintro e w6 ⟨rfl, b6⟩
      have B6 := Lib.hid (belT B5.out b6)
      have H6 := Lib.hid (X5.out.below b6 X5.out.lt)
      have d0 := H6.out.get 0 rfl; have d1 := H6.out.get 1 rfl; have d2 := H6.out.get 2 rfl; have d3 := H6.out.get 3 rfl; have d4 := H6.out.get 4 rfl; have d5 := H6.out.get 5 rfl
      clear b6
      go_wp2
      go_ret
      exact ⟨rfl, B6.out⟩
    · go_wp2_with fail
      refine (AL.out w2 B2.out).mono ?_; rintro e w3 ⟨rfl, b3⟩
      have B3 := Lib.hid (belT B2.out b3)
      clear b3
      go_wp2
      go_ret
      exact ⟨rfl, B3.out⟩
end Go.Proofs.YtokjmehecfjhmaaDoor
