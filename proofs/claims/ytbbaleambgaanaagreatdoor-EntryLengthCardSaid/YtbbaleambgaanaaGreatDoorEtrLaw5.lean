/-
  The statement EntryLength: a walk.
-/
import Derived.Test.YtbbaleambgaanaaGreatDoorPk20
import Derived.Test.YtbbaleambgaanaaGreatDoorPk17
namespace Go.Proofs.YtbbaleambgaanaaGreatDoor
open Go.RowKit Go.Proofs.YtbbaleambgaanaaGreatDoor.Fit Pxr Pnm Etr

theorem Etr.enZ_head {e : Ent} (h : ckE e = 0) (h0 : (plL e).length ≠ 0) : (enZ e).take 4 = [112, 97, 120, 0] ∧ (enZ e).getD 156 0 = 120 ∧ 1536 ≤ (enZ e).length ∧ (enZ e).length % 512 = 0 ∧ (enZ e).length ≤ 300000 := by
  have hf := fm_len h
  have hp := fm_pos h0
  obtain ⟨l1, l2⟩ := en_len h
  rw [if_neg h0] at l2
  have hc := hX_ck (n := (fmB (plL e)).length) (by omega)
  obtain ⟨f1, _, _, f4, _, _⟩ := Ust.enc_fields hc
  have hl : (hdB (hX (fmB (plL e)).length)).length = 512 := (hd_dec hc).2.2.1
  have f1' : (hdB (hX (fmB (plL e)).length)).take 100 = Cst.fldS (numsOf kPax) 100 := f1
  have f4' : (hdB (hX (fmB (plL e)).length)).getD 156 0 = 120 := f4
  rw [enZ_more h h0, List.append_assoc]
  rw [enZ_more h h0, List.append_assoc] at l1
  rw [l1, l2]
  refine ⟨?_, ?_, by unfold blkN; omega, by omega, by unfold blkN; omega⟩
  · rw [List.take_append_of_le_length (by omega)]
    have := congrArg (List.take 4) f1'
    rw [List.take_take] at this
    rw [show min 4 100 = 4 by decide] at this
    rw [this]
    decide
  · rw [List.getD_eq_getElem?_getD, List.getElem?_append_left (by omega), ← List.getD_eq_getElem?_getD]
    exact f4'

set_option maxHeartbeats 8000000 in
set_option maxRecDepth 100000 in
theorem walk_EntryLength (k : Int) (p : ByteArray) (m : Int) (t : ByteArray) (s : Int) (w : World) (V : FVars w) (_ : (Lit.int .i64 k).wf = true) (hp : p.size ≤ maxLen) (_ : (Lit.int .i64 m).wf = true) (ht : t.size ≤ maxLen) (_ : (Lit.int .i64 s).wf = true) :
    Calls Tryz.prog 7 #[.agg (enV k p m t s).toArray] w fun e w' => e = .returned (.bool true) ∧ Below w.heap.size w w' := by
  have EN := Lib.hid fun w' (hb : Below w.heap.size w w') => penc_any ⟨k, p, m, t, s⟩ w' (V.go hb) hp ht
  have PL := Lib.hid fun w' (hb : Below w.heap.size w w') => pplan_any ⟨k, p, m, t, s⟩ w' (V.go hb) hp ht
  have CK := Lib.hid fun w' (hb : Below w.heap.size w w') => pcheck_any k p m t s w' (V.go hb) hp ht
  have LG := Lib.hid fun w' => large_any k p m t s w' hp ht
  have AL := Lib.hid fun w' (hb : Below w.heap.size w w') => Etr.alive_any w' (V.go hb)
  unfold RetP at PL
  have HO := Lib.hid hdTp; have HZ := Lib.hid zHp
  by_cases hE : ckE ⟨k, p, m, t, s⟩ = 0
  · obtain ⟨e2, e3⟩ := pl_good_eq hE
    rw [e2, e3, hE] at PL
    rw [hE] at EN CK
    have E1L := Lib.hid (en_len hE)
    have EHD := Lib.hid (enZ_head hE)
    obtain ⟨R, hR⟩ := named (enZ ⟨k, p, m, t, s⟩)
    obtain ⟨Q, hQ⟩ := named (enL ⟨k, p, m, t, s⟩)
    obtain ⟨T, hT⟩ := named (plH ⟨k, p, m, t, s⟩).T
    obtain ⟨nm, hnm⟩ := named (plH ⟨k, p, m, t, s⟩).nm
    obtain ⟨pf, hpf⟩ := named (plH ⟨k, p, m, t, s⟩).pf
    obtain ⟨lk, hlk⟩ := named (plH ⟨k, p, m, t, s⟩).lk
    obtain ⟨md, hmd⟩ := named (plH ⟨k, p, m, t, s⟩).md
    obtain ⟨sz, hsz⟩ := named (plH ⟨k, p, m, t, s⟩).sz
    obtain ⟨L, hL⟩ := named (plL ⟨k, p, m, t, s⟩)
    rw [← hT.out, ← hnm.out, ← hpf.out, ← hlk.out, ← hmd.out, ← hsz.out, ← hL.out] at PL
    rw [← hR.out] at EN
    rw [← hR.out, ← hQ.out, ← hL.out] at E1L
    rw [← hR.out, ← hL.out] at EHD
    clear hT hnm hpf hlk hmd hsz hE e2 e3 V hp ht
    go_enter Tryz.func7, Tryz.ntmps7
    go_wp2_with (first | (refine wpList_box_obj rfl 23 _ rfl (enV k p m t s) rfl ?_; intro w1 g1 b1; have E1 := Lib.hid g1; have B1 := Lib.hid b1; have c0 := E1.out.get 0 rfl; have c1 := E1.out.get 1 rfl; have c2 := E1.out.get 2 rfl; have c3 := E1.out.get 3 rfl; have c4 := E1.out.get 4 rfl; clear g1 b1))
    refine (EN.out w1 B1.out).mono ?_; rintro e w2 ⟨b, n, c, rfl, hn, hc, hm, hI, _, b2⟩
    have E2 := Lib.hid (E1.out.below b2 E1.out.lt)
    have B2 := Lib.hid (belT B1.out b2)
    have I2 := Lib.hid hI; have HN := Lib.hid hn; have HC := Lib.hid hc; have HM := Lib.hid hm
    clear b2 hn hc hm hI c0 c1 c2 c3 c4
    have c0 := E2.out.get 0 rfl; have c1 := E2.out.get 1 rfl; have c2 := E2.out.get 2 rfl; have c3 := E2.out.get 3 rfl; have c4 := E2.out.get 4 rfl
    go_wp2_with fail
    refine (LG.out w2).mono ?_; rintro e w3 ⟨BB, rfl, hBB, b3⟩
    have E3 := Lib.hid (E2.out.below b3 E2.out.lt)
    have B3 := Lib.hid (belT B2.out b3)
    have I3 := Lib.hid (I2.out.below b3)
    clear b3 c0 c1 c2 c3 c4
    rcases hBB with rfl | rfl
    · have c0 := E3.out.get 0 rfl; have c1 := E3.out.get 1 rfl; have c2 := E3.out.get 2 rfl; have c3 := E3.out.get 3 rfl; have c4 := E3.out.get 4 rfl
      go_wp2_with fail
      refine (PL.out w3 B3.out).mono ?_; rintro e w4 ⟨lb, ln, lc, rfl, hln, _, _, _, b4⟩
      have B4 := Lib.hid (belT B3.out b4)
      have I4 := Lib.hid (I3.out.below b4)
      have HLN := Lib.hid hln
      clear b4 hln c0 c1 c2 c3 c4
      by_cases h0 : ln = 0
      · subst h0
        obtain rfl : n = 512 := by have := E1L.out.1; rw [E1L.out.2, if_pos HLN.out] at this; rw [← HN.out, this]
        go_wp2_with (first | (refine wpList_alloc_obj rfl 56 rfl Ust.hd0 HZ.out ?_; intro w5 g5 b5; have R5 := Lib.hid g5; have A5 := Lib.hid b5; clear g5 b5) | (refine wpList_store_obj rfl 56 _ _ rfl w4.heap.size rfl (Ust.hdV T nm pf lk md sz) Ust.hd0 rfl 56 R5.out HO.out.2 rfl (hd_one _ _ _ _ _ _) ?_; intro w6 g6 t6; have B6 := Lib.hid (belT B4.out (A5.out.trans (t6.below (Nat.le_refl _)))); clear g6 t6))
        refine (AL.out w6 B6.out).mono ?_; rintro e w7 ⟨rfl, b7⟩
        have B7 := Lib.hid (belT B6.out b7)
        clear b7
        go_wp2
        go_ret
        exact ⟨rfl, B7.out⟩
      · have hl0 : ((ln : Int) == 0) = false := by simp [h0]
        obtain ⟨q1, q2, q3, q4, q5⟩ := EHD.out (by rw [HLN.out]; exact h0)
        rw [HN.out] at q3 q4 q5
        have n3 : (1536 : Int) ≤ n := by omega
        have n4 : ((n : Int) % 512 == 0) = true := by
          have : (n : Int) % 512 = 0 := by omega
          rw [this]; rfl
        have n5 : (n : Int) ≤ 300000 := by omega
        have Q1 := Lib.hid q1; have Q2 := Lib.hid q2
        have n6 : 1536 ≤ n := q3
        clear h0 q1 q2 q3 q4 q5
        go_wp2_with (first | (refine wpList_alloc_obj rfl 56 rfl Ust.hd0 HZ.out ?_; intro w5 g5 b5; have R5 := Lib.hid g5; have A5 := Lib.hid b5; clear g5 b5) | (refine wpList_store_obj rfl 56 _ _ rfl w4.heap.size rfl (Ust.hdV T nm pf lk md sz) Ust.hd0 rfl 56 R5.out HO.out.2 rfl (hd_one _ _ _ _ _ _) ?_; intro w6 g6 t6; have B6 := Lib.hid (belT B4.out (A5.out.trans (t6.below (Nat.le_refl _)))); have I6 := Lib.hid (I4.out.below (A5.out.trans (t6.below (Nat.le_refl _)))); clear g6 t6))
        refine (AL.out w6 B6.out).mono ?_; rintro e w7 ⟨rfl, b7⟩
        have B7 := Lib.hid (belT B6.out b7)
        have I7 := Lib.hid (I6.out.below b7)
        clear b7
        obtain ⟨b', off, rfl, _, hrow⟩ : ∃ b' off, b = some ⟨b', off, none⟩ ∧ b' < w7.heap.size ∧ RowAt w7 b' off R := by
          rcases I7.out with h | h
          · have := HN.out; rw [h] at this; simp at this; omega
          · exact h
        have hcell : w7.cell? ⟨b', off + 156, none⟩ = some (.int .u8 120) := by rw [hrow.1 156 (by rw [HN.out]; omega), Q2.out]
        have hconv : (convert 24 9 (.slice (some ⟨b', off, none⟩) 4 c)).run Tryz.prog w7 = .ok (.string { data := #[112, 97, 120, 0] }) w7 := by
          have h := run_str_of Tryz.underlying24 Tryz.underlying5 Tryz.underlying9 (hrow.take 4) 4 c (by rw [Q1.out]; rfl)
          rw [Q1.out] at h
          exact h
        have hc4 : (4 : Int) ≤ c := by have := HC.out; omega
        clear hrow
        go_wp2
        go_ret
        exact ⟨rfl, B7.out⟩
    · go_wp2_with fail
      refine (AL.out w3 B3.out).mono ?_; rintro e w4 ⟨rfl, b4⟩
      have B4 := Lib.hid (belT B3.out b4)
      clear b4
      go_wp2
      go_ret
      exact ⟨rfl, B4.out⟩
  · have HR := Lib.hid (enZ_bad hE)
    obtain ⟨E, hEn⟩ := named (ckE ⟨k, p, m, t, s⟩)
    rw [← hEn.out] at EN CK hE
    obtain ⟨R, hR⟩ := named (enZ ⟨k, p, m, t, s⟩)
    rw [← hR.out] at EN HR
    have n0 : (E != 0) = true := by simp [hE]
    have n1 : (E == 0) = false := by simp [hE]
    clear hEn hE V hp ht PL
    go_enter Tryz.func7, Tryz.ntmps7
    go_wp2_with (first | (refine wpList_box_obj rfl 23 _ rfl (enV k p m t s) rfl ?_; intro w1 g1 b1; have E1 := Lib.hid g1; have B1 := Lib.hid b1; have c0 := E1.out.get 0 rfl; have c1 := E1.out.get 1 rfl; have c2 := E1.out.get 2 rfl; have c3 := E1.out.get 3 rfl; have c4 := E1.out.get 4 rfl; clear g1 b1))
    refine (EN.out w1 B1.out).mono ?_; rintro e w2 ⟨b, n, c, rfl, hn, _, _, _, _, b2⟩
    obtain rfl : n = 0 := by rw [← hn, HR.out]; rfl
    have E2 := Lib.hid (E1.out.below b2 E1.out.lt)
    have B2 := Lib.hid (belT B1.out b2)
    clear b2 hn c0 c1 c2 c3 c4
    have c0 := E2.out.get 0 rfl; have c1 := E2.out.get 1 rfl; have c2 := E2.out.get 2 rfl; have c3 := E2.out.get 3 rfl; have c4 := E2.out.get 4 rfl
    go_wp2_with fail
    refine (LG.out w2).mono ?_; rintro e w3 ⟨BB, rfl, hBB, b3⟩
    have E3 := Lib.hid (E2.out.below b3 E2.out.lt)
    have B3 := Lib.hid (belT B2.out b3)
    clear b3 c0 c1 c2 c3 c4
    rcases hBB with rfl | rfl
    · go_wp2_with fail
      refine (AL.out w3 B3.out).mono ?_; rintro e w4 ⟨rfl, b4⟩
      have E4 := Lib.hid (E3.out.below b4 E3.out.lt)
      have B4 := Lib.hid (belT B3.out b4)
      have c0 := E4.out.get 0 rfl; have c1 := E4.out.get 1 rfl; have c2 := E4.out.get 2 rfl; have c3 := E4.out.get 3 rfl; have c4 := E4.out.get 4 rfl
      clear b4
      go_wp2_with fail
      refine (CK.out w4 B4.out).mono ?_; rintro e w5 ⟨rfl, b5⟩
      have B5 := Lib.hid (belT B4.out b5)
      clear b5
      go_wp2
      go_ret
      exact ⟨rfl, B5.out⟩
    · go_wp2_with fail
      refine (AL.out w3 B3.out).mono ?_; rintro e w4 ⟨rfl, b4⟩
      have E4 := Lib.hid (E3.out.below b4 E3.out.lt)
      have B4 := Lib.hid (belT B3.out b4)
      have c0 := E4.out.get 0 rfl; have c1 := E4.out.get 1 rfl; have c2 := E4.out.get 2 rfl; have c3 := E4.out.get 3 rfl; have c4 := E4.out.get 4 rfl
      clear b4
      go_wp2_with fail
      refine (CK.out w4 B4.out).mono ?_; rintro e w5 ⟨rfl, b5⟩
      have B5 := Lib.hid (belT B4.out b5)
      clear b5
      go_wp2
      go_ret
      exact ⟨rfl, B5.out⟩
end Go.Proofs.YtbbaleambgaanaaGreatDoor
