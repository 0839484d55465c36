/-
  Layer 10: the reference's Plan.
-/
import Derived.Test.YtbbaleambgaanaaGreatDoorPk22
import Derived.Test.YtbbaleambgaanaaGreatDoorFitRp1
import Derived.Test.YtbbaleambgaanaaGreatDoorFitRp2
import Derived.Test.YtbbaleambgaanaaGreatDoorFitRp3
import Derived.Test.YtbbaleambgaanaaGreatDoorFitRp4
import Derived.Test.YtbbaleambgaanaaGreatDoorFitRp5
import Derived.Test.YtbbaleambgaanaaGreatDoorFitRp6
import Derived.Test.YtbbaleambgaanaaGreatDoorPk23
import Derived.Test.YtbbaleambgaanaaGreatDoorPk18
import Derived.Test.YtbbaleambgaanaaGreatDoorPk17
import Derived.Test.YtbbaleambgaanaaGreatDoorPk24
namespace Go.Proofs.YtbbaleambgaanaaGreatDoor.Fit
open Go.RowKit Pxr Pnm

set_option maxRecDepth 100000 in
set_option maxHeartbeats 4000000 in
theorem rpl_bad (k : Int) (p : ByteArray) (m : Int) (t : ByteArray) (s : Int) (w : World) (E : Int) (h0 : (E != 0) = true)
    (C1 : Hid (∀ w', Below w.heap.size w w' → Calls Tryz.prog 60 #[.agg (enV k p m t s).toArray] w' fun e w'' => e = .returned (.int .i64 E) ∧ Below w'.heap.size w' w'')) :
    Calls Tryz.prog 26 #[.agg (enV k p m t s).toArray] w (RetPl 0 emp emp emp 0 0 [] E w) := by
  have HO := Lib.hid hdTr
  have HZ := Lib.hid zHr
  go_enter Tryz.func26, Tryz.ntmps26
  go_wp2_with (first | (refine wpList_box_obj rfl 23 _ rfl (enV k p m t s) rfl ?_; intro w1 g1 b1; have H1 := Lib.hid g1; have B1 := Lib.hid b1; clear g1 b1) | (refine wpList_alloc_obj rfl 67 rfl Ust.hd0 HZ.out ?_; intro w2 g2 b2; have R2 := Lib.hid g2; have E2 := Lib.hid (H1.out.below b2 H1.out.lt); have B2 := Lib.hid (belT B1.out b2); have c0 := E2.out.get 0 rfl; have c1 := E2.out.get 1 rfl; have c2 := E2.out.get 2 rfl; have c3 := E2.out.get 3 rfl; have c4 := E2.out.get 4 rfl; clear g2 b2))
  refine (C1.out w2 B2.out).mono ?_; rintro e w3 ⟨rfl, b3⟩
  have R3 := Lib.hid (R2.out.below b3 R2.out.lt)
  have B3 := Lib.hid (belT B2.out b3)
  have N1 : Hid (w.heap.size < w1.heap.size) := H1.out.lt
  clear b3 c0 c1 c2 c3 c4
  go_wp2_with (first | (refine wpList_store_obj rfl 67 _ _ rfl w1.heap.size rfl Ust.hd0 Ust.hd0 rfl 67 R3.out HO.out.2 rfl (hd_one _ _ _ _ _ _) ?_; intro w4 g4 t4; have R4 := Lib.hid g4; have T4 := Lib.hid t4; clear g4 t4))
  exact bodyPost_ret (results_obj_two Tryz.results26 HO.out _ w1.heap.size rfl _ Ust.hd0 R4.out rfl) rfl (.nil (B3.out.trans (T4.out.below (Nat.le_of_lt N1.out))))

theorem rplan_any (e : Ent) (w : World) (hp : e.p.size ≤ maxLen) (ht : e.t.size ≤ maxLen) : Calls Tryz.prog 26 #[.agg (enV e.k e.p e.m e.t e.s).toArray] w (RetP e w) := by
  obtain ⟨k, p, m, t, s⟩ := e
  dsimp only at hp ht ⊢
  have C1 : Hid (∀ w', Below w.heap.size w w' → Calls Tryz.prog 60 #[.agg (enV k p m t s).toArray] w' fun e w'' => e = .returned (.int .i64 (ckE ⟨k, p, m, t, s⟩)) ∧ Below w'.heap.size w' w'') := fun w' hb => rcheck_any k p m t s w' hp ht
  by_cases h : ckE ⟨k, p, m, t, s⟩ = 0
  · have hok := ck_ok.1 h
    rw [h] at C1
    obtain ⟨e1, e2⟩ := pl_good_eq h
    have KG : Hid (tyZ k = tyZ k) := rfl
    have C2 : Hid (∀ w', Calls Tryz.prog 61 #[.string p] w' fun e w'' => e = .returned (.tuple #[.string (strOfNums (splP (numsOf p))), .string (strOfNums (splN (numsOf p))), .bool (splB (numsOf p))]) ∧ Below w'.heap.size w' w'') := fun w' => Pnm.rsplit_any p w' hp
    have C3 : Hid (∀ w', Below w.heap.size w w' → Calls Tryz.prog 62 #[.int .i64 s] w' fun e w'' => e = .returned (.string (strOfNums (decD s.toNat))) ∧ Below w'.heap.size w' w'') := fun w' hb => by
      obtain ⟨s0, s1, _⟩ := sz_cases hok.sz
      have := Pxr.rdec_any s.toNat (by dsimp only at s0 s1; omega) w'
      rwa [show ((s.toNat : Nat) : Int) = s by dsimp only at s0; omega] at this
    unfold RetP
    rw [e1, e2, h]
    unfold plH plL plT plP plS
    dsimp only
    have k0 := hok.k0; have k4 := hok.k4
    by_cases c1 : t.size ≤ 100
    · have c1' : (t.size : Int) ≤ 100 := by omega
      rw [if_pos c1, if_pos c1]
      by_cases c2 : splB (numsOf p) = true
      · rw [c2] at C2
        rw [if_pos c2]
        by_cases c3 : s ≤ 8589934591
        · rw [if_pos c3, if_pos c3]; exact rpl_fff k p m t s w _ _ _ k0 k4 KG C1 C2 c1' c3
        · rw [if_neg c3, if_neg c3]; exact rpl_ffr k p m t s w _ _ _ _ k0 k4 KG C1 C2 C3 c1' c3
      · rw [Bool.not_eq_true _ |>.mp c2] at C2
        rw [if_neg c2, (spl_no c2).1, (spl_no c2).2]
        by_cases c3 : s ≤ 8589934591
        · rw [if_pos c3, if_pos c3]; exact rpl_frf k p m t s w _ _ _ k0 k4 KG C1 C2 c1' c3
        · rw [if_neg c3, if_neg c3]; exact rpl_frr k p m t s w _ _ _ _ k0 k4 KG C1 C2 C3 c1' c3
    · have c1' : ¬ (t.size : Int) ≤ 100 := by omega
      rw [if_neg c1, if_neg c1]
      by_cases c2 : splB (numsOf p) = true
      · rw [c2] at C2
        rw [if_pos c2]
        by_cases c3 : s ≤ 8589934591
        · rw [if_pos c3, if_pos c3]; exact rpl_rff k p m t s w _ _ _ k0 k4 KG C1 C2 c1' c3
        · rw [if_neg c3, if_neg c3]; exact rpl_rfr k p m t s w _ _ _ _ k0 k4 KG C1 C2 C3 c1' c3
      · rw [Bool.not_eq_true _ |>.mp c2] at C2
        rw [if_neg c2, (spl_no c2).1, (spl_no c2).2]
        by_cases c3 : s ≤ 8589934591
        · rw [if_pos c3, if_pos c3]; exact rpl_rrf k p m t s w _ _ _ k0 k4 KG C1 C2 c1' c3
        · rw [if_neg c3, if_neg c3]; exact rpl_rrr k p m t s w _ _ _ _ k0 k4 KG C1 C2 C3 c1' c3
  · obtain ⟨e1, e2⟩ := pl_bad_eq h
    unfold RetP
    rw [e1, e2]
    exact rpl_bad k p m t s w _ (by simpa using h) C1
end Go.Proofs.YtbbaleambgaanaaGreatDoor.Fit
