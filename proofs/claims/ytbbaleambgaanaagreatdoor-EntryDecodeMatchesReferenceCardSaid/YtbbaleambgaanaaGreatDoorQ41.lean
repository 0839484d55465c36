/- FitRck FitRPlan -/
import Derived.Test.YtbbaleambgaanaaGreatDoorQ8
import Derived.Test.YtbbaleambgaanaaGreatDoorQ14
import Derived.Test.YtbbaleambgaanaaGreatDoorQ40
import Derived.Test.YtbbaleambgaanaaGreatDoorQ16
import Derived.Test.YtbbaleambgaanaaGreatDoorQ15
import Derived.Test.YtbbaleambgaanaaGreatDoorQ25
namespace Go.Proofs.YtbbaleambgaanaaGreatDoor.Fit
open Go.RowKit Pxr Pnm
theorem chkT_bad {t : ByteArray} {j : Nat} (h : t.size ≤ 65536) (hj : j < t.size) (hz : (numsOf t).getD j 0 = 0) : chkT t = 6 := by
  unfold chkT
  rw [if_neg (by omega), if_pos]
  have hl : j < (numsOf t).length := by rw [numsOf_length]; exact hj
  rw [List.getD_eq_getElem?_getD, List.getElem?_eq_getElem hl] at hz
  exact .inr (by rw [← (show (numsOf t)[j] = 0 from hz)]; exact List.getElem_mem hl)
theorem chkT_good {t : ByteArray} (h : t.size ≤ 65536) (h0 : t.size ≠ 0) (hz : ∀ q, q < t.size → (numsOf t).getD q 0 ≠ 0) : chkT t = 0 := by
  unfold chkT
  rw [if_neg (by omega), if_neg]
  rintro (e | e)
  · exact h0 e
  · obtain ⟨i, hi, he⟩ := List.getElem_of_mem e
    rw [numsOf_length] at hi
    exact hz i hi (by rw [List.getD_eq_getElem?_getD, List.getElem?_eq_getElem (by rw [numsOf_length]; exact hi)]; exact he)
set_option maxRecDepth 100000 in
set_option maxHeartbeats 4000000 in
theorem rtarget_any (k : Int) (p : ByteArray) (m : Int) (t : ByteArray) (s : Int) (w : World) (ht : t.size ≤ maxLen) :
    Calls Tryz.prog 122 #[.agg (enV k p m t s).toArray] w fun e w' => e = .returned (.int .i64 (tgE k t)) ∧ Below w.heap.size w w' := by
  obtain ⟨R, hR⟩ := named (tgE k t)
  rw [← hR.out]
  by_cases h2 : k = 2
  · subst h2
    have e : R = chkT t := by rw [hR.out]; unfold tgE; rw [if_pos rfl]
    have HR := Lib.hid e
    clear hR e
    by_cases h7 : 65536 < t.size
    · have h7i : (65536 : Int) < t.size := by omega
      have e := HR.out; unfold chkT at e; rw [if_pos h7] at e; subst e
      clear HR h7 ht
      go_enter Tryz.func122, Tryz.ntmps122
      go_wp2_with (first | (refine wpList_box_obj rfl 23 _ rfl (enV 2 p m t s) rfl ?_; intro w1 g1 b1; have B1 := Lib.hid b1; have c0 := g1.get 0 rfl; have c3 := g1.get 3 rfl; clear g1 b1))
      go_ret
      exact ⟨rfl, B1.out⟩
    · have h7i : ¬ (65536 : Int) < t.size := by omega
      by_cases h0 : t = emp
      · have e := HR.out; unfold chkT at e; rw [if_neg h7, if_pos (.inl (emp_size.1 h0))] at e; subst e; subst h0
        clear HR h7 ht
        go_enter Tryz.func122, Tryz.ntmps122
        go_wp2_with (first | (refine wpList_box_obj rfl 23 _ rfl (enV 2 p m emp s) rfl ?_; intro w1 g1 b1; have B1 := Lib.hid b1; have c0 := g1.get 0 rfl; have c3 := g1.get 3 rfl; clear g1 b1))
        go_ret
        exact ⟨rfl, B1.out⟩
      · have hi := empty_no h0
        have HS : Hid (t.size ≠ 0) := fun e => h0 (emp_size.2 e)
        have HA : Hid (∀ j (h : j < t.size), (numsOf t).getD j 0 = (t[j].toNat : Int)) := num_at t
        have H7 : Hid (t.size ≤ 65536) := by show _ ≤ _; omega
        clear h0 h7 ht
        go_enter Tryz.func122, Tryz.ntmps122
        go_wp2_with (first | (refine wpList_box_obj rfl 23 _ rfl (enV 2 p m t s) rfl ?_; intro w1 g1 b1; have B1 := Lib.hid b1; have c0 := g1.get 0 rfl; have c3 := g1.get 3 rfl; clear g1 b1))
        go_loop [3] (fun i => ∃ j : Nat, i = .int .i64 j ∧ j ≤ t.size ∧ ∀ q, q < j → (numsOf t).getD q 0 ≠ 0) (fun i => t.size - (intOf i).toNat)
        case atStart => exact ⟨0, rfl, Nat.zero_le _, fun q hq => by omega⟩
        case round =>
          obtain ⟨j, rfl, hj, hd⟩ := hrel
          have HD := Lib.hid hd
          clear hd
          by_cases hlt : j < t.size
          · have hx := HA.out j hlt
            obtain ⟨x, hxe⟩ : ∃ x : Int, ((t[j].toNat : Nat) : Int) = x := ⟨_, rfl⟩
            rw [hxe] at hx
            have HX := Lib.hid hx
            have m1 : (j : Int) < t.size := by omega
            clear hx
            by_cases c1 : x = 0
            · have e := HR.out; rw [chkT_bad H7.out hlt (by rw [HX.out]; exact c1)] at e; subst e; subst c1
              clear HR
              go_wp2
              go_ret
              exact ⟨rfl, B1.out⟩
            · have n1 : (x == 0) = false := by simpa using c1
              have HC := Lib.hid c1
              clear c1
              go_wp2
              go_round
              case rel => exact ⟨j + 1, by go_num, by omega, fun q hq => by
                by_cases hq' : q < j
                · exact HD.out q hq'
                · obtain rfl : q = j := by omega
                  rw [HX.out]; exact HC.out⟩
              case measure => simp [intOf]; omega
          · obtain rfl : j = t.size := by omega
            have e := HR.out; rw [chkT_good H7.out HS.out HD.out] at e; subst e
            clear HR
            go_wp2
            go_ret
            exact ⟨rfl, B1.out⟩
  · have n2 : (k == 2) = false := by simpa using h2
    by_cases h3 : k = 3
    · subst h3
      have e : R = chE (numsOf t) := by rw [hR.out]; unfold tgE; rw [if_neg (by decide), if_pos rfl]
      have H2 := Lib.hid fun (w' : World) => Pnm.rcheck_any t w' ht
      rw [← e] at H2
      clear hR e ht h2
      go_enter Tryz.func122, Tryz.ntmps122
      go_wp2_with (first | (refine wpList_box_obj rfl 23 _ rfl (enV 3 p m t s) rfl ?_; intro w1 g1 b1; have B1 := Lib.hid b1; have c0 := g1.get 0 rfl; have c3 := g1.get 3 rfl; clear g1 b1))
      refine (H2.out _).mono ?_; rintro e w2 ⟨rfl, rfl⟩
      go_wp2
      go_ret
      exact ⟨rfl, B1.out⟩
    · have n3 : (k == 3) = false := by simpa using h3
      have e : R = if t = emp then 0 else 2 := by rw [hR.out]; unfold tgE; rw [if_neg h2, if_neg h3]
      clear hR h2 h3 ht
      by_cases ht : t = emp
      · rw [if_pos ht] at e
        subst e; subst ht
        go_enter Tryz.func122, Tryz.ntmps122
        go_wp2_with (first | (refine wpList_box_obj rfl 23 _ rfl (enV k p m emp s) rfl ?_; intro w1 g1 b1; have B1 := Lib.hid b1; have c0 := g1.get 0 rfl; have c3 := g1.get 3 rfl; clear g1 b1))
        go_ret
        exact ⟨rfl, B1.out⟩
      · rw [if_neg ht] at e
        have hi := empty_no ht
        clear ht
        subst e
        go_enter Tryz.func122, Tryz.ntmps122
        go_wp2_with (first | (refine wpList_box_obj rfl 23 _ rfl (enV k p m t s) rfl ?_; intro w1 g1 b1; have B1 := Lib.hid b1; have c0 := g1.get 0 rfl; have c3 := g1.get 3 rfl; clear g1 b1))
        go_ret
        exact ⟨rfl, B1.out⟩
set_option maxRecDepth 100000 in
set_option maxHeartbeats 4000000 in
theorem rcheck_any (k : Int) (p : ByteArray) (m : Int) (t : ByteArray) (s : Int) (w : World) (hp : p.size ≤ maxLen) (ht : t.size ≤ maxLen) :
    Calls Tryz.prog 60 #[.agg (enV k p m t s).toArray] w fun e w' => e = .returned (.int .i64 (ckE ⟨k, p, m, t, s⟩)) ∧ Below w.heap.size w w' := by
  obtain ⟨R, hR⟩ := named (ckE ⟨k, p, m, t, s⟩)
  obtain ⟨E1, h1⟩ := named (chE (numsOf p))
  obtain ⟨E2, h2⟩ := named (tgE k t)
  have HR : Hid (R = if k < 0 ∨ 4 ≤ k then 8 else if E1 ≠ 0 then E1 else if m < 0 ∨ 4095 < m ∨ (k = 2 ∧ m ≠ 0) then 16 else if E2 ≠ 0 then E2 else szE k s) := by
    show _ = _; rw [hR.out, h1.out, h2.out]; rfl
  have C1 : Hid (∀ w', Calls Tryz.prog 121 #[.string p] w' fun e w'' => e = .returned (.int .i64 E1) ∧ w' = w'') := fun w' => by rw [h1.out]; exact Pnm.rcheck_any p w' hp
  have C2 : Hid (∀ w', Calls Tryz.prog 122 #[.agg (enV k p m t s).toArray] w' fun e w'' => e = .returned (.int .i64 E2) ∧ Below w'.heap.size w' w'') := fun w' => by rw [h2.out]; exact rtarget_any k p m t s w' ht
  rw [← hR.out]
  clear hR h1 h2 hp ht
  by_cases k0 : k < 0
  · have e := HR.out; rw [if_pos (.inl k0)] at e; subst e; clear HR C1 C2
    go_enter Tryz.func60, Tryz.ntmps60
    go_wp2_with (first | (refine wpList_box_obj rfl 23 _ rfl (enV k p m t s) rfl ?_; intro w1 g1 b1; have B1 := Lib.hid b1; have c0 := g1.get 0 rfl; clear g1 b1))
    go_ret
    exact ⟨rfl, B1.out⟩
  by_cases k4 : 3 < k
  · have e := HR.out; rw [if_pos (.inr (by omega))] at e; subst e; clear HR C1 C2
    go_enter Tryz.func60, Tryz.ntmps60
    go_wp2_with (first | (refine wpList_box_obj rfl 23 _ rfl (enV k p m t s) rfl ?_; intro w1 g1 b1; have B1 := Lib.hid b1; have c0 := g1.get 0 rfl; clear g1 b1))
    go_ret
    exact ⟨rfl, B1.out⟩
  go_enter Tryz.func60, Tryz.ntmps60
  go_wp2_with (first | (refine wpList_box_obj rfl 23 _ rfl (enV k p m t s) rfl ?_; intro w1 g1 b1; have H1 := Lib.hid g1; have B1 := Lib.hid b1; have c0 := g1.get 0 rfl; have c1 := g1.get 1 rfl; clear g1 b1))
  refine (C1.out w1).mono ?_; rintro e w2 ⟨rfl, rfl⟩
  clear c1
  by_cases z1 : E1 = 0
  · subst z1
    have HR' : Hid (R = if m < 0 ∨ 4095 < m ∨ (k = 2 ∧ m ≠ 0) then 16 else if E2 ≠ 0 then E2 else szE k s) := by
      have e := HR.out; rw [if_neg (by omega), if_neg (by simp)] at e; exact e
    clear HR
    have c2 := H1.out.get 2 rfl
    by_cases m0 : m < 0
    · have e := HR'.out; rw [if_pos (.inl m0)] at e; subst e
      go_wp2_with fail
      go_ret
      exact ⟨rfl, B1.out⟩
    by_cases m1 : 4095 < m
    · have e := HR'.out; rw [if_pos (.inr (.inl m1))] at e; subst e
      go_wp2_with fail
      go_ret
      exact ⟨rfl, B1.out⟩
    by_cases k2 : k = 2 ∧ m ≠ 0
    · have e := HR'.out; rw [if_pos (.inr (.inr k2))] at e; subst e
      obtain ⟨rfl, hm⟩ := k2
      have n2 : (m != 0) = true := by simpa using hm
      go_wp2_with fail
      go_ret
      exact ⟨rfl, B1.out⟩
    have HR2 : Hid (R = if E2 ≠ 0 then E2 else szE k s) := by
      have e := HR'.out; rw [if_neg (by omega)] at e; exact e
    clear HR'
    have c1 := H1.out.get 1 rfl
    have c3 := H1.out.get 3 rfl
    have c4 := H1.out.get 4 rfl
    have hk : (k == 2) = false ∨ (k = 2 ∧ m = 0) := by
      by_cases h : k = 2
      · exact .inr ⟨h, by omega⟩
      · exact .inl (by simpa using h)
    clear C1 k0 k4 k2
    rcases hk with n2 | ⟨rfl, rfl⟩
    · go_wp2_with fail
      refine (C2.out w1).mono ?_; rintro e w3 ⟨rfl, b3⟩
      have H3 := Lib.hid (H1.out.below b3 H1.out.lt); have B3 := Lib.hid (belT B1.out b3)
      clear b3 c0 c1 c2 c3 c4
      by_cases z2 : E2 = 0
      · subst z2
        have HE : Hid (R = szE k s) := by have e := HR2.out; rw [if_neg (by simp)] at e; exact e
        clear HR2
        have c0 := H3.out.get 0 rfl
        have c4 := H3.out.get 4 rfl
        by_cases k1 : k = 1
        · subst k1
          by_cases s0 : s < 0
          · have e := HE.out; unfold szE at e; rw [if_pos rfl, if_pos (.inl s0)] at e; subst e
            go_wp2_with fail
            go_ret
            exact ⟨rfl, B3.out⟩
          · by_cases s1 : 1099511627776 < s
            · have e := HE.out; unfold szE at e; rw [if_pos rfl, if_pos (.inr s1)] at e; subst e
              go_wp2_with fail
              go_ret
              exact ⟨rfl, B3.out⟩
            · have e := HE.out; unfold szE at e; rw [if_pos rfl, if_neg (by omega)] at e; subst e
              go_wp2_with fail
              go_ret
              exact ⟨rfl, B3.out⟩
        · have n5 : (k == 1) = false := by simpa using k1
          by_cases s0 : s = 0
          · have e := HE.out; unfold szE at e; rw [if_neg k1, if_pos s0] at e; subst e; subst s0
            go_wp2_with fail
            go_ret
            exact ⟨rfl, B3.out⟩
          · have e := HE.out; unfold szE at e; rw [if_neg k1, if_neg s0] at e; subst e
            have n4 : (s != 0) = true := by simpa using s0
            go_wp2_with fail
            go_ret
            exact ⟨rfl, B3.out⟩
      · have e := HR2.out; rw [if_pos z2] at e; subst e
        have n3 : (R != 0) = true := by simpa using z2
        clear HR2 z2
        go_wp2_with fail
        go_ret
        exact ⟨rfl, B3.out⟩
    · go_wp2_with fail
      refine (C2.out w1).mono ?_; rintro e w3 ⟨rfl, b3⟩
      have H3 := Lib.hid (H1.out.below b3 H1.out.lt); have B3 := Lib.hid (belT B1.out b3)
      clear b3 c0 c1 c2 c3 c4
      by_cases z2 : E2 = 0
      · subst z2
        have HE : Hid (R = szE 2 s) := by have e := HR2.out; rw [if_neg (by simp)] at e; exact e
        clear HR2
        have c0 := H3.out.get 0 rfl
        have c4 := H3.out.get 4 rfl
        by_cases s0 : s = 0
        · have e := HE.out; unfold szE at e; rw [if_neg (by decide), if_pos s0] at e; subst e; subst s0
          go_wp2_with fail
          go_ret
          exact ⟨rfl, B3.out⟩
        · have e := HE.out; unfold szE at e; rw [if_neg (by decide), if_neg s0] at e; subst e
          have n4 : (s != 0) = true := by simpa using s0
          go_wp2_with fail
          go_ret
          exact ⟨rfl, B3.out⟩
      · have e := HR2.out; rw [if_pos z2] at e; subst e
        have n3 : (R != 0) = true := by simpa using z2
        clear HR2 z2
        go_wp2_with fail
        go_ret
        exact ⟨rfl, B3.out⟩
  · have e := HR.out; rw [if_neg (by omega), if_pos z1] at e; subst e
    have n1 : (R != 0) = true := by simpa using z1
    clear HR z1
    go_wp2_with fail
    go_ret
    exact ⟨rfl, B1.out⟩
end Go.Proofs.YtbbaleambgaanaaGreatDoor.Fit
namespace Go.Proofs.YtbbaleambgaanaaGreatDoor.Fit
open Go.RowKit Pxr Pnm
set_option maxRecDepth 100000 in
set_option maxHeartbeats 4000000 in
theorem rpl_bad (k : Int) (p : ByteArray) (m : Int) (t : ByteArray) (s : Int) (w : World) (E : Int) (h0 : (E != 0) = true)
    (C1 : Hid (∀ w', Below w.heap.size w w' → Calls Tryz.prog 60 #[.agg (enV k p m t s).toArray] w' fun e w'' => e = .returned (.int .i64 E) ∧ Below w'.heap.size w' w'')) :
    Calls Tryz.prog 26 #[.agg (enV k p m t s).toArray] w (RetPl 0 emp emp emp 0 0 [] E w) := by
  have HO := Lib.hid hdTr
  have HZ := Lib.hid zHr
  go_enter Tryz.func26, Tryz.ntmps26
  go_wp2_with (first | (refine wpList_box_obj rfl 23 _ rfl (enV k p m t s) rfl ?_; intro w1 g1 b1; have H1 := Lib.hid g1; have B1 := Lib.hid b1; clear g1 b1) | (refine wpList_alloc_obj rfl 67 rfl Ust.hd0 HZ.out ?_; intro w2 g2 b2; have R2 := Lib.hid g2; have E2 := Lib.hid (H1.out.below b2 H1.out.lt); have B2 := Lib.hid (belT B1.out b2); have c0 := E2.out.get 0 rfl; have c1 := E2.out.get 1 rfl; have c2 := E2.out.get 2 rfl; have c3 := E2.out.get 3 rfl; have c4 := E2.out.get 4 rfl; clear g2 b2))
  refine (C1.out w2 B2.out).mono ?_; rintro e w3 ⟨rfl, b3⟩
  have R3 := Lib.hid (R2.out.below b3 R2.out.lt)
  have B3 := Lib.hid (belT B2.out b3)
  have N1 : Hid (w.heap.size < w1.heap.size) := H1.out.lt
  clear b3 c0 c1 c2 c3 c4
  go_wp2_with (first | (refine wpList_store_obj rfl 67 _ _ rfl w1.heap.size rfl Ust.hd0 Ust.hd0 rfl 67 R3.out HO.out.2 rfl (hd_one _ _ _ _ _ _) ?_; intro w4 g4 t4; have R4 := Lib.hid g4; have T4 := Lib.hid t4; clear g4 t4))
  exact bodyPost_ret (results_obj_two Tryz.results26 HO.out _ w1.heap.size rfl _ Ust.hd0 R4.out rfl) rfl (.nil (B3.out.trans (T4.out.below (Nat.le_of_lt N1.out))))
theorem rplan_any (e : Ent) (w : World) (hp : e.p.size ≤ maxLen) (ht : e.t.size ≤ maxLen) : Calls Tryz.prog 26 #[.agg (enV e.k e.p e.m e.t e.s).toArray] w (RetP e w) := by
  obtain ⟨k, p, m, t, s⟩ := e
  dsimp only at hp ht ⊢
  have C1 : Hid (∀ w', Below w.heap.size w w' → Calls Tryz.prog 60 #[.agg (enV k p m t s).toArray] w' fun e w'' => e = .returned (.int .i64 (ckE ⟨k, p, m, t, s⟩)) ∧ Below w'.heap.size w' w'') := fun w' hb => rcheck_any k p m t s w' hp ht
  by_cases h : ckE ⟨k, p, m, t, s⟩ = 0
  · have hok := ck_ok.1 h
    rw [h] at C1
    obtain ⟨e1, e2⟩ := pl_good_eq h
    have KG : Hid (tyZ k = tyZ k) := rfl
    have C2 : Hid (∀ w', Calls Tryz.prog 61 #[.string p] w' fun e w'' => e = .returned (.tuple #[.string (strOfNums (splP (numsOf p))), .string (strOfNums (splN (numsOf p))), .bool (splB (numsOf p))]) ∧ Below w'.heap.size w' w'') := fun w' => Pnm.rsplit_any p w' hp
    have C3 : Hid (∀ w', Below w.heap.size w w' → Calls Tryz.prog 62 #[.int .i64 s] w' fun e w'' => e = .returned (.string (strOfNums (decD s.toNat))) ∧ Below w'.heap.size w' w'') := fun w' hb => by
      obtain ⟨s0, s1, _⟩ := sz_cases hok.sz
      have := Pxr.rdec_any s.toNat (by dsimp only at s0 s1; omega) w'
      rwa [show ((s.toNat : Nat) : Int) = s by dsimp only at s0; omega] at this
    unfold RetP
    rw [e1, e2, h]
    unfold plH plL plT plP plS
    dsimp only
    exact rpl_all k p m t s w _ _ _ _ _ (splB (numsOf p)) _ _ hok.k0 hok.k4 KG C1 C2 C3 (fun h => ⟨(spl_no (by rw [h]; decide)).2, (spl_no (by rw [h]; decide)).1⟩) rfl rfl rfl
  · obtain ⟨e1, e2⟩ := pl_bad_eq h
    unfold RetP
    rw [e1, e2]
    exact rpl_bad k p m t s w _ (by simpa using h) C1
end Go.Proofs.YtbbaleambgaanaaGreatDoor.Fit
