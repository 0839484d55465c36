/-
  Layer 15: the reference's builder: Check. (gen_RebRChk.py writes it.)
-/
import Derived.Test.YtinmkgpmoclcoaaDoorPz13
import Derived.Test.YtinmkgpmoclcoaaDoorPz11
import Derived.Test.YtinmkgpmoclcoaaDoorPz06
import Derived.Test.YtinmkgpmoclcoaaDoorPz08
namespace Go.Proofs.YtinmkgpmoclcoaaDoor.Reb
open Go.RowKit Go.Proofs.YtinmkgpmoclcoaaDoor.Fit Pnm Tre Flt

section
variable {A : List Mb} {e : Ent}
theorem chR_ck (h : ckE e ≠ 0) : chR A e = ckE e := by unfold chR; rw [if_pos h]
theorem chR_late (h0 : ckE e = 0) (h : Late A e.p) : chR A e = 12 := by unfold chR; rw [if_neg (fun c => c h0), if_pos h]
theorem chR_par (h0 : ckE e = 0) (h1 : ¬ Late A e.p) (h : NoPar A e.p) : chR A e = 13 := by unfold chR; rw [if_neg (fun c => c h0), if_neg h1, if_pos h]
theorem chR_file (h0 : ckE e = 0) (h1 : ¬ Late A e.p) (h2 : ¬ NoPar A e.p) (h : NoFile A e) : chR A e = 15 := by unfold chR; rw [if_neg (fun c => c h0), if_neg h1, if_neg h2, if_pos h]
end
theorem fz_cases (A : List Mb) (k : Int) (p : ByteArray) : (fz A k p = -1 ∧ fnd A k p = none) ∨ ∃ r : Nat, r < A.length ∧ fnd A k p = some r ∧ fz A k p = r := by
  unfold fz
  cases h : fnd A k p with
  | none => exact .inl ⟨rfl, rfl⟩
  | some r => exact .inr ⟨r, (fnd_some.mp h).1, rfl, rfl⟩

set_option maxRecDepth 100000 in
set_option maxHeartbeats 8000000 in
theorem rbchk_any (g : Nat) (a : Option Addr) (n cap : Nat) (ys : List MbS) (k : Int) (p : ByteArray) (m : Int) (t : ByteArray) (s : Int) (w : World) (hb : RBd w g a n cap ys) (hp : p.size ≤ maxLen) (ht : t.size ≤ maxLen) :
    Calls Tryd.prog 15 #[.pointer (some ⟨g, 0, none⟩), .agg (enV k p m t s).toArray] w fun e w' => e = .returned (.int .i64 (chR (mms ys) ⟨k, p, m, t, s⟩)) ∧ Below w.heap.size w w' := by
  obtain ⟨R, hR⟩ := named (chR (mms ys) ⟨k, p, m, t, s⟩)
  obtain ⟨X, hX⟩ := named (ckE ⟨k, p, m, t, s⟩)
  obtain ⟨P, hP⟩ := named (strOfNums (parZ (numsOf p)))
  rw [← hR.out]
  have HB := Lib.hid hb
  have EO := Lib.hid enT
  have HN : Hid ((mms ys).length = n) := by show _ = _; rw [mms_len]; exact hb.r.n
  have C1 : Hid (∀ w', Calls Tryd.prog 33 #[.agg (enV k p m t s).toArray] w' fun e w'' => e = .returned (.int .i64 X) ∧ Below w'.heap.size w' w'') := fun w' => by rw [hX.out]; exact Fit.rcheck_any k p m t s w' hp ht
  have C2 : Hid (∀ w', Calls Tryd.prog 35 #[.string p] w' fun e w'' => e = .returned (.string P) ∧ w' = w'') := fun w' => by rw [hP.out]; exact rparent_any p w' hp
  have NP : Hid (NoPar (mms ys) p ↔ ¬ P = emp ∧ fnd (mms ys) 0 P = none) := by
    show _ ↔ _
    unfold NoPar
    rw [hP.out, str_emp']
  clear hb
  go_enter Tryd.func15, Tryd.ntmps15
  go_wp2_with (first | (refine wpList_box_obj rfl 27 _ rfl (enV k p m t s) rfl ?_; intro w1 g1 b1; have G1 := Lib.hid g1; have B1 := Lib.hid b1; clear g1 b1) | (refine wpList_load_obj rfl 27 5 EO.out _ rfl w.heap.size rfl 27 (enV k p m t s) G1.out rfl ?_))
  refine (C1.out w1).mono ?_; rintro e w2 ⟨rfl, b2⟩
  have G2 := Lib.hid (G1.out.below b2 G1.out.lt)
  have B2 := Lib.hid (belT B1.out b2)
  have GL := Lib.hid G2.out.lt
  clear b2 G1 B1 C1
  by_cases x0 : ¬ X = 0
  · have nx : (X != 0) = true := by simpa using x0
    obtain rfl : R = X := by rw [hR.out, hX.out]; exact chR_ck (by rw [← hX.out]; exact x0)
    go_wp2_with fail
    go_ret
    exact ⟨rfl, B2.out⟩
  obtain rfl : X = 0 := Decidable.not_not.mp x0
  have CK := Lib.hid hX.out.symm
  clear x0 hX
  have HB2 := Lib.hid (HB.out.below B2.out)
  have gq : ∀ q : Of (fun w' => Below w2.heap.size w2 w'), q.w.cell? ⟨g, 0, none⟩ = some (.slice a n cap) := fun q => (HB2.out.o.below q.h HB2.out.o.lt).get 0 rfl
  have pq : ∀ q : Of (fun w' => Below w2.heap.size w2 w'), q.w.cell? ⟨w.heap.size, 1, none⟩ = some (.string p) := fun q => (G2.out.below q.h G2.out.lt).get 1 rfl
  by_cases hn : n = 0
  · have d1 : decide (0 < n) = false := by simp [hn]
    have LT : Hid (¬ Late (mms ys) p) := fun h => by have := h.1; rw [HN.out] at this; omega
    clear hn
    go_wp2_with fail
    refine wp_region_class (S := fun w' => Below w2.heap.size w2 w') (by kernel_rfl) (by kernel_rfl) (Below.refl _ _).drew ?_
    intro hne'
    repeat (go_big_quiet_step (fail))
    refine wpQuiet_nil ?_
    rintro wq ⟨q, rfl⟩
    have B3 := Lib.hid (belT B2.out q.h)
    have HB3 := Lib.hid (HB2.out.below q.h)
    have G3 := Lib.hid (G2.out.below q.h G2.out.lt)
    obtain ⟨w3, hw3⟩ : ∃ w3, w3 = q.w := ⟨_, rfl⟩
    rw [← hw3] at B3 HB3 G3
    rw [← hw3]
    clear hw3 q hne' gq pq
    have e0 := G3.out.get 0 rfl; have e1 := G3.out.get 1 rfl; have e2 := G3.out.get 2 rfl; have e3 := G3.out.get 3 rfl
    go_wp2_with fail
    refine (C2.out w3).mono ?_; rintro e w4 ⟨rfl, rfl⟩
    by_cases hpe : P = emp
    · have NPN : Hid (¬ NoPar (mms ys) p) := fun h => (NP.out.mp h).1 hpe
      subst hpe
      by_cases k3 : k = 3
      · subst k3
        have FT := Lib.hid (rfind_any g _ n cap ys 1 t w3 HB3.out)
        have gq : ∀ q : Of (fun w' => Below w3.heap.size w3 w'), q.w.cell? ⟨g, 0, none⟩ = some (.slice a n cap) := fun q => (HB3.out.o.below q.h HB3.out.o.lt).get 0 rfl
        have mq : ∀ q : Of (fun w' => Below w3.heap.size w3 w'), q.w.cell? ⟨w.heap.size, 2, none⟩ = some (.int .i64 m) := fun q => (G3.out.below q.h G3.out.lt).get 2 rfl
        rcases fz_cases (mms ys) 1 t with ⟨hf1, hf2⟩ | ⟨r, hr, hf2, hf1⟩
        · obtain rfl : R = 15 := by rw [hR.out]; exact chR_file CK.out LT.out NPN.out ⟨rfl, fun r hr => by rw [show fnd (mms ys) 1 t = none from hf2] at hr; cases hr⟩
          rw [hf1] at FT
          clear hR
          have dF : decide ((-1 : Int) < 0) = true := rfl
          go_wp2_with fail
          refine FT.out.mono ?_; rintro e w4 ⟨rfl, rfl⟩
          go_wp2_with fail
          refine wp_region_class (S := fun w' => Below w3.heap.size w3 w') (by kernel_rfl) (by kernel_rfl) (Below.refl _ _).drew ?_
          intro hne'
          repeat (go_big_quiet_step (fail))
          refine wpQuiet_nil ?_
          rintro wq ⟨q, rfl⟩
          go_wp2
          go_ret
          exact ⟨rfl, belT B3.out q.h⟩
        · rw [hf1] at FT
          rw [HN.out] at hr
          obtain ⟨b', off', y', ea, hbl', hy', hf', hat'⟩ := HB3.out.r.get r hr
          subst ea
          have ER : Hid (ma (mms ys) r = y'.n) := ma_some (mms_at hy')
          have yq : ∀ q : Of (fun w' => Below w3.heap.size w3 w'), q.w.cell? ⟨b', off' + r * 6 + 2, none⟩ = some (.int .i64 y'.n.e.m) := fun q => ((hat'.below q.h hbl').c hy').2.2.1
          obtain ⟨m', hm'⟩ := named y'.n.e.m
          rw [← hm'.out] at yq
          have dF : decide ((r : Int) < 0) = false := decide_eq_false (by omega)
          have r0 : ¬ (r : Int) < 0 := by omega
          have r1 : (r : Int) < n := by omega
          have r2 : (r : Int) < cap := by have := HB.out.r.c; omega
          clear hbl' hy' hf' hat'
          by_cases hm : m' = m
          · have nm' : (m' != m) = false := by simpa using hm
            obtain rfl : R = 0 := by rw [hR.out]; exact chR_zero.mpr ⟨CK.out, LT.out, NPN.out, fun h => h.2 r hf2 (by rw [ER.out, ← hm'.out]; exact hm)⟩
            clear hR hm
            go_wp2_with fail
            refine FT.out.mono ?_; rintro e w4 ⟨rfl, rfl⟩
            go_wp2_with fail
            refine wp_region_class (S := fun w' => Below w3.heap.size w3 w') (by kernel_rfl) (by kernel_rfl) (Below.refl _ _).drew ?_
            intro hne'
            repeat (go_big_quiet_step (fail))
            refine wpQuiet_nil ?_
            rintro wq ⟨q, rfl⟩
            go_wp2
            go_ret
            exact ⟨rfl, belT B3.out q.h⟩
          · have nm' : (m' != m) = true := by simpa using hm
            obtain rfl : R = 15 := by
              rw [hR.out]
              refine chR_file CK.out LT.out NPN.out ⟨rfl, fun r' hr' => ?_⟩
              rw [show fnd (mms ys) 1 t = some r from hf2] at hr'
              obtain rfl : r = r' := Option.some.inj hr'
              rw [ER.out, ← hm'.out]; exact hm
            clear hR hm
            go_wp2_with fail
            refine FT.out.mono ?_; rintro e w4 ⟨rfl, rfl⟩
            go_wp2_with fail
            refine wp_region_class (S := fun w' => Below w3.heap.size w3 w') (by kernel_rfl) (by kernel_rfl) (Below.refl _ _).drew ?_
            intro hne'
            repeat (go_big_quiet_step (fail))
            refine wpQuiet_nil ?_
            rintro wq ⟨q, rfl⟩
            go_wp2
            go_ret
            exact ⟨rfl, belT B3.out q.h⟩
      · have nk : (k == 3) = false := by simpa using k3
        obtain rfl : R = 0 := by rw [hR.out]; exact chR_zero.mpr ⟨CK.out, LT.out, NPN.out, fun h => k3 h.1⟩
        clear hR k3
        go_wp2_with fail
        go_ret
        exact ⟨rfl, B3.out⟩
    · have pe := empty_no hpe
      have FP := Lib.hid (rfind_any g _ n cap ys 0 P w3 HB3.out)
      rcases fz_cases (mms ys) 0 P with ⟨hf1, hf2⟩ | ⟨r, hr, hf2, hf1⟩
      · obtain rfl : R = 13 := by rw [hR.out]; exact chR_par CK.out LT.out (NP.out.mpr ⟨hpe, hf2⟩)
        rw [hf1] at FP
        clear hR hpe
        go_wp2_with fail
        refine FP.out.mono ?_; rintro e w4 ⟨rfl, rfl⟩
        go_wp2_with fail
        go_ret
        exact ⟨rfl, B3.out⟩
      · have NPN : Hid (¬ NoPar (mms ys) p) := fun h => by rw [(NP.out.mp h).2] at hf2; cases hf2
        rw [hf1] at FP
        clear hpe hf1 hf2 hr
        go_wp2_with fail
        refine FP.out.mono ?_; rintro e w4 ⟨rfl, rfl⟩
        clear FP
        by_cases k3 : k = 3
        · subst k3
          have FT := Lib.hid (rfind_any g _ n cap ys 1 t w3 HB3.out)
          have gq : ∀ q : Of (fun w' => Below w3.heap.size w3 w'), q.w.cell? ⟨g, 0, none⟩ = some (.slice a n cap) := fun q => (HB3.out.o.below q.h HB3.out.o.lt).get 0 rfl
          have mq : ∀ q : Of (fun w' => Below w3.heap.size w3 w'), q.w.cell? ⟨w.heap.size, 2, none⟩ = some (.int .i64 m) := fun q => (G3.out.below q.h G3.out.lt).get 2 rfl
          rcases fz_cases (mms ys) 1 t with ⟨hf1, hf2⟩ | ⟨r, hr, hf2, hf1⟩
          · obtain rfl : R = 15 := by rw [hR.out]; exact chR_file CK.out LT.out NPN.out ⟨rfl, fun r hr => by rw [show fnd (mms ys) 1 t = none from hf2] at hr; cases hr⟩
            rw [hf1] at FT
            clear hR
            have dF : decide ((-1 : Int) < 0) = true := rfl
            go_wp2_with fail
            refine FT.out.mono ?_; rintro e w4 ⟨rfl, rfl⟩
            go_wp2_with fail
            refine wp_region_class (S := fun w' => Below w3.heap.size w3 w') (by kernel_rfl) (by kernel_rfl) (Below.refl _ _).drew ?_
            intro hne'
            repeat (go_big_quiet_step (fail))
            refine wpQuiet_nil ?_
            rintro wq ⟨q, rfl⟩
            go_wp2
            go_ret
            exact ⟨rfl, belT B3.out q.h⟩
          · rw [hf1] at FT
            rw [HN.out] at hr
            obtain ⟨b', off', y', ea, hbl', hy', hf', hat'⟩ := HB3.out.r.get r hr
            subst ea
            have ER : Hid (ma (mms ys) r = y'.n) := ma_some (mms_at hy')
            have yq : ∀ q : Of (fun w' => Below w3.heap.size w3 w'), q.w.cell? ⟨b', off' + r * 6 + 2, none⟩ = some (.int .i64 y'.n.e.m) := fun q => ((hat'.below q.h hbl').c hy').2.2.1
            obtain ⟨m', hm'⟩ := named y'.n.e.m
            rw [← hm'.out] at yq
            have dF : decide ((r : Int) < 0) = false := decide_eq_false (by omega)
            have r0 : ¬ (r : Int) < 0 := by omega
            have r1 : (r : Int) < n := by omega
            have r2 : (r : Int) < cap := by have := HB.out.r.c; omega
            clear hbl' hy' hf' hat'
            by_cases hm : m' = m
            · have nm' : (m' != m) = false := by simpa using hm
              obtain rfl : R = 0 := by rw [hR.out]; exact chR_zero.mpr ⟨CK.out, LT.out, NPN.out, fun h => h.2 r hf2 (by rw [ER.out, ← hm'.out]; exact hm)⟩
              clear hR hm
              go_wp2_with fail
              refine FT.out.mono ?_; rintro e w4 ⟨rfl, rfl⟩
              go_wp2_with fail
              refine wp_region_class (S := fun w' => Below w3.heap.size w3 w') (by kernel_rfl) (by kernel_rfl) (Below.refl _ _).drew ?_
              intro hne'
              repeat (go_big_quiet_step (fail))
              refine wpQuiet_nil ?_
              rintro wq ⟨q, rfl⟩
              go_wp2
              go_ret
              exact ⟨rfl, belT B3.out q.h⟩
            · have nm' : (m' != m) = true := by simpa using hm
              obtain rfl : R = 15 := by
                rw [hR.out]
                refine chR_file CK.out LT.out NPN.out ⟨rfl, fun r' hr' => ?_⟩
                rw [show fnd (mms ys) 1 t = some r from hf2] at hr'
                obtain rfl : r = r' := Option.some.inj hr'
                rw [ER.out, ← hm'.out]; exact hm
              clear hR hm
              go_wp2_with fail
              refine FT.out.mono ?_; rintro e w4 ⟨rfl, rfl⟩
              go_wp2_with fail
              refine wp_region_class (S := fun w' => Below w3.heap.size w3 w') (by kernel_rfl) (by kernel_rfl) (Below.refl _ _).drew ?_
              intro hne'
              repeat (go_big_quiet_step (fail))
              refine wpQuiet_nil ?_
              rintro wq ⟨q, rfl⟩
              go_wp2
              go_ret
              exact ⟨rfl, belT B3.out q.h⟩
        · have nk : (k == 3) = false := by simpa using k3
          obtain rfl : R = 0 := by rw [hR.out]; exact chR_zero.mpr ⟨CK.out, LT.out, NPN.out, fun h => k3 h.1⟩
          clear hR k3
          go_wp2_with fail
          go_ret
          exact ⟨rfl, B3.out⟩
  · have N0 : 0 < (n : Int) := by omega
    have d1 : decide (0 < n) = true := decide_eq_true (by omega)
    obtain ⟨N, hN⟩ : ∃ N, n = N + 1 := ⟨n - 1, by omega⟩
    have nm : n ≤ 9223372036854775807 := by have := HB.out.r.c; have := HB.out.r.m; unfold maxLen at this; omega
    have nc : (n : Int) ≤ cap := by have := HB.out.r.c; omega
    have WN : IntKind.i64.wrap ((n : Int) - 1) = (N : Int) := by rw [show (n : Int) - 1 = (N : Int) by omega]; exact wrapI (by omega) (by omega)
    obtain ⟨b, off, y, rfl, hbl, hy, hf, hat⟩ := HB2.out.r.get N (by omega)
    have EY : Hid (ma (mms ys) ((mms ys).length - 1) = y.n) := by show _ = _; rw [HN.out, hN]; exact ma_some (mms_at hy)
    have yq : ∀ q : Of (fun w' => Below w2.heap.size w2 w'), q.w.cell? ⟨b, off + N * 6 + 1, none⟩ = some (.string y.n.e.p) := fun q => ((hat.below q.h hbl).c hy).2.1
    have YP : Hid (y.n.e.p.size ≤ maxLen) := Nat.le_trans hf.p (by unfold maxLen; omega)
    obtain ⟨yp, hyp⟩ := named y.n.e.p
    rw [← hyp.out] at yq
    obtain ⟨Z, hZ⟩ := named (cmpZ (numsOf yp) (numsOf p))
    have CZ : Hid (∀ q : World, Calls Tryd.prog 34 #[.string yp, .string p] q fun e w' => e = .returned (.int .i64 Z) ∧ Below q.heap.size q w') := fun q => by rw [hZ.out]; exact rcmp_any yp p q (by rw [hyp.out]; exact YP.out)
    have LZ : Hid (Late (mms ys) p ↔ 0 ≤ Z) := by
      show _ ↔ _
      unfold Late
      rw [EY.out, hZ.out, hyp.out, HN.out]
      exact ⟨fun h => h.2, fun h => ⟨by omega, h⟩⟩
    have n1 : (N : Int) < n := by omega
    have n2 : (N : Int) < cap := by omega
    clear hbl hy hf hat EY YP hyp hZ hn
    by_cases z0 : 0 ≤ Z
    · have d2 : decide (0 ≤ Z) = true := decide_eq_true z0
      obtain rfl : R = 12 := by rw [hR.out]; exact chR_late CK.out (LZ.out.mpr z0)
      clear hR
      go_wp2_with fail
      refine wp_region_class (S := fun w' => Below w2.heap.size w2 w') (by kernel_rfl) (by kernel_rfl) (Below.refl _ _).drew ?_
      intro hne'
      repeat (go_big_quiet_step ((go_at_call 34; exact Calls.in_class (CZ.out _) fun w' hb q => q.trans (hb.mono q.size))))
      refine wpQuiet_nil ?_
      rintro wq ⟨q, rfl⟩
      go_wp2
      go_ret
      exact ⟨rfl, belT B2.out q.h⟩
    · have d2 : decide (0 ≤ Z) = false := decide_eq_false z0
      have LT : Hid (¬ Late (mms ys) p) := fun h => z0 (LZ.out.mp h)
      go_wp2_with fail
      refine wp_region_class (S := fun w' => Below w2.heap.size w2 w') (by kernel_rfl) (by kernel_rfl) (Below.refl _ _).drew ?_
      intro hne'
      repeat (go_big_quiet_step ((go_at_call 34; exact Calls.in_class (CZ.out _) fun w' hb q => q.trans (hb.mono q.size))))
      refine wpQuiet_nil ?_
      rintro wq ⟨q, rfl⟩
      have B3 := Lib.hid (belT B2.out q.h)
      have HB3 := Lib.hid (HB2.out.below q.h)
      have G3 := Lib.hid (G2.out.below q.h G2.out.lt)
      obtain ⟨w3, hw3⟩ : ∃ w3, w3 = q.w := ⟨_, rfl⟩
      rw [← hw3] at B3 HB3 G3
      rw [← hw3]
      clear hw3 q hne' gq pq yq CZ LZ d1 d2 z0
      have e0 := G3.out.get 0 rfl; have e1 := G3.out.get 1 rfl; have e2 := G3.out.get 2 rfl; have e3 := G3.out.get 3 rfl
      go_wp2_with fail
      refine (C2.out w3).mono ?_; rintro e w4 ⟨rfl, rfl⟩
      by_cases hpe : P = emp
      · have NPN : Hid (¬ NoPar (mms ys) p) := fun h => (NP.out.mp h).1 hpe
        subst hpe
        by_cases k3 : k = 3
        · subst k3
          have FT := Lib.hid (rfind_any g _ n cap ys 1 t w3 HB3.out)
          have gq : ∀ q : Of (fun w' => Below w3.heap.size w3 w'), q.w.cell? ⟨g, 0, none⟩ = some (.slice (some ⟨b, off, none⟩) n cap) := fun q => (HB3.out.o.below q.h HB3.out.o.lt).get 0 rfl
          have mq : ∀ q : Of (fun w' => Below w3.heap.size w3 w'), q.w.cell? ⟨w.heap.size, 2, none⟩ = some (.int .i64 m) := fun q => (G3.out.below q.h G3.out.lt).get 2 rfl
          rcases fz_cases (mms ys) 1 t with ⟨hf1, hf2⟩ | ⟨r, hr, hf2, hf1⟩
          · obtain rfl : R = 15 := by rw [hR.out]; exact chR_file CK.out LT.out NPN.out ⟨rfl, fun r hr => by rw [show fnd (mms ys) 1 t = none from hf2] at hr; cases hr⟩
            rw [hf1] at FT
            clear hR
            have dF : decide ((-1 : Int) < 0) = true := rfl
            go_wp2_with fail
            refine FT.out.mono ?_; rintro e w4 ⟨rfl, rfl⟩
            go_wp2_with fail
            refine wp_region_class (S := fun w' => Below w3.heap.size w3 w') (by kernel_rfl) (by kernel_rfl) (Below.refl _ _).drew ?_
            intro hne'
            repeat (go_big_quiet_step (fail))
            refine wpQuiet_nil ?_
            rintro wq ⟨q, rfl⟩
            go_wp2
            go_ret
            exact ⟨rfl, belT B3.out q.h⟩
          · rw [hf1] at FT
            rw [HN.out] at hr
            obtain ⟨b', off', y', ea, hbl', hy', hf', hat'⟩ := HB3.out.r.get r hr
            injection ea with ea; injection ea with ea1 ea2; subst ea1; subst ea2
            have ER : Hid (ma (mms ys) r = y'.n) := ma_some (mms_at hy')
            have yq : ∀ q : Of (fun w' => Below w3.heap.size w3 w'), q.w.cell? ⟨b, off + r * 6 + 2, none⟩ = some (.int .i64 y'.n.e.m) := fun q => ((hat'.below q.h hbl').c hy').2.2.1
            obtain ⟨m', hm'⟩ := named y'.n.e.m
            rw [← hm'.out] at yq
            have dF : decide ((r : Int) < 0) = false := decide_eq_false (by omega)
            have r0 : ¬ (r : Int) < 0 := by omega
            have r1 : (r : Int) < n := by omega
            have r2 : (r : Int) < cap := by have := HB.out.r.c; omega
            clear hbl' hy' hf' hat'
            by_cases hm : m' = m
            · have nm' : (m' != m) = false := by simpa using hm
              obtain rfl : R = 0 := by rw [hR.out]; exact chR_zero.mpr ⟨CK.out, LT.out, NPN.out, fun h => h.2 r hf2 (by rw [ER.out, ← hm'.out]; exact hm)⟩
              clear hR hm
              go_wp2_with fail
              refine FT.out.mono ?_; rintro e w4 ⟨rfl, rfl⟩
              go_wp2_with fail
              refine wp_region_class (S := fun w' => Below w3.heap.size w3 w') (by kernel_rfl) (by kernel_rfl) (Below.refl _ _).drew ?_
              intro hne'
              repeat (go_big_quiet_step (fail))
              refine wpQuiet_nil ?_
              rintro wq ⟨q, rfl⟩
              go_wp2
              go_ret
              exact ⟨rfl, belT B3.out q.h⟩
            · have nm' : (m' != m) = true := by simpa using hm
              obtain rfl : R = 15 := by
                rw [hR.out]
                refine chR_file CK.out LT.out NPN.out ⟨rfl, fun r' hr' => ?_⟩
                rw [show fnd (mms ys) 1 t = some r from hf2] at hr'
                obtain rfl : r = r' := Option.some.inj hr'
                rw [ER.out, ← hm'.out]; exact hm
              clear hR hm
              go_wp2_with fail
              refine FT.out.mono ?_; rintro e w4 ⟨rfl, rfl⟩
              go_wp2_with fail
              refine wp_region_class (S := fun w' => Below w3.heap.size w3 w') (by kernel_rfl) (by kernel_rfl) (Below.refl _ _).drew ?_
              intro hne'
              repeat (go_big_quiet_step (fail))
              refine wpQuiet_nil ?_
              rintro wq ⟨q, rfl⟩
              go_wp2
              go_ret
              exact ⟨rfl, belT B3.out q.h⟩
        · have nk : (k == 3) = false := by simpa using k3
          obtain rfl : R = 0 := by rw [hR.out]; exact chR_zero.mpr ⟨CK.out, LT.out, NPN.out, fun h => k3 h.1⟩
          clear hR k3
          go_wp2_with fail
          go_ret
          exact ⟨rfl, B3.out⟩
      · have pe := empty_no hpe
        have FP := Lib.hid (rfind_any g _ n cap ys 0 P w3 HB3.out)
        rcases fz_cases (mms ys) 0 P with ⟨hf1, hf2⟩ | ⟨r, hr, hf2, hf1⟩
        · obtain rfl : R = 13 := by rw [hR.out]; exact chR_par CK.out LT.out (NP.out.mpr ⟨hpe, hf2⟩)
          rw [hf1] at FP
          clear hR hpe
          go_wp2_with fail
          refine FP.out.mono ?_; rintro e w4 ⟨rfl, rfl⟩
          go_wp2_with fail
          go_ret
          exact ⟨rfl, B3.out⟩
        · have NPN : Hid (¬ NoPar (mms ys) p) := fun h => by rw [(NP.out.mp h).2] at hf2; cases hf2
          rw [hf1] at FP
          clear hpe hf1 hf2 hr
          go_wp2_with fail
          refine FP.out.mono ?_; rintro e w4 ⟨rfl, rfl⟩
          clear FP
          by_cases k3 : k = 3
          · subst k3
            have FT := Lib.hid (rfind_any g _ n cap ys 1 t w3 HB3.out)
            have gq : ∀ q : Of (fun w' => Below w3.heap.size w3 w'), q.w.cell? ⟨g, 0, none⟩ = some (.slice (some ⟨b, off, none⟩) n cap) := fun q => (HB3.out.o.below q.h HB3.out.o.lt).get 0 rfl
            have mq : ∀ q : Of (fun w' => Below w3.heap.size w3 w'), q.w.cell? ⟨w.heap.size, 2, none⟩ = some (.int .i64 m) := fun q => (G3.out.below q.h G3.out.lt).get 2 rfl
            rcases fz_cases (mms ys) 1 t with ⟨hf1, hf2⟩ | ⟨r, hr, hf2, hf1⟩
            · obtain rfl : R = 15 := by rw [hR.out]; exact chR_file CK.out LT.out NPN.out ⟨rfl, fun r hr => by rw [show fnd (mms ys) 1 t = none from hf2] at hr; cases hr⟩
              rw [hf1] at FT
              clear hR
              have dF : decide ((-1 : Int) < 0) = true := rfl
              go_wp2_with fail
              refine FT.out.mono ?_; rintro e w4 ⟨rfl, rfl⟩
              go_wp2_with fail
              refine wp_region_class (S := fun w' => Below w3.heap.size w3 w') (by kernel_rfl) (by kernel_rfl) (Below.refl _ _).drew ?_
              intro hne'
              repeat (go_big_quiet_step (fail))
              refine wpQuiet_nil ?_
              rintro wq ⟨q, rfl⟩
              go_wp2
              go_ret
              exact ⟨rfl, belT B3.out q.h⟩
            · rw [hf1] at FT
              rw [HN.out] at hr
              obtain ⟨b', off', y', ea, hbl', hy', hf', hat'⟩ := HB3.out.r.get r hr
              injection ea with ea; injection ea with ea1 ea2; subst ea1; subst ea2
              have ER : Hid (ma (mms ys) r = y'.n) := ma_some (mms_at hy')
              have yq : ∀ q : Of (fun w' => Below w3.heap.size w3 w'), q.w.cell? ⟨b, off + r * 6 + 2, none⟩ = some (.int .i64 y'.n.e.m) := fun q => ((hat'.below q.h hbl').c hy').2.2.1
              obtain ⟨m', hm'⟩ := named y'.n.e.m
              rw [← hm'.out] at yq
              have dF : decide ((r : Int) < 0) = false := decide_eq_false (by omega)
              have r0 : ¬ (r : Int) < 0 := by omega
              have r1 : (r : Int) < n := by omega
              have r2 : (r : Int) < cap := by have := HB.out.r.c; omega
              clear hbl' hy' hf' hat'
              by_cases hm : m' = m
              · have nm' : (m' != m) = false := by simpa using hm
                obtain rfl : R = 0 := by rw [hR.out]; exact chR_zero.mpr ⟨CK.out, LT.out, NPN.out, fun h => h.2 r hf2 (by rw [ER.out, ← hm'.out]; exact hm)⟩
                clear hR hm
                go_wp2_with fail
                refine FT.out.mono ?_; rintro e w4 ⟨rfl, rfl⟩
                go_wp2_with fail
                refine wp_region_class (S := fun w' => Below w3.heap.size w3 w') (by kernel_rfl) (by kernel_rfl) (Below.refl _ _).drew ?_
                intro hne'
                repeat (go_big_quiet_step (fail))
                refine wpQuiet_nil ?_
                rintro wq ⟨q, rfl⟩
                go_wp2
                go_ret
                exact ⟨rfl, belT B3.out q.h⟩
              · have nm' : (m' != m) = true := by simpa using hm
                obtain rfl : R = 15 := by
                  rw [hR.out]
                  refine chR_file CK.out LT.out NPN.out ⟨rfl, fun r' hr' => ?_⟩
                  rw [show fnd (mms ys) 1 t = some r from hf2] at hr'
                  obtain rfl : r = r' := Option.some.inj hr'
                  rw [ER.out, ← hm'.out]; exact hm
                clear hR hm
                go_wp2_with fail
                refine FT.out.mono ?_; rintro e w4 ⟨rfl, rfl⟩
                go_wp2_with fail
                refine wp_region_class (S := fun w' => Below w3.heap.size w3 w') (by kernel_rfl) (by kernel_rfl) (Below.refl _ _).drew ?_
                intro hne'
                repeat (go_big_quiet_step (fail))
                refine wpQuiet_nil ?_
                rintro wq ⟨q, rfl⟩
                go_wp2
                go_ret
                exact ⟨rfl, belT B3.out q.h⟩
          · have nk : (k == 3) = false := by simpa using k3
            obtain rfl : R = 0 := by rw [hR.out]; exact chR_zero.mpr ⟨CK.out, LT.out, NPN.out, fun h => k3 h.1⟩
            clear hR k3
            go_wp2_with fail
            go_ret
            exact ⟨rfl, B3.out⟩
end Go.Proofs.YtinmkgpmoclcoaaDoor.Reb
