/- EtrPRec UstDec FitSet MapStr -/
import Derived.Test.YtbbaleambgaanaaGreatDoorQ21
import Derived.Test.YtbbaleambgaanaaGreatDoorQ22
import Derived.Test.YtbbaleambgaanaaGreatDoorQ29
import Derived.Test.YtbbaleambgaanaaGreatDoorQ5
import Derived.Test.YtbbaleambgaanaaGreatDoorQ3
import Derived.Test.YtbbaleambgaanaaGreatDoorQ16
import Derived.Test.YtbbaleambgaanaaGreatDoorQ1
import Derived.MapKept
namespace Go.Proofs.YtbbaleambgaanaaGreatDoor.Etr
open Go.RowKit Go.Proofs.YtbbaleambgaanaaGreatDoor.Fit Pxr Pnm
section
variable {lo hi q B : Nat} {Z : List Int} {E : Int} {o : Nat} {nm pf lk : ByteArray} {md sz : Int}
set_option maxRecDepth 100000 in
set_option maxHeartbeats 4000000 in
theorem prec_pax (w : World) (h : Rdr w lo hi q Z E (o + 512) 0) (hp : ¬ paxOk ⟨120, nm, pf, lk, md, sz⟩) :
    Calls Tryz.prog 75 #[.pointer (some ⟨q, 0, none⟩), .agg (Ust.hdV 120 nm pf lk md sz).toArray] w fun e w' => RetRc [] o 17 w e w' ∧ Below w.heap.size w w' := by
  have H := Lib.hid h
  have HX : Hid (∀ w, Calls Tryz.prog 127 #[.agg (Ust.hdV 120 nm pf lk md sz).toArray] w fun e w' => e = .returned (.bool false) ∧ Below w.heap.size w w') := fun w => isx_any nm pf lk md sz w false ⟨fun h => (by cases h), fun h => absurd h hp⟩
  clear h hp
  go_enter Tryz.func75, Tryz.ntmps75
  go_wp2_with (first | (refine wpList_box_obj rfl 56 _ rfl (Ust.hdV 120 nm pf lk md sz) rfl ?_; intro w1 h1 b1; have H1 := Lib.hid h1; have B1 := Lib.hid b1; have c0 := h1.get 0 rfl; have c1 := h1.get 1 rfl; have c2 := h1.get 2 rfl; have c3 := h1.get 3 rfl; have c4 := h1.get 4 rfl; have c5 := h1.get 5 rfl; clear h1 b1))
  refine (HX.out w1).mono ?_; rintro e w2 ⟨rfl, b2⟩
  have B2 := Lib.hid (belT B1.out b2); have R2 := Lib.hid (H.out.below B2.out)
  clear b2 c0 c1 c2 c3 c4 c5
  go_wp2_with fail
  refine (last_any w2 R2.out o rfl).mono ?_; rintro e w3 ⟨rfl, rfl⟩
  go_wp2_with fail
  go_ret3
  exact ⟨.nil, B2.out⟩
set_option maxRecDepth 100000 in
set_option maxHeartbeats 4000000 in
theorem prec_read {s : Nat} (w : World) (h : Rdr w lo hi q Z E (o + 512) 0) (hEE : E = 11 ∨ E = 4) (hs1 : 1 ≤ s) (hs2 : s ≤ 262144) (hE : rdE Z E (o + 512) 0 s ≠ 0) :
    Calls Tryz.prog 75 #[.pointer (some ⟨q, 0, none⟩), .agg (Ust.hdV 120 kPax emp emp 0 s).toArray] w fun e w' => RetRc [] (rdP Z (o + 512) 0 s) (rdE Z E (o + 512) 0 s) w e w' ∧ Rdr w' lo hi q Z E (rdO Z (o + 512) 0 s) (rdS Z E (o + 512) 0 s) ∧ Out lo hi w w' := by
  have H := Lib.hid h; have HEE := Lib.hid hEE; have HS1 := Lib.hid hs1; have HS2 := Lib.hid hs2
  obtain ⟨V, hV⟩ := named (rdE Z E (o + 512) 0 s)
  obtain ⟨P, hP⟩ := named (rdP Z (o + 512) 0 s)
  rw [← hV.out] at hE
  rw [← hV.out, ← hP.out]
  have hne : (V != 0) = true := by simp [hE]
  clear h hEE hs1 hs2 hE
  go_enter Tryz.func75, Tryz.ntmps75
  go_wp2_with (first | (refine wpList_box_obj rfl 56 _ rfl (Ust.hdV 120 kPax emp emp 0 s) rfl ?_; intro w1 h1 b1; have H1 := Lib.hid h1; have B1 := Lib.hid b1; have c0 := h1.get 0 rfl; have c1 := h1.get 1 rfl; have c2 := h1.get 2 rfl; have c3 := h1.get 3 rfl; have c4 := h1.get 4 rfl; have c5 := h1.get 5 rfl; clear h1 b1))
  refine (isx_any kPax emp emp 0 s w1 true ⟨fun _ => paxOk_hX HS1.out HS2.out, fun _ => rfl⟩).mono ?_; rintro e w2 ⟨rfl, b2⟩
  have R2 := Lib.hid (H.out.below (belT B1.out b2)); have B2 := Lib.hid (belT B1.out b2); have H2 := Lib.hid (H1.out.below b2 H1.out.lt); have d5 := H2.out.get 5 rfl
  clear b2 c0 c1 c2 c3 c4 c5
  go_wp2_with fail
  refine (rdr_off w2 R2.out).mono ?_; rintro e w3 ⟨rfl, rfl⟩
  go_wp2_with fail
  refine (pread_any (s : Int) w2 R2.out HEE.out).mono ?_; rintro e w3 ⟨⟨b3, c3, rfl, l3, i3, x3⟩, r3, u3⟩
  rw [← hV.out, ← hP.out]
  have R3 := Lib.hid r3; have U3 := Lib.hid u3
  clear l3 i3 x3 r3 u3
  go_wp2_with fail
  go_ret3
  exact ⟨.nil, R3.out, (Out.of_below B2.out (Nat.le_refl _)).trans U3.out⟩
set_option maxRecDepth 100000 in
set_option maxHeartbeats 4000000 in
theorem prec_par {s : Nat} (w : World) (h : Rdr w lo hi q Z E (o + 512) 0) (hEE : E = 11 ∨ E = 4) (V : MV B w) (hB : B ≤ lo) (hs1 : 1 ≤ s) (hs2 : s ≤ 262144) (hE : rdE Z E (o + 512) 0 s = 0) (hP : (Pxr.parZ (rdD Z (o + 512) 0 s)).2.2 ≠ 0) :
    Calls Tryz.prog 75 #[.pointer (some ⟨q, 0, none⟩), .agg (Ust.hdV 120 kPax emp emp 0 s).toArray] w fun e w' => RetRc [] ((o + 512 + (Pxr.parZ (rdD Z (o + 512) 0 s)).2.1 : Nat) : Int) (Pxr.parZ (rdD Z (o + 512) 0 s)).2.2 w e w' ∧ Rdr w' lo hi q Z E (rdO Z (o + 512) 0 s) (rdS Z E (o + 512) 0 s) ∧ Out lo hi w w' := by
  have H := Lib.hid h; have HEE := Lib.hid hEE; have HS1 := Lib.hid hs1; have HS2 := Lib.hid hs2; have HV := Lib.hid V; have HB := Lib.hid hB
  have HE := Lib.hid hE
  have ZB := Lib.hid h.bd
  have ho8 : (o : Int) + 512 ≤ 140737488355328 := by have := ZB.out.1; have := h.size.2.2.2; omega
  obtain ⟨D, hD⟩ := named (rdD Z (o + 512) 0 s)
  have DL : Hid (D.length ≤ 262144) := by show _ ≤ _; rw [hD.out]; exact Nat.le_trans (rdD_le Z (o + 512) 0 s) hs2
  have DB : Hid (Bytes D) := by show Bytes _; rw [hD.out]; exact rdD_bytes ZB.out.2 _ _ _
  obtain ⟨V', hV'⟩ := named (Pxr.parZ D).2.2
  obtain ⟨N, hN⟩ := named (Pxr.parZ D).2.1
  rw [← hD.out, ← hV'.out] at hP
  rw [← hD.out, ← hV'.out, ← hN.out]
  have hne : (V' != 0) = true := by simp [hP]
  have hN8 : (N : Int) ≤ 262144 := by
    have := par_says D DB.out
    have h2 := DL.out
    rw [hN.out]
    omega
  clear h hEE hs1 hs2 hE hP V hB
  go_enter Tryz.func75, Tryz.ntmps75
  go_wp2_with (first | (refine wpList_box_obj rfl 56 _ rfl (Ust.hdV 120 kPax emp emp 0 s) rfl ?_; intro w1 h1 b1; have H1 := Lib.hid h1; have B1 := Lib.hid b1; have c0 := h1.get 0 rfl; have c1 := h1.get 1 rfl; have c2 := h1.get 2 rfl; have c3 := h1.get 3 rfl; have c4 := h1.get 4 rfl; have c5 := h1.get 5 rfl; clear h1 b1))
  refine (isx_any kPax emp emp 0 s w1 true ⟨fun _ => paxOk_hX HS1.out HS2.out, fun _ => rfl⟩).mono ?_; rintro e w2 ⟨rfl, b2⟩
  have R2 := Lib.hid (H.out.below (belT B1.out b2)); have B2 := Lib.hid (belT B1.out b2); have H2 := Lib.hid (H1.out.below b2 H1.out.lt); have d5 := H2.out.get 5 rfl
  clear b2 c0 c1 c2 c3 c4 c5
  go_wp2_with fail
  refine (rdr_off w2 R2.out).mono ?_; rintro e w3 ⟨rfl, rfl⟩
  go_wp2_with fail
  refine (pread_any (s : Int) w2 R2.out HEE.out).mono ?_; rintro e w3 ⟨⟨b3, c3, rfl, l3, i3, x3⟩, r3, u3⟩
  rw [← hD.out] at i3 l3
  rw [HE.out, ← hD.out]
  have R3 := Lib.hid r3; have U3 := Lib.hid ((Out.of_below B2.out (Nat.le_refl _)).trans u3)
  have V3 := Lib.hid (HV.out.out U3.out HB.out)
  go_wp2_with fail
  refine (parse_any b3 D.length c3 D w3 V3.out.v.f.v rfl DB.out (i3.bytes DB.out) (by have := DL.out; omega)).mono ?_; rintro e w4 ⟨a4, l4, c4', rfl, e4, f4, g4, h4, b4⟩
  rw [← hV'.out, ← hN.out]
  have R4 := Lib.hid (R3.out.below b4); have U4 : Hid (Out lo hi w3 w4) := Out.of_below b4 (Nat.le_refl _)
  clear l3 i3 x3 r3 u3 e4 f4 g4 h4 b4
  go_wp2_with fail
  go_ret3
  exact ⟨.nil, R4.out, U3.out.trans U4.out⟩
set_option maxRecDepth 100000 in
set_option maxHeartbeats 4000000 in
theorem prec_ok {s : Nat} (w : World) (h : Rdr w lo hi q Z E (o + 512) 0) (hEE : E = 11 ∨ E = 4) (V : MV B w) (hB : B ≤ lo) (hs1 : 1 ≤ s) (hs2 : s ≤ 262144) (hE : rdE Z E (o + 512) 0 s = 0) (hP : (Pxr.parZ (rdD Z (o + 512) 0 s)).2.2 = 0) :
    Calls Tryz.prog 75 #[.pointer (some ⟨q, 0, none⟩), .agg (Ust.hdV 120 kPax emp emp 0 s).toArray] w fun e w' => RetRc (Pxr.parZ (rdD Z (o + 512) 0 s)).1 0 0 w e w' ∧ Rdr w' lo hi q Z E (rdO Z (o + 512) 0 s) (rdS Z E (o + 512) 0 s) ∧ Out lo hi w w' := by
  have H := Lib.hid h; have HEE := Lib.hid hEE; have HS1 := Lib.hid hs1; have HS2 := Lib.hid hs2; have HV := Lib.hid V; have HB := Lib.hid hB
  have HE := Lib.hid hE
  have ZB := Lib.hid h.bd
  obtain ⟨D, hD⟩ := named (rdD Z (o + 512) 0 s)
  have DL : Hid (D.length ≤ 262144) := by show _ ≤ _; rw [hD.out]; exact Nat.le_trans (rdD_le Z (o + 512) 0 s) hs2
  have DB : Hid (Bytes D) := by show Bytes _; rw [hD.out]; exact rdD_bytes ZB.out.2 _ _ _
  obtain ⟨N, hN⟩ := named (Pxr.parZ D).2.1
  obtain ⟨L, hL⟩ := named (Pxr.parZ D).1
  rw [← hD.out] at hP
  have HP := Lib.hid hP
  rw [← hD.out, ← hL.out]
  clear h hEE hs1 hs2 hE hP V hB
  go_enter Tryz.func75, Tryz.ntmps75
  go_wp2_with (first | (refine wpList_box_obj rfl 56 _ rfl (Ust.hdV 120 kPax emp emp 0 s) rfl ?_; intro w1 h1 b1; have H1 := Lib.hid h1; have B1 := Lib.hid b1; have c0 := h1.get 0 rfl; have c1 := h1.get 1 rfl; have c2 := h1.get 2 rfl; have c3 := h1.get 3 rfl; have c4 := h1.get 4 rfl; have c5 := h1.get 5 rfl; clear h1 b1))
  refine (isx_any kPax emp emp 0 s w1 true ⟨fun _ => paxOk_hX HS1.out HS2.out, fun _ => rfl⟩).mono ?_; rintro e w2 ⟨rfl, b2⟩
  have R2 := Lib.hid (H.out.below (belT B1.out b2)); have B2 := Lib.hid (belT B1.out b2); have H2 := Lib.hid (H1.out.below b2 H1.out.lt); have d5 := H2.out.get 5 rfl
  clear b2 c0 c1 c2 c3 c4 c5
  go_wp2_with fail
  refine (rdr_off w2 R2.out).mono ?_; rintro e w3 ⟨rfl, rfl⟩
  go_wp2_with fail
  refine (pread_any (s : Int) w2 R2.out HEE.out).mono ?_; rintro e w3 ⟨⟨b3, c3, rfl, l3, i3, x3⟩, r3, u3⟩
  rw [← hD.out] at i3 l3
  rw [HE.out, ← hD.out]
  have R3 := Lib.hid r3; have U3 := Lib.hid ((Out.of_below B2.out (Nat.le_refl _)).trans u3)
  have V3 := Lib.hid (HV.out.out U3.out HB.out)
  go_wp2_with fail
  refine (parse_new b3 D.length c3 D w3 V3.out.v.f.v rfl DB.out (i3.bytes DB.out) (by have := DL.out; omega)).mono ?_; rintro e w4 ⟨a4, l4, c4', rfl, e4, f4, g4, h4, b4, y4⟩
  rw [HP.out, ← hN.out]
  rw [← hL.out] at e4 h4
  have R4 := Lib.hid (R3.out.below b4); have U4 : Hid (Out lo hi w3 w4) := Out.of_below b4 (Nat.le_refl _)
  have HR4 := Lib.hid h4; have E4 := Lib.hid e4; have F4 := Lib.hid f4; have G4 := Lib.hid g4; have Y4 : Hid (∀ x, a4 = some x → w.heap.size ≤ x.block) := fun x hx => Nat.le_trans U3.out.size (y4 x hx)
  clear l3 i3 x3 r3 u3 e4 f4 g4 h4 b4 y4
  go_wp2_with fail
  go_ret3
  exact ⟨⟨a4, l4, c4', rfl, E4.out.symm, F4.out, G4.out, HR4.out, Y4.out⟩, R4.out, U3.out.trans U4.out⟩
theorem prec_any (w : World) (h : Rdr w lo hi q Z E (o + 512) 0) (hEE : E = 11 ∨ E = 4) (V : MV B w) (hB : B ≤ lo) :
    Calls Tryz.prog 75 #[.pointer (some ⟨q, 0, none⟩), .agg (Ust.hdV 120 nm pf lk md sz).toArray] w fun e w' => RetRc (rcR Z E o ⟨120, nm, pf, lk, md, sz⟩) (rcP Z E o ⟨120, nm, pf, lk, md, sz⟩ : Nat) (rcE Z E o ⟨120, nm, pf, lk, md, sz⟩) w e w' ∧ Rdr w' lo hi q Z E (rcO Z o ⟨120, nm, pf, lk, md, sz⟩) (rcS Z E o ⟨120, nm, pf, lk, md, sz⟩) ∧ Out lo hi w w' := by
  by_cases hp : paxOk ⟨120, nm, pf, lk, md, sz⟩
  · obtain ⟨h1, h2, h3, h4, h5, h6⟩ := id hp
    obtain ⟨s, hs⟩ : ∃ s : Nat, sz = s := ⟨sz.toNat, by simp only at h5; omega⟩
    simp only at h1 h2 h3 h4 h5 h6
    subst h1; subst h2; subst h3; subst h4; subst hs
    by_cases hr : rdE Z E (o + 512) 0 (s : Int) = 0
    · by_cases hq : (Pxr.parZ (rdD Z (o + 512) 0 (s : Int))).2.2 = 0
      · obtain ⟨e1, e2, e3, e4, e5⟩ := rc_ok hp hr hq
        rw [e1, e2, e3, e4, e5]
        exact prec_ok w h hEE V hB (by omega) (by omega) hr hq
      · obtain ⟨e1, e2, e3, e4, e5⟩ := rc_par hp hr hq
        rw [e1, e2, e3, e4, e5]
        exact prec_par w h hEE V hB (by omega) (by omega) hr hq
    · obtain ⟨e1, e2, e3, e4, e5⟩ := rc_read hp hr
      rw [e1, e2, e3, e4, e5]
      exact prec_read w h hEE (by omega) (by omega) hr
  · obtain ⟨e1, e2, e3, e4, e5⟩ := rc_pax (Z := Z) (E := E) (o := o) hp
    rw [e1, e2, e3, e4, e5]
    exact (prec_pax w h hp).mono fun e w' ⟨h1, h2⟩ => ⟨h1, h.below h2, Out.of_below h2 (Nat.le_refl _)⟩
end
end Go.Proofs.YtbbaleambgaanaaGreatDoor.Etr
namespace Go.Proofs.YtbbaleambgaanaaGreatDoor.Ust
open Oct Cst Chk
def dH (zs : List Int) : List Go.Value := if deE zs = 0 then hdV (dT zs) (dNm zs) (dPf zs) (dLk zs) (dMd zs) (dSz zs) else hd0
theorem de_len {zs : List Int} (h : zs.length ≠ 512) : deE zs = 2 ∧ dH zs = hd0 := by
  have e : deE zs = 2 := by unfold deE; rw [if_pos h]
  exact ⟨e, by unfold dH; rw [if_neg (by rw [e]; decide)]⟩
theorem de_ver {zs : List Int} (h : zs.length = 512) (hv : ¬ zs = sealZ zs) : deE zs = 9 ∧ dH zs = hd0 := by
  have e : deE zs = 9 := by unfold deE; rw [if_neg (by simp [h]), if_pos hv]
  exact ⟨e, by unfold dH; rw [if_neg (by rw [e]; decide)]⟩
theorem de_kind {zs : List Int} (h : zs.length = 512) (hv : zs = sealZ zs) (hk : ¬ known (dT zs)) : deE zs = 8 ∧ dH zs = hd0 := by
  have e : deE zs = 8 := by unfold deE; rw [if_neg (by simp [h]), if_neg (not_not_intro hv), if_pos hk]
  exact ⟨e, by unfold dH; rw [if_neg (by rw [e]; decide)]⟩
theorem de_syn {zs : List Int} (h : zs.length = 512) (hv : zs = sealZ zs) (hk : known (dT zs)) (ho : ¬ dOk zs) : deE zs = 6 ∧ dH zs = hd0 := by
  have e : deE zs = 6 := by unfold deE; rw [if_neg (by simp [h]), if_neg (not_not_intro hv), if_neg (not_not_intro hk), if_neg ho]
  exact ⟨e, by unfold dH; rw [if_neg (by rw [e]; decide)]⟩
theorem de_good {zs : List Int} (h : zs.length = 512) (hv : zs = sealZ zs) (hk : known (dT zs)) (ho : dOk zs) : deE zs = 0 ∧ dH zs = hdV (dT zs) (dNm zs) (dPf zs) (dLk zs) (dMd zs) (dSz zs) := by
  have e : deE zs = 0 := by unfold deE; rw [if_neg (by simp [h]), if_neg (not_not_intro hv), if_neg (not_not_intro hk), if_pos ho]
  exact ⟨e, by unfold dH; rw [if_pos e]⟩
end Go.Proofs.YtbbaleambgaanaaGreatDoor.Ust
namespace Go.Proofs.YtbbaleambgaanaaGreatDoor.Fit
open Go.RowKit Pxr Pnm
theorem pint_any (s : ByteArray) (w : World) (V : MVars w) (hs : s.size ≤ 281474976710656) : Calls Tryz.prog 161 #[.string s, .int .i64 10, .int .i64 64] w fun e w' => ∃ x, e = .returned (.tuple #[.int .i64 (pzI s), x]) ∧ Below w.heap.size w w' := by
  obtain ⟨_, ⟨tp, p, h1⟩, ⟨tq, q, h2⟩⟩ := V
  cases h : Lib.parseIntB 64 s.data.toList
  case ok v =>
    have e : pzI s = v := by unfold pzI; rw [h]
    rw [e]
    refine (Tryz.strconv_ParseInt_10_at64_ok s (by omega) v h w).mono ?_
    rintro e w' ⟨rfl, hw⟩
    refine ⟨_, rfl, ?_⟩
    rcases hw with rfl | ⟨t, rfl⟩
    · exact Below.refl _ _
    · exact Lib.bytesWorld_below _ _ _
  case range =>
    have e : pzI s = Lib.intSat 64 s.data.toList := by unfold pzI; rw [h]
    rw [e]
    refine (Tryz.strconv_ParseInt_10_at64_range_var s hs h tq q w h2).mono ?_
    rintro e w' ⟨N, rfl, _, _, hb⟩
    exact ⟨_, rfl, hb⟩
  all_goals
    have e : pzI s = 0 := by unfold pzI; rw [h]
    rw [e]
    refine (Tryz.strconv_ParseInt_10_at64_syntax_var s hs h tp p w h1).mono ?_
    rintro e w' ⟨N, rfl, _, _, hb⟩
    exact ⟨_, rfl, hb⟩
def SetD (g : Nat) (vs : List Value) (w : World) (e : Ending) (w' : World) : Prop := e = .returned (.tuple #[]) ∧ ObjAt w' g 200 vs ∧ Out g (g + 1) w w'
theorem set_outD {w : World} {g : Nat} (i : Nat) (v : Value) : Out g (g + 1) w (w.setCell ⟨g, i, none⟩ v) := Out.setCell (p := ⟨g, i, none⟩) (Out.refl g (g + 1) w) (Nat.le_refl _) (Nat.lt_succ_self _) v
set_option maxHeartbeats 1000000 in
theorem st_target (g : Nat) (k : Int) (p : ByteArray) (m : Int) (t : ByteArray) (s : Int) (v : ByteArray) (w : World) (hh : ObjAt w g 200 (enV k p m t s)) :
    Calls Tryz.prog 132 #[.pointer (some ⟨g, 0, none⟩), .string v] w (SetD g (enV k p m v s) w) := by
  have H := Lib.hid hh; have c0 := hh.get 3 rfl; have f0 := hh.frozen 3
  clear hh
  go_enter Tryz.func132, Tryz.ntmps132
  go_wp2
  go_end0
  exact ⟨rfl, H.out.set 3 _, set_outD _ _⟩
set_option maxHeartbeats 1000000 in
theorem st_path (g : Nat) (k : Int) (p : ByteArray) (m : Int) (t : ByteArray) (s : Int) (v : ByteArray) (w : World) (hh : ObjAt w g 200 (enV k p m t s)) :
    Calls Tryz.prog 133 #[.pointer (some ⟨g, 0, none⟩), .string v] w (SetD g (enV k v m t s) w) := by
  have H := Lib.hid hh; have c0 := hh.get 1 rfl; have f0 := hh.frozen 1
  clear hh
  go_enter Tryz.func133, Tryz.ntmps133
  go_wp2
  go_end0
  exact ⟨rfl, H.out.set 1 _, set_outD _ _⟩
set_option maxHeartbeats 1000000 in
theorem st_size (g : Nat) (k : Int) (p : ByteArray) (m : Int) (t : ByteArray) (s : Int) (v : ByteArray) (w : World) (V : MVars w) (hv : v.size ≤ 281474976710656) (hh : ObjAt w g 200 (enV k p m t s)) :
    Calls Tryz.prog 134 #[.pointer (some ⟨g, 0, none⟩), .string v] w (SetD g (enV k p m t (pzI v)) w) := by
  have H := Lib.hid hh
  have HP := Lib.hid (pint_any v w V hv)
  obtain ⟨z, hz⟩ := named (pzI v)
  rw [← hz.out] at HP ⊢
  clear hh hz V hv
  go_enter Tryz.func134, Tryz.ntmps134
  go_wp2_with fail
  refine HP.out.mono ?_; rintro e w1 ⟨x, rfl, b1⟩
  have H1 := Lib.hid (H.out.below b1 H.out.lt)
  have c0 := H1.out.get 4 rfl; have f0 := H1.out.frozen 4
  have O1 := Lib.hid (Out.of_below (lo := g) (hi := g + 1) b1 (Nat.le_refl _))
  clear b1
  go_wp2
  go_end0
  exact ⟨rfl, H1.out.set 4 _, O1.out.trans (set_outD _ _)⟩
def KindRel (T : Int) (i : Value) : Prop := ∃ j : Nat, i = .int .i64 j ∧ j ≤ 4 ∧ ∀ q : Nat, q < j → tyZ q ≠ T
theorem idx_tys (w : World) (xs : Array Value) (i : Nat) (hi : i < 4) (z : Int) (hx : xs[i]? = some (.int .u8 z)) : (Instr.index 105 (.agg xs) (.int .i64 (i : Int))).run Tryz.prog w = .ok (.int .u8 z) w := by
  have he : (Tryz.prog.info? 5).map (·.size) = some 1 := by kernel_rfl
  cases hq : Tryz.prog.info? 5 with
  | none => simp [hq] at he
  | some j =>
    have hs : j.size = 1 := by simpa [hq] using he
    simp [Instr.index, asIntOf, run_underlying Tryz.underlying105, hi, sizeOf, typeInfo, hq, hs, part, hx]
theorem tys_nat (j : Nat) (h : j < 4) : (#[.int .u8 53, .int .u8 48, .int .u8 50, .int .u8 49] : Array Value)[j]? = some (.int .u8 (tyZ j)) := by
  rcases (show j = 0 ∨ j = 1 ∨ j = 2 ∨ j = 3 by omega) with rfl | rfl | rfl | rfl <;> rfl
theorem kd_hit {T : Int} {j : Nat} (h : j < 4) (he : tyZ j = T) : kdZ T = j := by
  rw [← he]; exact kd_ty (by omega) (by omega)
theorem kd_miss {T : Int} (h : ∀ q : Nat, q < 4 → tyZ q ≠ T) : kdZ T = -1 := by
  have h0 := h 0 (by decide); have h1 := h 1 (by decide); have h2 := h 2 (by decide); have h3 := h 3 (by decide)
  have e0 : (53 : Int) ≠ T := h0
  have e1 : (48 : Int) ≠ T := h1
  have e2 : (50 : Int) ≠ T := h2
  have e3 : (49 : Int) ≠ T := h3
  unfold kdZ
  rw [if_neg (fun e => e0 e.symm), if_neg (fun e => e1 e.symm), if_neg (fun e => e2 e.symm), if_neg (fun e => e3 e.symm)]
set_option maxHeartbeats 2000000 in
set_option maxRecDepth 100000 in
theorem kind_any (T : Int) (w : World) (V : FVars w) : Calls Tryz.prog 130 #[.int .u8 T] w fun e w' => e = .returned (.int .i64 (kdZ T)) ∧ w = w' := by
  obtain ⟨R, hR⟩ := named (kdZ T)
  rw [← hR.out]
  have hc := V.tys.cell gTys
  have c0 : w.cell? ⟨0, 0, none⟩ = some (.int .u8 53) := hc 0 (by decide)
  have c1 : w.cell? ⟨0, 1, none⟩ = some (.int .u8 48) := hc 1 (by decide)
  have c2 : w.cell? ⟨0, 2, none⟩ = some (.int .u8 50) := hc 2 (by decide)
  have c3 : w.cell? ⟨0, 3, none⟩ = some (.int .u8 49) := hc 3 (by decide)
  clear V hc
  go_enter Tryz.func130, Tryz.ntmps130
  go_wp2_with fail
  clear c0 c1 c2 c3
  go_loop [6] (fun i => KindRel T i) (fun i => 4 - (intOf i).toNat)
  case atStart => exact ⟨0, rfl, by decide, fun q hq => by omega⟩
  case round =>
    obtain ⟨j, rfl, hj, hd⟩ := hrel
    have HD := Lib.hid hd
    clear hd
    by_cases hlt : j < 4
    · obtain ⟨z, hz⟩ := named (tyZ j)
      have hix := idx_tys w #[.int .u8 53, .int .u8 48, .int .u8 50, .int .u8 49] j hlt z (by rw [hz.out]; exact tys_nat j hlt)
      have HZ := hz
      clear hz
      have j1 : (j : Int) < 4 := by omega
      by_cases he : z = T
      · subst he
        have e := hR.out; rw [kd_hit hlt HZ.out.symm] at e; subst e
        clear hR
        go_wp2
        go_ret
        exact ⟨rfl, rfl⟩
      · have n1 : (z == T) = false := by simpa using he
        have HE := Lib.hid he
        clear he
        go_wp2
        go_round
        case rel => exact ⟨j + 1, by go_num, by omega, fun q hq => by
          by_cases h' : q < j
          · exact HD.out q h'
          · obtain rfl : q = j := by omega
            rw [← HZ.out]; exact HE.out⟩
        case measure => simp [intOf]; omega
    · obtain rfl : j = 4 := by omega
      have e := hR.out; rw [kd_miss HD.out] at e; subst e
      clear hR
      go_wp2
      go_ret
      exact ⟨rfl, rfl⟩
end Go.Proofs.YtbbaleambgaanaaGreatDoor.Fit
namespace Go.Proofs.YtbbaleambgaanaaGreatDoor
open Go.RowKit Go.MapKept
def MapAt (w : World) (g : Nat) (es : List (ByteArray × Value)) : Prop :=
  ∃ (xs : Array MapEntry) (clk : Nat), w.heap[g]? = some (.map xs clk) ∧ xs.toList.map (fun e => (e.key, e.val)) = es.map (fun e => (.string e.1, e.2))
theorem MapAt.lt {w : World} {g : Nat} {es : List (ByteArray × Value)} (h : MapAt w g es) : g < w.heap.size := by
  obtain ⟨xs, clk, h, _⟩ := h
  exact (Array.getElem?_eq_some_iff.1 h).1
theorem MapAt.block {w w' : World} {g : Nat} {es : List (ByteArray × Value)} (h : MapAt w g es) (e : w'.heap[g]? = w.heap[g]?) : MapAt w' g es := by
  obtain ⟨xs, clk, h, h2⟩ := h
  exact ⟨xs, clk, e.trans h, h2⟩
theorem MapAt.below {w w' : World} {B g : Nat} {es : List (ByteArray × Value)} (h : MapAt w g es) (hb : Below B w w') (hg : g < B) : MapAt w' g es := h.block (hb.block g hg)
def lookS (es : List (ByteArray × Value)) (k : ByteArray) : Option Value := (es.find? fun e => decide (e.1 = k)).map (·.2)
theorem eq_str (k s : ByteArray) : (k == s) = decide (k = s) := by
  by_cases h : k = s
  · rw [decide_eq_true h]; exact (bytes_beq _ _).2 h
  · rw [decide_eq_false h]
    cases h' : (k == s) with
    | true => exact absurd ((bytes_beq _ _).1 h') h
    | false => rfl
theorem find_str (k : ByteArray) : ∀ (xs : List MapEntry) (es : List (ByteArray × Value)) (i : Nat), xs.map (fun e => (e.key, e.val)) = es.map (fun e => (.string e.1, e.2)) →
    ∃ r, Instr.findNow .string (.string k) xs i = some r ∧ r.map (·.2) = lookS es k
  | [], [], _, _ => ⟨none, rfl, rfl⟩
  | [], _ :: _, _, h => by cases h
  | _ :: _, [], _, h => by cases h
  | x :: xs, e :: es, i, h => by
    simp only [List.map_cons, List.cons.injEq, Prod.mk.injEq] at h
    obtain ⟨⟨h1, h2⟩, h3⟩ := h
    unfold Instr.findNow
    rw [h1]
    simp only [Instr.sameNow, eq_str]
    by_cases hk : k = e.1
    · subst hk
      rw [decide_eq_true rfl]
      exact ⟨_, rfl, by unfold lookS; rw [List.find?_cons_of_pos (by simp)]; simp [h2]⟩
    · rw [decide_eq_false hk]
      obtain ⟨r, r1, r2⟩ := find_str k xs es (i + 1) h3
      refine ⟨r, r1, ?_⟩
      rw [r2]
      unfold lookS
      rw [List.find?_cons_of_neg (by simp; exact fun e => hk e.symm)]
section
variable {P : Program} {w : World} {ops : Array Oper} {rest : List Oper} {o : Oper} {a : Act} {Q : Exit → Act → World → Prop}
theorem wpList_make_map (hgd : o.guard = none) (T : TypeId) (ho : o.op = .makeMap T none)
    (K : ∀ w', MapAt w' w.heap.size [] → Below w.heap.size w w' → wpList P ops Q rest (a.put o.dst (.map (some w.heap.size))) w') : wpList P ops Q (o :: rest) a w := by
  refine wpList_plain hgd fun K' hK => ?_
  unfold Oper.wp
  simp [execOp, ho, run_makeMap, Result.andThen]
  exact hK _ _ (K _ ⟨#[], 0, heap_alloc_new w _, rfl⟩ ((Below.refl _ _).alloc (Nat.le_refl _) _))
theorem wpList_insert_map (hgd : o.guard = none) (T : TypeId) (m k x : Operand) (ho : o.op = .insert T m k x) (kt et : TypeId) (hT : P.underlying T = some (.map kt et)) (hk : P.underlying kt = some .string)
    (g : Nat) (hm : a.eval m = .map (some g)) (ks : ByteArray) (hks : a.eval k = .string ks) (v : Value) (hv : a.eval x = v) (es : List (ByteArray × Value)) (hg : MapAt w g es) (hnew : lookS es ks = none)
    (K : ∀ w', MapAt w' g (es ++ [(ks, v)]) → TurnB w w' g → wpList P ops Q rest (a.put o.dst undef) w') : wpList P ops Q (o :: rest) a w := by
  refine wpList_plain hgd fun K' hK => ?_
  obtain ⟨xs, clk, h1, h2⟩ := hg
  obtain ⟨r, r1, r2⟩ := find_str ks xs.toList es 0 h2
  rw [hnew] at r2
  obtain rfl : r = none := by cases r with
    | none => rfl
    | some z => cases r2
  have hrun : (Instr.mapUpdate T (.map (some g)) (.string ks) v).run P w = .ok () { w with heap := w.heap.setIfInBounds g (.map (xs.push { key := .string ks, val := v, born := clk }) (clk + 1)) } := by
    simp [Instr.mapUpdate, run_underlying hT, Go.MapKept.run_getObj_map h1, run_checkKey (w := w) hk (show IsKey .string (.string ks) from trivial), run_findKey (w := w) hk r1, Go.MapKept.run_setObj_map _ h1, Result.andThen]
  have hlt : g < w.heap.size := (Array.getElem?_eq_some_iff.1 h1).1
  unfold Oper.wp
  simp [execOp, ho, hm, hks, hv, hrun, Result.andThen]
  refine hK _ _ (K _ ⟨xs.push { key := .string ks, val := v, born := clk }, clk + 1, by simp [hlt], by simp [h2]⟩ ⟨fun hB => ⟨rfl, rfl, rfl, by simp, fun i hi => ?_⟩, fun {k} hkg => ?_, by simp⟩)
  · show (w.heap.setIfInBounds g _)[i]? = w.heap[i]?
    rw [Array.getElem?_setIfInBounds_ne (by omega)]
  · show (w.heap.setIfInBounds g _)[k]? = w.heap[k]?
    rw [Array.getElem?_setIfInBounds_ne (by omega)]
theorem run_look (T kt et : TypeId) (hT : P.underlying T = some (.map kt et)) (hk : P.underlying kt = some .string) (z : Value) (hz : (P.info? et).map (·.zero) = some (some z))
    (g : Nat) (ks : ByteArray) (es : List (ByteArray × Value)) (hg : MapAt w g es) (B : Bool) (v : Value) (hv : (match lookS es ks with | some u => (u, true) | none => (z, false)) = (v, B)) :
    (Instr.lookup T (.map (some g)) (.string ks) true).run P w = .ok (.tuple #[v, .bool B]) w := by
  obtain ⟨xs, clk, h1, h2⟩ := hg
  obtain ⟨r, r1, r2⟩ := find_str ks xs.toList es 0 h2
  cases hq : P.info? et with
  | none => simp [hq] at hz
  | some j =>
    have hj : j.zero = some z := by simpa [hq] using hz
    rw [← r2] at hv
    cases r with
    | none =>
      simp at hv
      obtain ⟨rfl, rfl⟩ := hv
      simp [Instr.lookup, run_underlying hT, Go.MapKept.run_getObj_map h1, run_checkKey (w := w) hk (show IsKey .string (.string ks) from trivial), run_findKey (w := w) hk r1, zeroValue, typeInfo, hq, hj, Result.andThen]
    | some x =>
      obtain ⟨i, u⟩ := x
      simp at hv
      obtain ⟨rfl, rfl⟩ := hv
      simp [Instr.lookup, run_underlying hT, Go.MapKept.run_getObj_map h1, run_checkKey (w := w) hk (show IsKey .string (.string ks) from trivial), run_findKey (w := w) hk r1, Result.andThen]
end
end Go.Proofs.YtbbaleambgaanaaGreatDoor
