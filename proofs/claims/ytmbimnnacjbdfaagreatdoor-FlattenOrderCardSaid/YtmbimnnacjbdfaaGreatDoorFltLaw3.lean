/-
  The statement FlattenOrder: a walk. (gen_FltLaw3.py writes it.)
-/
import Derived.Test.YtmbimnnacjbdfaaGreatDoorPz32
import Derived.Test.YtmbimnnacjbdfaaGreatDoorPz21
import Derived.Test.YtmbimnnacjbdfaaGreatDoorMapIns
import Derived.Test.YtmbimnnacjbdfaaGreatDoorTreLarge
import Derived.Test.YtmbimnnacjbdfaaGreatDoorPz25
import Derived.Test.YtmbimnnacjbdfaaGreatDoorPz12
namespace Go.Proofs.YtmbimnnacjbdfaaGreatDoor
open Go.RowKit Go.MapKept Go.Proofs.YtmbimnnacjbdfaaGreatDoor.Fit Go.Proofs.YtmbimnnacjbdfaaGreatDoor.Etr Pnm Tre Flt

/-- the directories met before place j -/
def Flt.Dirs (F : Value → Option Value) (C : List Nd) (j : Nat) : Prop := F (.string emp) = some (.bool true) ∧ ∀ i, i < j → (nd C i).k = 0 → F (.string (nd C i).p) = some (.bool true)
/-- the files met before place j that are no links -/
def Flt.Files (F : Value → Option Value) (C : List Nd) (j : Nat) : Prop := ∀ i, i < j → fr C i (nd C i).c = none → (nd C i).k = 1 → F (.string (nd C i).p) = some (.int .i64 (nd C i).m)
theorem Flt.Dirs.off {F : Value → Option Value} {C : List Nd} {j : Nat} (h : Dirs F C j) (hk : (nd C j).k ≠ 0) : Dirs F C (j + 1) := ⟨h.1, fun i hi h0 => by
  by_cases e : i = j
  · subst e; exact absurd h0 hk
  · exact h.2 i (by omega) h0⟩
theorem Flt.Dirs.on {F : Value → Option Value} {C : List Nd} {j : Nat} (h : Dirs F C j) {p : ByteArray} (hp : (nd C j).p = p) : Dirs (upd F (.string p) (.bool true)) C (j + 1) := by
  have any : ∀ q, F (.string q) = some (.bool true) ∨ q = p → upd F (.string p) (.bool true) (.string q) = some (.bool true) := fun q hq => by
    by_cases e : q = p
    · subst e; exact upd_same _ _ _
    · rw [upd_ne (fun h => e (by injection h))]
      exact hq.resolve_right e
  refine ⟨any emp (.inl h.1), fun i hi h0 => any _ ?_⟩
  by_cases e : i = j
  · subst e; exact .inr hp
  · exact .inl (h.2 i (by omega) h0)
theorem Flt.Files.off {F : Value → Option Value} {C : List Nd} {j : Nat} (h : Files F C j) (hk : fr C j (nd C j).c ≠ none ∨ (nd C j).k ≠ 1) : Files F C (j + 1) := fun i hi h0 h1 => by
  by_cases e : i = j
  · subst e; exact absurd h0 (hk.resolve_right (fun h => h h1))
  · exact h i (by omega) h0 h1
theorem Flt.Files.on {F : Value → Option Value} {C : List Nd} {j : Nat} (hC : Flt.Can C) (hj : j < C.length) (h : Files F C j) {p : ByteArray} {m : Int} (hp : (nd C j).p = p) (hm : (nd C j).m = m) : Files (upd F (.string p) (.int .i64 m)) C (j + 1) := fun i hi h0 h1 => by
  by_cases e : i = j
  · subst e; rw [hp, hm]; exact upd_same _ _ _
  · rw [upd_ne (fun h' => e (hC.at_ (by omega) hj (by injection h' with h'; rw [h', hp])))]
    exact h i (by omega) h0 h1
/-- the parent's path is among the directories -/
theorem Flt.Dirs.par {F : Value → Option Value} {C : List Nd} {j : Nat} (hC : Flt.Can C) (hj : j < C.length) (h : Dirs F C j) {p : ByteArray} (hp : (nd C j).p = p) : F (.string (strOfNums (parZ (numsOf p)))) = some (.bool true) := by
  subst hp
  rcases hC.par hj with e | ⟨i, hi, hk, e⟩
  · have e : parZ (numsOf (nd C j).p) = [] := e
    rw [e]; exact h.1
  · have e : numsOf (nd C i).p = parZ (numsOf (nd C j).p) := e
    rw [← e, strOfNums_numsOf]
    exact h.2 i hi hk

set_option maxRecDepth 100000 in
set_option maxHeartbeats 8000000 in
theorem walk_FlattenOrder (a : Option Addr) (n cap : Nat) (ys : List NdS) (w : World) (V : FVars w) (ha : ArgNds w a n cap ys) :
    Calls Tryz.prog 4 #[.slice a n cap] w fun e w' => e = .returned (.bool true) ∧ Below w.heap.size w w' := by
  have HV := Lib.hid V
  have HA := Lib.hid ha
  have MO := Lib.hid mbT
  have MZ := Lib.hid zMb
  have HN : Hid ((nds ys).length = n) := by show _ = _; rw [nds_len]; exact ha.n
  have ZB : Hid ((Tryz.prog.info? 4).map (·.zero) = some (some (.bool false))) := by show _ = _; kernel_rfl
  have ZI : Hid ((Tryz.prog.info? 3).map (·.zero) = some (some (.int .i64 0))) := by show _ = _; kernel_rfl
  have UD := Lib.hid Tryz.underlying40
  have UF := Lib.hid Tryz.underlying41
  have US := Lib.hid Tryz.underlying9
  clear V ha
  go_enter Tryz.func4, Tryz.ntmps4
  go_wp2_with fail
  refine (Tre.large_any a n cap ys w HA.out).mono ?_; rintro e w1 ⟨R, rfl, hR, b1⟩
  have B1 := Lib.hid b1
  clear b1
  rcases hR with rfl | ⟨rfl, h40, _⟩
  · go_wp2_with fail
    refine (Flt.alive_any w1 (HV.out.go B1.out)).mono ?_; rintro e w2 ⟨rfl, b2⟩
    have B2 := Lib.hid (belT B1.out b2)
    go_wp2
    go_ret
    exact ⟨rfl, B2.out⟩
  have H1 := Lib.hid h40
  have n40 : (n : Int) ≤ 40 := by omega
  clear h40
  go_wp2_with fail
  refine (pmem_any a n cap ys w1 (HV.out.go B1.out) (HA.out.below B1.out) H1.out).mono ?_; rintro e w2 ⟨b, k, c, us, X1, X2, rfl, h1, h2, hm, hu, b2⟩
  have B2 := Lib.hid (belT B1.out b2); have HMB := Lib.hid hm; have HU := Lib.hid hu; have E2 := Lib.hid h2
  clear b2 hm hu h1 h2
  by_cases hx : ¬ X2 = 0
  · have nx : (X2 != 0) = true := by simpa using hx
    obtain rfl : k = 0 := by
      have h1 := HMB.out.n
      have h2 := congrArg List.length HU.out
      unfold mbR at h2
      rw [if_neg (by rw [← E2.out]; exact hx), mms_len, List.length_nil] at h2
      omega
    go_wp2_with fail
    refine (Flt.alive_any w2 (HV.out.go B2.out)).mono ?_; rintro e w5 ⟨rfl, b5⟩
    have B5 := Lib.hid (belT B2.out b5)
    go_wp2
    go_ret
    exact ⟨rfl, B5.out⟩
  obtain rfl : X2 = 0 := Decidable.not_not.mp hx
  clear hx
  have VAL : Hid (Val (nds ys)) := chk_ok.mp E2.out.symm
  obtain ⟨C, hC⟩ : ∃ C, C = canon (nds ys) := ⟨_, rfl⟩
  have CAN : Hid (Flt.Can C) := by show Flt.Can C; rw [hC]; exact can_of VAL.out
  have UMB : Hid (mms us = mbs C) := by
    show _ = _
    rw [HU.out, hC]; unfold mbR; rw [← E2.out, if_pos rfl]
  have CN : Hid (C.length = n) := by show _ = _; rw [hC, canon_len, HN.out]
  obtain rfl : k = n := by
    have h1 := HMB.out.n
    have h2 := congrArg List.length UMB.out
    rw [mms_len, mbs_len, CN.out] at h2
    omega
  clear HU E2 hC
  have kc : (k : Int) ≤ c := by have := HMB.out.c; omega
  go_wp2_with (first | (have q := M4.out; clear q; refine wpList_make_mapF rfl _ rfl .string ?_; intro w5 m5 b5; have F5 := Lib.hid m5; have M5 := Lib.hid (M4.out.below b5 M4.out.lt); have G45 := Lib.hid M4.out.lt; have B5 := Lib.hid (B4.out.trans (b5.mono B4.out.size)); clear m5 b5) | (refine wpList_make_mapF rfl _ rfl .string ?_; intro w3 m3 b3; have M3 := Lib.hid m3; have B3 := Lib.hid b3; clear m3 b3) | (refine wpList_insert_mapF rfl 40 _ _ _ rfl 9 4 UD.out .string US.out w2.heap.size rfl (.string emp) rfl (show IsKey .string (.string emp) from trivial) (.bool true) rfl 0 _ M3.out ?_; intro w4 m4 t4; have M4 := Lib.hid m4; have B4 := Lib.hid (B3.out.trans (t4.below (Nat.le_refl _))); clear m4 t4))
  obtain ⟨gd, hgd⟩ : ∃ gd, gd = w2.heap.size := ⟨_, rfl⟩
  obtain ⟨gf, hgf⟩ : ∃ gf, gf = w4.heap.size := ⟨_, rfl⟩
  rw [← hgd] at M5 G45 ⊢
  rw [← hgf] at F5 G45 ⊢
  have GD : Hid (w2.heap.size ≤ gd) := Nat.le_of_eq hgd.symm
  clear hgd hgf M3 M4
  go_loopw [37] (fun i wr => ∃ (j N1 N2 : Nat) (F1 F2 : Value → Option Value), i = .int .i64 j ∧ j ≤ k ∧ MapF wr gd .string N1 F1 ∧ MapF wr gf .string N2 F2 ∧ Dirs F1 C j ∧ Files F2 C j ∧ Below w2.heap.size w2 wr) (fun i _ => k - (intOf i).toNat)
  case atStart => exact ⟨0, _, _, _, _, rfl, Nat.zero_le _, M5.out, F5.out, ⟨upd_same _ _ _, fun i h => absurd h (Nat.not_lt_zero i)⟩, fun i h => absurd h (Nat.not_lt_zero i), B5.out⟩
  case round =>
    obtain ⟨j, N1, N2, F1, F2, rfl, hj, hM1, hM2, hD, hF, hB⟩ := hrel
    by_cases hjk : j < k
    · obtain ⟨b', off, u, rfl, hb, hy, hf, hat⟩ := HMB.out.get j hjk
      have JC : Hid (j < C.length) := by show _ < _; rw [CN.out]; exact hjk
      have UN : Hid (u.n = mb C j) := by
        have h1 := mms_at hy
        rw [UMB.out, mbs_at JC.out] at h1
        exact (Option.some.inj h1).symm
      have JN := Lib.hid hjk
      have M1 := Lib.hid hM1; have M2 := Lib.hid hM2; have DD := Lib.hid hD; have FF := Lib.hid hF; have HB := Lib.hid hB
      have W1 := Lib.hid hM1.lt; have W2 := Lib.hid hM2.lt
      have WB : Hid (w2.heap.size ≤ wr.heap.size) := hB.size
      obtain ⟨c0, c1, c2, c3, c4, c5⟩ := (hat.below hB hb).c hy
      have PJ : Hid (u.n.e.p = (nd C j).p) := by show _ = _; rw [UN.out]; exact (mb_p C j).1
      have MJ : Hid (u.n.e.m = (nd C j).m) := by show _ = _; rw [UN.out]; exact (mb_p C j).2
      have CK : Hid (ckE u.n.e = 0) := by show _ = _; rw [UN.out]; exact CAN.out.ck JC.out
      have P1 := Lib.hid (Nat.le_trans hf.p (show 140737488355328 ≤ maxLen by decide)); have P2 := Lib.hid (Nat.le_trans hf.t (show 140737488355328 ≤ maxLen by decide))
      have PREV : Hid (j ≠ 0 → ∃ up : ByteArray, up.size ≤ maxLen ∧ cmpZ (numsOf up) (numsOf u.n.e.p) = -1 ∧ ∀ q : World, Below w2.heap.size w2 q → q.cell? ⟨b', off + (j - 1) * 6 + 1, none⟩ = some (.string up)) := fun h0 => by
        have hl : j - 1 < us.length := by rw [HMB.out.n]; have := JN.out; omega
        have hy' : us[j - 1]? = some us[j - 1] := List.getElem?_eq_getElem hl
        have hp' : us[j - 1].n.e.p = (nd C (j - 1)).p := by
          have h1 := mms_at hy'
          rw [UMB.out, mbs_at (by have := JC.out; omega)] at h1
          rw [← Option.some.inj h1]; exact (mb_p C (j - 1)).1
        refine ⟨us[j - 1].n.e.p, Nat.le_trans (HMB.out.s _ (List.getElem_mem hl)).p (by decide), ?_, fun q hq => ((hat.below hq hb).c hy').2.1⟩
        rw [hp', PJ.out]
        exact CAN.out.lt (by omega) JC.out
      have PAR : Hid (F1 (.string (strOfNums (parZ (numsOf u.n.e.p)))) = some (.bool true)) := DD.out.par CAN.out JC.out PJ.out.symm
      clear hM1 hM2 hD hF hB hb hy hat hj hjk
      have DL := hf.l
      clear hf
      obtain ⟨⟨⟨kd, p, mo, t, s⟩, d⟩, x, xc⟩ := u
      obtain ⟨L, hL⟩ := named d.length
      have c5' : wr.cell? ⟨b', off + j * 6 + 5, none⟩ = some (.slice x L xc) := by rw [hL.out]; exact c5
      have DLi : (L : Int) ≤ 140737488355328 := by rw [hL.out]; exact Int.ofNat_le.mpr DL
      clear c5 DL
      have PJ : Hid (p = (nd C j).p) := PJ.out
      have MJ : Hid (mo = (nd C j).m) := MJ.out
      have j1 : (j : Int) < k := by have := JN.out; omega
      obtain ⟨pr, hpr⟩ := named (strOfNums (parZ (numsOf p)))
      have PAR : Hid (F1 (.string pr) = some (.bool true)) := by rw [hpr.out]; exact PAR.out
      have PC : Hid (∀ q : World, Calls Tryz.prog 13 #[.string p] q fun e w' => e = .returned (.string pr) ∧ Below q.heap.size q w') := fun q => by rw [hpr.out]; exact pparent p q P1.out
      obtain ⟨zs, hzs⟩ := named (enZ ⟨kd, p, mo, t, s⟩)
      have EN : Hid (∀ q, Below w.heap.size w q → Calls Tryz.prog 14 #[.agg (enV kd p mo t s).toArray] q (RetEn zs 0 q)) := fun q hq => by
        have h := penc_any ⟨kd, p, mo, t, s⟩ q (HV.out.go hq) P1.out P2.out
        rw [show ckE ⟨kd, p, mo, t, s⟩ = 0 from CK.out] at h
        rw [hzs.out]; exact h
      clear hpr hzs
      by_cases hj0 : j = 0
      · have J0 : ¬ (0 : Int) < j := by omega
        have D0 : decide ((0 : Int) < j) = false := decide_eq_false J0
        have J0n : ¬ 0 < j := by omega
        have D0n : decide (0 < j) = false := decide_eq_false J0n
        clear hj0 PREV
        go_wp2_with (first | (refine wpList_alloc_obj rfl 27 rfl (mbC 0 emp 0 emp 0 none 0 0) MZ.out ?_; intro w5 g5 b5; have G5 := Lib.hid g5; have B5 := Lib.hid b5; have M15 := Lib.hid (M1.out.below b5 M1.out.lt); have M25 := Lib.hid (M2.out.below b5 M2.out.lt); clear g5 b5 c0 c1 c2 c3 c4 c5') | (refine wpList_store_obj rfl 27 _ _ rfl wr.heap.size rfl (mbC kd p mo t s x L xc) (mbC 0 emp 0 emp 0 none 0 0) rfl 27 G5.out MO.out.2 rfl (mb_one _ _ _ _ _ _ _ _) ?_; intro w6 g6 t6; have G6 := Lib.hid g6; have B6 := Lib.hid (B5.out.trans (t6.below (Nat.le_refl _))); have M16 := Lib.hid (M15.out.block (t6.other (Nat.ne_of_lt W1.out))); have M26 := Lib.hid (M25.out.block (t6.other (Nat.ne_of_lt W2.out))); clear g6 t6))
        have x1 : ∀ q : Of (fun w' => Below w6.heap.size w6 w'), q.w.cell? ⟨wr.heap.size, 1, none⟩ = some (.string p) := fun q => (G6.out.below q.h G6.out.lt).get 1 rfl
        have lk : ∀ q : Of (fun w' => Below w6.heap.size w6 w'), (Instr.lookup 40 (.map (some gd)) (.string pr) false).run Tryz.prog q.w = .ok (.bool true) q.w := fun q => by
          have h := (run_lookF (P := Tryz.prog) (w := q.w) 40 9 4 UD.out .string US.out (.bool false) ZB.out gd N1 (.string pr) (show IsKey .string (.string pr) from trivial) F1 (M16.out.below q.h M16.out.lt)).2
          rw [PAR.out] at h
          exact h
        refine wp_region_class (S := fun w' => Below w6.heap.size w6 w') (by kernel_rfl) (by kernel_rfl) (Below.refl _ _).drew ?_
        intro hne'
        repeat (go_big_quiet_step ((go_at_call 13; exact Calls.in_class (PC.out _) fun w' hb q => q.trans (hb.mono q.size))))
        refine wpQuiet_nil ?_
        rintro wq ⟨q, rfl⟩
        have Q6 := Lib.hid q.h
        obtain ⟨wx, hwx⟩ : ∃ wx, wx = q.w := ⟨_, rfl⟩
        rw [← hwx] at Q6 ⊢
        have GX := Lib.hid (G6.out.below Q6.out G6.out.lt); have MX1 := Lib.hid (M16.out.below Q6.out M16.out.lt); have MX2 := Lib.hid (M26.out.below Q6.out M26.out.lt)
        have BX := Lib.hid (B6.out.trans (Q6.out.mono B6.out.size))
        have BXW := Lib.hid (belT B2.out (HB.out.trans (BX.out.mono WB.out)))
        clear hwx x1 lk
        have d0 := GX.out.get 0 rfl; have d1 := GX.out.get 1 rfl; have d2 := GX.out.get 2 rfl; have d3 := GX.out.get 3 rfl; have d4 := GX.out.get 4 rfl
        go_wp2_with fail
        refine (EN.out wx BXW.out).mono ?_; rintro e w7 ⟨eb, en, ec, rfl, _, _, _, _, _, b7⟩
        have G7 := Lib.hid (GX.out.below b7 GX.out.lt); have M17 := Lib.hid (MX1.out.below b7 MX1.out.lt); have M27 := Lib.hid (MX2.out.below b7 MX2.out.lt)
        have B7 := Lib.hid (HB.out.trans ((belT BX.out b7).mono WB.out))
        clear b7 d0 d1 d2 d3 d4
        have d0 := G7.out.get 0 rfl; have d1 := G7.out.get 1 rfl; have d2 := G7.out.get 2 rfl; have d3 := G7.out.get 3 rfl; have d4 := G7.out.get 4 rfl; have d5 := G7.out.get 5 rfl
        cases hfr : fr C j (nd C j).c with
        | some y =>
          obtain ⟨r, hr, hrn, rk, jk, rfr, rm, _, _, _⟩ := CAN.out.lnk JC.out hfr
          have UE : Hid ((⟨⟨kd, p, mo, t, s⟩, d⟩ : Mb) = ⟨⟨3, (nd C j).p, (nd C j).m, y.p, 0⟩, []⟩) := by show _ = _; rw [show (⟨⟨kd, p, mo, t, s⟩, d⟩ : Mb) = mb C j from UN.out, mb_some hfr]; rfl
          obtain rfl : kd = 3 := congrArg (fun u : Mb => u.e.k) UE.out
          have ht : t = (nd C r).p := by rw [hrn]; exact congrArg (fun u : Mb => u.e.t) UE.out
          obtain rfl : L = 0 := by rw [hL.out, show d = [] from congrArg Mb.d UE.out]; rfl
          have FT : Hid (F2 (.string t) = some (.int .i64 mo)) := by show _ = _; rw [ht, FF.out r hr rfr rk, rm, MJ.out]
          have DN := Lib.hid (DD.out.off (by rw [jk]; decide))
          have FN := Lib.hid (FF.out.off (.inl (by rw [hfr]; exact fun h => by cases h)))
          have ql := (run_lookF (P := Tryz.prog) (w := w7) 41 9 3 UF.out .string US.out (.int .i64 0) ZI.out gf N2 (.string t) (show IsKey .string (.string t) from trivial) F2 M27.out).1
          rw [FT.out] at ql
          simp only [Option.getD_some, Option.isSome_some] at ql
          have nm : (mo != mo) = false := by simp
          have n0 : ((3 : Int) == 0) = false := by decide
          have n1 : ((3 : Int) == 1) = false := by decide
          have n3 : ((3 : Int) == 3) = true := by decide
          clear hfr hr hrn rk jk rfr rm ht
          go_wp2_with fail
          go_round
          case rel => exact ⟨j + 1, N1, N2, F1, F2, by go_num, by have := JN.out; omega, M17.out, M27.out, DN.out, FN.out, B7.out⟩
          case measure => simp [intOf]; have := JN.out; omega
        | none =>
          have UE : Hid ((⟨⟨kd, p, mo, t, s⟩, d⟩ : Mb) = own1 (nd C j)) := by show _ = _; rw [show (⟨⟨kd, p, mo, t, s⟩, d⟩ : Mb) = mb C j from UN.out, mb_none hfr]
          have hk : kd = (nd C j).k := congrArg (fun u : Mb => u.e.k) UE.out
          have hs : s = if (nd C j).k = 1 then ((nd C j).d.length : Int) else 0 := congrArg (fun u : Mb => u.e.s) UE.out
          have hd : d = (nd C j).d := congrArg Mb.d UE.out
          have o := one_c (CAN.out.v.one _ (nd_mem JC.out))
          by_cases k0 : kd = 0
          · subst k0
            have n0 : ((0 : Int) == 0) = true := by decide
            have DN := Lib.hid (DD.out.on PJ.out.symm)
            have FN := Lib.hid (FF.out.off (.inr (by rw [← hk]; decide)))
            clear hfr hk hs hd o
            go_wp2_with (first | (refine wpList_update_map rfl 40 _ _ _ rfl 9 4 UD.out .string US.out gd rfl (.string p) rfl (show IsKey .string (.string p) from trivial) (.bool true) rfl N1 F1 M17.out ?_; intro w8 m8 t8; have M18 := Lib.hid m8; have M28 := Lib.hid (M27.out.block (t8.other (Ne.symm (Nat.ne_of_lt G45.out)))); have B8 := Lib.hid (B7.out.trans (t8.below GD.out)); clear m8 t8))
            go_round
            case rel => exact ⟨j + 1, _, N2, _, F2, by go_num, by have := JN.out; omega, M18.out, M28.out, DN.out, FN.out, B8.out⟩
            case measure => simp [intOf]; have := JN.out; omega
          · have n0 : (kd == 0) = false := by simpa using k0
            have DN := Lib.hid (DD.out.off (by rw [← hk]; exact k0))
            by_cases k1 : kd = 1
            · subst k1
              have n1 : ((1 : Int) == 1) = true := by decide
              obtain rfl : s = (L : Int) := by rw [hs, ← hk, if_pos rfl, hL.out, hd]
              have ns : ((L : Int) != (L : Int)) = false := by simp
              have FN := Lib.hid (FF.out.on CAN.out JC.out PJ.out.symm MJ.out.symm)
              clear hfr hk hs hd o k0
              go_wp2_with (first | (refine wpList_update_map rfl 41 _ _ _ rfl 9 3 UF.out .string US.out gf rfl (.string p) rfl (show IsKey .string (.string p) from trivial) (.int .i64 mo) rfl N2 F2 M27.out ?_; intro w8 m8 t8; have M28 := Lib.hid m8; have M18 := Lib.hid (M17.out.block (t8.other (Nat.ne_of_lt G45.out))); have B8 := Lib.hid (B7.out.trans (t8.below (Nat.le_trans GD.out (Nat.le_of_lt G45.out)))); have G8 := Lib.hid (G7.out.turnB t8 (Ne.symm (Nat.ne_of_lt W2.out))); have d4 := G8.out.get 4 rfl; have d5 := G8.out.get 5 rfl; clear m8 t8))
              go_round
              case rel => exact ⟨j + 1, N1, _, F1, _, by go_num, by have := JN.out; omega, M18.out, M28.out, DN.out, FN.out, B8.out⟩
              case measure => simp [intOf]; have := JN.out; omega
            · have n1 : (kd == 1) = false := by simpa using k1
              have n3 : (kd == 3) = false := by
                have := o.2.2.2.1; have := o.2.2.2.2.1
                simp; omega
              have FN := Lib.hid (FF.out.off (.inr (by rw [← hk]; exact k1)))
              clear hfr hk hs hd o k0 k1
              go_wp2_with fail
              go_round
              case rel => exact ⟨j + 1, N1, N2, F1, F2, by go_num, by have := JN.out; omega, M17.out, M27.out, DN.out, FN.out, B7.out⟩
              case measure => simp [intOf]; have := JN.out; omega
      · obtain ⟨up, PU, CU, UC⟩ := PREV.out hj0
        have J0 : (0 : Int) < j := by omega
        have D0 : decide ((0 : Int) < j) = true := decide_eq_true J0
        have J0n : 0 < j := by omega
        have D0n : decide (0 < j) = true := decide_eq_true J0n
        have nn1 : ((-1 : Int) != -1) = false := by decide
        have jm : IntKind.i64.wrap ((j : Int) - 1) = ((j - 1 : Nat) : Int) := by rw [wrapP (by omega) (by omega)]; omega
        obtain ⟨i, hi⟩ := named (j - 1)
        have CC : Hid (∀ q : World, Calls Tryz.prog 12 #[.string up, .string p] q fun e w' => e = .returned (.int .i64 (-1)) ∧ Below q.heap.size q w') := fun q => by
          have h := pcompare up p q PU P1.out
          rw [show cmpZ (numsOf up) (numsOf p) = -1 from CU] at h
          exact h
        rw [← hi.out] at jm UC
        have UCC := Lib.hid UC
        have i1 : (i : Int) < k := by have := hi.out; have := JN.out; omega
        clear UC CU PU hi hj0
        go_wp2_with (first | (refine wpList_alloc_obj rfl 27 rfl (mbC 0 emp 0 emp 0 none 0 0) MZ.out ?_; intro w5 g5 b5; have G5 := Lib.hid g5; have B5 := Lib.hid b5; have M15 := Lib.hid (M1.out.below b5 M1.out.lt); have M25 := Lib.hid (M2.out.below b5 M2.out.lt); clear g5 b5 c0 c1 c2 c3 c4 c5') | (refine wpList_store_obj rfl 27 _ _ rfl wr.heap.size rfl (mbC kd p mo t s x L xc) (mbC 0 emp 0 emp 0 none 0 0) rfl 27 G5.out MO.out.2 rfl (mb_one _ _ _ _ _ _ _ _) ?_; intro w6 g6 t6; have G6 := Lib.hid g6; have B6 := Lib.hid (B5.out.trans (t6.below (Nat.le_refl _))); have M16 := Lib.hid (M15.out.block (t6.other (Nat.ne_of_lt W1.out))); have M26 := Lib.hid (M25.out.block (t6.other (Nat.ne_of_lt W2.out))); clear g6 t6))
        have x1 : ∀ q : Of (fun w' => Below w6.heap.size w6 w'), q.w.cell? ⟨wr.heap.size, 1, none⟩ = some (.string p) := fun q => (G6.out.below q.h G6.out.lt).get 1 rfl
        have lk : ∀ q : Of (fun w' => Below w6.heap.size w6 w'), (Instr.lookup 40 (.map (some gd)) (.string pr) false).run Tryz.prog q.w = .ok (.bool true) q.w := fun q => by
          have h := (run_lookF (P := Tryz.prog) (w := q.w) 40 9 4 UD.out .string US.out (.bool false) ZB.out gd N1 (.string pr) (show IsKey .string (.string pr) from trivial) F1 (M16.out.below q.h M16.out.lt)).2
          rw [PAR.out] at h
          exact h
        have u1 : ∀ q : Of (fun w' => Below w6.heap.size w6 w'), q.w.cell? ⟨b', off + i * 6 + 1, none⟩ = some (.string up) := fun q => UCC.out q.w (HB.out.trans ((B6.out.trans (q.h.mono B6.out.size)).mono WB.out))
        refine wp_region_class (S := fun w' => Below w6.heap.size w6 w') (by kernel_rfl) (by kernel_rfl) (Below.refl _ _).drew ?_
        intro hne'
        repeat (go_big_quiet_step (first | (go_at_call 12; exact Calls.in_class (CC.out _) fun w' hb q => q.trans (hb.mono q.size)) | (go_at_call 13; exact Calls.in_class (PC.out _) fun w' hb q => q.trans (hb.mono q.size))))
        refine wpQuiet_nil ?_
        rintro wq ⟨q, rfl⟩
        have Q6 := Lib.hid q.h
        obtain ⟨wx, hwx⟩ : ∃ wx, wx = q.w := ⟨_, rfl⟩
        rw [← hwx] at Q6 ⊢
        have GX := Lib.hid (G6.out.below Q6.out G6.out.lt); have MX1 := Lib.hid (M16.out.below Q6.out M16.out.lt); have MX2 := Lib.hid (M26.out.below Q6.out M26.out.lt)
        have BX := Lib.hid (B6.out.trans (Q6.out.mono B6.out.size))
        have BXW := Lib.hid (belT B2.out (HB.out.trans (BX.out.mono WB.out)))
        clear hwx x1 lk u1
        have d0 := GX.out.get 0 rfl; have d1 := GX.out.get 1 rfl; have d2 := GX.out.get 2 rfl; have d3 := GX.out.get 3 rfl; have d4 := GX.out.get 4 rfl
        go_wp2_with fail
        refine (EN.out wx BXW.out).mono ?_; rintro e w7 ⟨eb, en, ec, rfl, _, _, _, _, _, b7⟩
        have G7 := Lib.hid (GX.out.below b7 GX.out.lt); have M17 := Lib.hid (MX1.out.below b7 MX1.out.lt); have M27 := Lib.hid (MX2.out.below b7 MX2.out.lt)
        have B7 := Lib.hid (HB.out.trans ((belT BX.out b7).mono WB.out))
        clear b7 d0 d1 d2 d3 d4
        have d0 := G7.out.get 0 rfl; have d1 := G7.out.get 1 rfl; have d2 := G7.out.get 2 rfl; have d3 := G7.out.get 3 rfl; have d4 := G7.out.get 4 rfl; have d5 := G7.out.get 5 rfl
        cases hfr : fr C j (nd C j).c with
        | some y =>
          obtain ⟨r, hr, hrn, rk, jk, rfr, rm, _, _, _⟩ := CAN.out.lnk JC.out hfr
          have UE : Hid ((⟨⟨kd, p, mo, t, s⟩, d⟩ : Mb) = ⟨⟨3, (nd C j).p, (nd C j).m, y.p, 0⟩, []⟩) := by show _ = _; rw [show (⟨⟨kd, p, mo, t, s⟩, d⟩ : Mb) = mb C j from UN.out, mb_some hfr]; rfl
          obtain rfl : kd = 3 := congrArg (fun u : Mb => u.e.k) UE.out
          have ht : t = (nd C r).p := by rw [hrn]; exact congrArg (fun u : Mb => u.e.t) UE.out
          obtain rfl : L = 0 := by rw [hL.out, show d = [] from congrArg Mb.d UE.out]; rfl
          have FT : Hid (F2 (.string t) = some (.int .i64 mo)) := by show _ = _; rw [ht, FF.out r hr rfr rk, rm, MJ.out]
          have DN := Lib.hid (DD.out.off (by rw [jk]; decide))
          have FN := Lib.hid (FF.out.off (.inl (by rw [hfr]; exact fun h => by cases h)))
          have ql := (run_lookF (P := Tryz.prog) (w := w7) 41 9 3 UF.out .string US.out (.int .i64 0) ZI.out gf N2 (.string t) (show IsKey .string (.string t) from trivial) F2 M27.out).1
          rw [FT.out] at ql
          simp only [Option.getD_some, Option.isSome_some] at ql
          have nm : (mo != mo) = false := by simp
          have n0 : ((3 : Int) == 0) = false := by decide
          have n1 : ((3 : Int) == 1) = false := by decide
          have n3 : ((3 : Int) == 3) = true := by decide
          clear hfr hr hrn rk jk rfr rm ht
          go_wp2_with fail
          go_round
          case rel => exact ⟨j + 1, N1, N2, F1, F2, by go_num, by have := JN.out; omega, M17.out, M27.out, DN.out, FN.out, B7.out⟩
          case measure => simp [intOf]; have := JN.out; omega
        | none =>
          have UE : Hid ((⟨⟨kd, p, mo, t, s⟩, d⟩ : Mb) = own1 (nd C j)) := by show _ = _; rw [show (⟨⟨kd, p, mo, t, s⟩, d⟩ : Mb) = mb C j from UN.out, mb_none hfr]
          have hk : kd = (nd C j).k := congrArg (fun u : Mb => u.e.k) UE.out
          have hs : s = if (nd C j).k = 1 then ((nd C j).d.length : Int) else 0 := congrArg (fun u : Mb => u.e.s) UE.out
          have hd : d = (nd C j).d := congrArg Mb.d UE.out
          have o := one_c (CAN.out.v.one _ (nd_mem JC.out))
          by_cases k0 : kd = 0
          · subst k0
            have n0 : ((0 : Int) == 0) = true := by decide
            have DN := Lib.hid (DD.out.on PJ.out.symm)
            have FN := Lib.hid (FF.out.off (.inr (by rw [← hk]; decide)))
            clear hfr hk hs hd o
            go_wp2_with (first | (refine wpList_update_map rfl 40 _ _ _ rfl 9 4 UD.out .string US.out gd rfl (.string p) rfl (show IsKey .string (.string p) from trivial) (.bool true) rfl N1 F1 M17.out ?_; intro w8 m8 t8; have M18 := Lib.hid m8; have M28 := Lib.hid (M27.out.block (t8.other (Ne.symm (Nat.ne_of_lt G45.out)))); have B8 := Lib.hid (B7.out.trans (t8.below GD.out)); clear m8 t8))
            go_round
            case rel => exact ⟨j + 1, _, N2, _, F2, by go_num, by have := JN.out; omega, M18.out, M28.out, DN.out, FN.out, B8.out⟩
            case measure => simp [intOf]; have := JN.out; omega
          · have n0 : (kd == 0) = false := by simpa using k0
            have DN := Lib.hid (DD.out.off (by rw [← hk]; exact k0))
            by_cases k1 : kd = 1
            · subst k1
              have n1 : ((1 : Int) == 1) = true := by decide
              obtain rfl : s = (L : Int) := by rw [hs, ← hk, if_pos rfl, hL.out, hd]
              have ns : ((L : Int) != (L : Int)) = false := by simp
              have FN := Lib.hid (FF.out.on CAN.out JC.out PJ.out.symm MJ.out.symm)
              clear hfr hk hs hd o k0
              go_wp2_with (first | (refine wpList_update_map rfl 41 _ _ _ rfl 9 3 UF.out .string US.out gf rfl (.string p) rfl (show IsKey .string (.string p) from trivial) (.int .i64 mo) rfl N2 F2 M27.out ?_; intro w8 m8 t8; have M28 := Lib.hid m8; have M18 := Lib.hid (M17.out.block (t8.other (Nat.ne_of_lt G45.out))); have B8 := Lib.hid (B7.out.trans (t8.below (Nat.le_trans GD.out (Nat.le_of_lt G45.out)))); have G8 := Lib.hid (G7.out.turnB t8 (Ne.symm (Nat.ne_of_lt W2.out))); have d4 := G8.out.get 4 rfl; have d5 := G8.out.get 5 rfl; clear m8 t8))
              go_round
              case rel => exact ⟨j + 1, N1, _, F1, _, by go_num, by have := JN.out; omega, M18.out, M28.out, DN.out, FN.out, B8.out⟩
              case measure => simp [intOf]; have := JN.out; omega
            · have n1 : (kd == 1) = false := by simpa using k1
              have n3 : (kd == 3) = false := by
                have := o.2.2.2.1; have := o.2.2.2.2.1
                simp; omega
              have FN := Lib.hid (FF.out.off (.inr (by rw [← hk]; exact k1)))
              clear hfr hk hs hd o k0 k1
              go_wp2_with fail
              go_round
              case rel => exact ⟨j + 1, N1, N2, F1, F2, by go_num, by have := JN.out; omega, M17.out, M27.out, DN.out, FN.out, B7.out⟩
              case measure => simp [intOf]; have := JN.out; omega
    · obtain rfl : j = k := by omega
      have B6 := Lib.hid (belT B2.out hB)
      clear hM1 hM2 hD hF hB hj hjk
      go_wp2_with fail
      refine (Flt.alive_any wr (HV.out.go B6.out)).mono ?_; rintro e w9 ⟨rfl, b9⟩
      have B9 := Lib.hid (belT B6.out b9)
      go_wp2
      go_ret
      exact ⟨rfl, B9.out⟩
end Go.Proofs.YtmbimnnacjbdfaaGreatDoor
