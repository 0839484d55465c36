/-
  The statement TreeCanonIsCanonical: a walk. (gen_TreLaw7.py writes it.)
-/
import Derived.Test.YtmbimnnacjbdfaaDoorPk12
import Derived.Test.YtmbimnnacjbdfaaDoorPk13
import Derived.Test.YtmbimnnacjbdfaaDoorTreEqu
import Derived.Test.YtmbimnnacjbdfaaDoorTreRen
import Derived.BigQuiet
namespace Go.Proofs.YtmbimnnacjbdfaaDoor
open Go.RowKit Go.Proofs.YtmbimnnacjbdfaaDoor.Fit Pnm Tre

set_option maxRecDepth 100000 in
set_option maxHeartbeats 16000000 in
theorem walk_TreeCanonIsCanonical (a : Option Addr) (n cap : Nat) (ys : List NdS) (sa : Option Addr) (sl sc : Nat) (ss : List Int) (by_ : Int) (w : World) (V : Pxr.Vars w) (ha : ArgNds w a n cap ys) (hs : ArgInts .u8 w sa sl sc ss) (hb : (Lit.int .u8 by_).wf = true) :
    Calls Tryd.prog 3 #[.slice a n cap, .slice sa sl sc, .int .u8 by_] w fun e w' => e = .returned (.bool true) ∧ Below w.heap.size w w' := by
  have HV := Lib.hid (FVars.mk V)
  have HA := Lib.hid ha
  have HS := Lib.hid hs
  have hby := byte_bounds hb
  have BY := Lib.hid hby
  obtain ⟨by0, by1⟩ := hby
  have HN : Hid (ys.length = n) := ha.n
  have I6 := Lib.hid IN6
  have S1 : Hid ((Tryd.prog.info? 3).map (·.size) = some 1) := by show _ = _; kernel_rfl
  obtain ⟨i0, HI0⟩ := info_of (P := Tryd.prog) (e := 32) (z := .agg (ndL 0 emp 0 emp none 0 0 0).toArray) (s := 6) (b := 80) (by kernel_rfl)
  have AE : Hid (∀ w, (isAgg 32).run Tryd.prog w = .ok true w) := fun w => by
    unfold isAgg
    rw [Sem.run_bind, run_underlying Tryd.underlying32 w]; simp
  clear V ha hs hb
  go_enter Tryd.func3, Tryd.ntmps3
  go_wp2_with fail
  refine (large_any a n cap ys w HA.out).mono ?_; rintro e w1 ⟨R, rfl, hR, b1⟩
  have B1 := Lib.hid b1
  clear b1
  rcases hR with rfl | ⟨rfl, h40, _⟩
  · go_wp2_with fail
    refine (Tre.alive_any w1 (HV.out.go B1.out)).mono ?_; rintro e w2 ⟨rfl, b2⟩
    have B2 := Lib.hid (belT B1.out b2)
    go_wp2
    go_ret
    exact ⟨rfl, B2.out⟩
  by_cases h50 : (50 : Int) < sl
  · go_wp2_with fail
    refine (Tre.alive_any w1 (HV.out.go B1.out)).mono ?_; rintro e w2 ⟨rfl, b2⟩
    have B2 := Lib.hid (belT B1.out b2)
    go_wp2
    go_ret
    exact ⟨rfl, B2.out⟩
  have H1 := Lib.hid h40
  have n40 : (n : Int) ≤ 40 := by omega
  have sl50 : (sl : Int) ≤ 50 := by omega
  clear h40
  go_wp2_with fail
  refine (canon_any a n cap ys w1 (HA.out.below B1.out) H1.out).mono ?_; rintro e w2 ⟨r, rc, us, rfl, hu, eu, _, _, b2⟩
  have HU := Lib.hid hu; have EU := Lib.hid eu; have B2 := Lib.hid (belT B1.out b2)
  clear hu eu b2
  go_wp2_with fail
  refine (canon_any r n rc us w2 HU.out H1.out).mono ?_; rintro e w3 ⟨r', rc', vs, rfl, hv, ev, _, _, b3⟩
  have HW := Lib.hid hv; have EV := Lib.hid ev; have B3 := Lib.hid (belT B2.out b3); have HU3 := Lib.hid (HU.out.below b3)
  clear hv ev b3 HU
  go_wp2_with fail
  refine (rsame_any r' n rc' vs r n rc us w3 HW.out HU3.out).mono ?_; rintro e w4 ⟨Bs, rfl, hs, b4⟩
  obtain rfl : Bs = true := hs.mpr (by rw [EV.out, EU.out, canon_canon])
  have B4 := Lib.hid (belT B3.out b4); have HU4 := Lib.hid (HU3.out.below b4)
  clear hs b4 HU3 HW EV
  obtain ⟨X1, hX1⟩ := named (chk (nds ys)).1
  obtain ⟨X2, hX2⟩ := named (chk (nds ys)).2
  have PC : Hid (∀ w', Below w.heap.size w w' → Calls Tryd.prog 12 #[.slice a n cap] w' fun e w'' => e = .returned (.tuple #[.int .i64 X1, .int .i64 X2]) ∧ Below w'.heap.size w' w'') := fun w' hb => by
    rw [hX1.out, hX2.out]; exact pchk_any a n cap ys w' (HV.out.go hb) (HA.out.below hb)
  go_wp2_with fail
  refine (PC.out w4 B4.out).mono ?_; rintro e w5 ⟨rfl, b5⟩
  have B5 := Lib.hid (belT B4.out b5); have HU5 := Lib.hid (HU4.out.below b5)
  clear b5 PC HU4
  obtain ⟨Y1, hY1⟩ := named (chk (nds us)).1
  obtain ⟨Y2, hY2⟩ := named (chk (nds us)).2
  have PD : Hid (Calls Tryd.prog 12 #[.slice r n rc] w5 fun e w'' => e = .returned (.tuple #[.int .i64 Y1, .int .i64 Y2]) ∧ Below w5.heap.size w5 w'') := by
    show Calls _ _ _ _ _
    rw [hY1.out, hY2.out]; exact pchk_any r n rc us w5 (HV.out.go B5.out) HU5.out
  go_wp2_with fail
  refine PD.out.mono ?_; rintro e w6 ⟨rfl, b6⟩
  have B6 := Lib.hid (belT B5.out b6); have HU6 := Lib.hid (HU5.out.below b6)
  clear b6 PD HU5
  by_cases hx : ¬ X2 = 0
  · have nx : (X2 == 0) = false := by simpa using hx
    have nx2 : (X2 != 0) = true := by simpa using hx
    clear hX1 hX2 hY1 hY2
    go_wp2_with fail
    refine (Tre.alive_any w6 (HV.out.go B6.out)).mono ?_; rintro e w7 ⟨rfl, b7⟩
    have B7 := Lib.hid (belT B6.out b7)
    go_wp2
    go_ret
    exact ⟨rfl, B7.out⟩
  obtain rfl : X2 = 0 := Decidable.not_not.mp hx
  clear hx
  have VAL : Hid (Val (nds ys)) := chk_ok.mp hX2.out.symm
  have cv : chk (nds us) = ((n : Int), 0) := by
    have h1 : Val (nds us) := by rw [EU.out]; exact canon_val VAL.out
    have h2 := chk_val h1
    rw [EU.out, canon_len, nds_len, HN.out, ← EU.out] at h2
    exact h2
  obtain rfl : Y2 = 0 := by rw [hY2.out, cv]
  obtain rfl : Y1 = (n : Int) := by rw [hY1.out, cv]
  clear hX1 hX2 hY1 hY2 cv
  have N6 := Lib.hid (HA.out.below B6.out).r
  go_wp2_with (first | (refine wpList_lit_nd0 rfl 22 32 rfl Tryd.underlying22 _ I6.out ?_; intro w7 g7 b7; have G7 := Lib.hid g7; have B7 := Lib.hid b7; have N7 := Lib.hid (N6.out.below b7); clear g7 b7) | (at_builtin; refine wpList_append_nds rfl _ _ 22 rfl 32 w6.heap.size i0 _ Tryd.underlying22 HI0 rfl (.slice (some ⟨w6.heap.size, 0, none⟩) 0 0) 0 [] rfl G7.out a n cap ys rfl N7.out HN.out (by have := H1.out; omega) B7.out.size ?_; intro v8 w8 g8 b8 x8 y8; obtain ⟨ma, mc, rfl⟩ : ∃ ma mc, v8 = .slice ma n mc := (by obtain ⟨a', c', e, _⟩ := NdsIn.of_own g8; rw [Nat.zero_add] at e; exact ⟨a', c', e⟩); have G8 := Lib.hid g8; have B8 := Lib.hid (B7.out.trans b8); clear g8 b8 x8 y8))
  have O8 : Hid (w8.ownsRow w6.heap.size 32 6 (.slice ma n mc) n (ndCells ys)) := by
    have := G8.out
    rw [Nat.zero_add, List.nil_append] at this
    exact this
  have BB8 := Lib.hid (belT B6.out B8.out)
  have HU8 := Lib.hid (HU6.out.below B8.out)
  clear G7 B7 N7 N6 G8
  rcases Nat.eq_zero_or_pos n with h0 | h0
  · subst h0
    obtain rfl : ys = [] := List.length_eq_zero_iff.1 HN.out
    have HM8 : Hid (ArgNds w8 ma 0 mc []) := by
      obtain ⟨ma', mc', e, hmm⟩ := ArgNds.of_own O8.out (fun y hy => by cases hy)
      injection e with e1 _ e3
      subst e1; subst e3
      exact hmm
    clear O8
    go_loopw [59] (fun i wr => i = .int .i64 0 ∧ w8 = wr) (fun _ _ => 0)
    case atStart => exact ⟨rfl, rfl⟩
    case round =>
      obtain ⟨rfl, rfl⟩ := hrel
      go_wp2_with fail
      go_loopw [93] (fun i wr => ∃ k : Nat, i = .int .i64 k ∧ k ≤ sl ∧ Below w8.heap.size w8 wr) (fun i _ => sl - (intOf i).toNat)
      case atStart => exact ⟨0, rfl, Nat.zero_le _, Below.refl _ _⟩
      case round =>
        obtain ⟨k, rfl, hk, hB⟩ := hrel
        by_cases hkl : k < sl
        · obtain ⟨sb, so, rfl, hsb, hsc⟩ := HS.out.at_ (by omega)
          have cs := (hsc k hkl)
          have HB := Lib.hid hB
          have cs' : wr.cell? ⟨sb, so + k, none⟩ = some (.int .u8 (ss.getD k 0)) := ((belT BB8.out hB).cell (p := ⟨sb, so + k, none⟩) hsb).trans cs
          obtain ⟨s, hs⟩ : ∃ s, s = ss.getD k 0 := ⟨_, rfl⟩
          rw [← hs] at cs'
          have cap1 := HS.out.2.1
          have capi : (sl : Int) ≤ sc := by omega
          have k1 : (k : Int) < sl := by omega
          clear hsc cs hs hB hkl
          go_wp2_with fail
          go_round
          case rel => exact ⟨k + 1, by go_num, by omega, HB.out⟩
          case measure => simp [intOf]; omega
        · obtain rfl : k = sl := by omega
          obtain ⟨wz, rfl⟩ : ∃ wz, wz = wr := ⟨wr, rfl⟩
          have BZ := Lib.hid (belT BB8.out hB); have UZ := Lib.hid (HU8.out.below hB); have HM := Lib.hid (HM8.out.below hB)
          clear hB hkl hk
          go_wp2_with fail
          go_loopw [127] (fun i wr => i = .int .i64 0 ∧ wz = wr) (fun _ _ => 0)
          case atStart => exact ⟨rfl, rfl⟩
          case round =>
            obtain ⟨rfl, rfl⟩ := hrel
            go_wp2_with fail
            refine (Tre.alive_any wz (HV.out.go BZ.out)).mono ?_; rintro e x1 ⟨rfl, c1⟩
            have C1 := Lib.hid (belT BZ.out c1); have M1 := Lib.hid (HM.out.below c1); have U1 := Lib.hid (UZ.out.below c1)
            clear c1
            go_wp2_with fail
            refine (canon_any ma 0 mc [] x1 M1.out H1.out).mono ?_; rintro e x2 ⟨qa, qc, ts, rfl, ht, et, _, _, c2⟩
            have HT := Lib.hid ht; have ET := Lib.hid et; have C2 := Lib.hid (belT C1.out c2); have M2 := Lib.hid (M1.out.below c2); have U2 := Lib.hid (U1.out.below c2)
            clear ht et c2
            go_wp2_with fail
            refine (rsame_any qa 0 qc ts r 0 rc us x2 HT.out U2.out).mono ?_; rintro e x3 ⟨Bt, rfl, hs, c3⟩
            obtain rfl : Bt = true := hs.mpr (by rw [ET.out, EU.out])
            have C3 := Lib.hid (belT C2.out c3); have M3 := Lib.hid (M2.out.below c3)
            clear hs c3
            go_wp2_with fail
            refine (equal_any a 0 cap [] ma 0 mc [] x3 (HA.out.below C3.out) M3.out H1.out H1.out).mono ?_; rintro e x4 ⟨Bu, rfl, hs, c4⟩
            obtain rfl : Bu = true := hs.mpr rfl
            have C4 := Lib.hid (belT C3.out c4)
            clear hs c4
            go_wp2
            go_ret
            exact ⟨rfl, C4.out⟩
  · obtain ⟨g, mc', e8, hmc, hmm, hgb, hgl, hat8, hfz8⟩ := own_at O8.out (by omega)
    injection e8 with e1 _ e3
    subst e1; subst e3
    have MC := Lib.hid hmc; have MM := Lib.hid hmm; have GB := Lib.hid hgb; have GL8 := Lib.hid hgl; have AT8 := Lib.hid hat8; have FZ8 := Lib.hid hfz8
    have nmc : (n : Int) ≤ mc := by omega
    have H0 := Lib.hid h0
    clear hmc hmm hgb hgl hat8 hfz8 O8 h0
    go_loopw [59] (fun i wr => ∃ j : Nat, i = .int .i64 j ∧ j ≤ n ∧ NdsAt wr g 0 (rnL by_ ys j) ∧ (∀ k, wr.frozen? ⟨g, k, none⟩ = false) ∧ Below w6.heap.size w6 wr ∧ g < wr.heap.size) (fun i _ => n - (intOf i).toNat)
    case atStart => exact ⟨0, rfl, Nat.zero_le _, AT8.out, FZ8.out, B8.out, GL8.out⟩
    case round =>
      obtain ⟨j, rfl, hj, hat, hfz, hB, hgl⟩ := hrel
      by_cases hjn : j < n
      · obtain ⟨y, hy⟩ : ∃ y, ys[j]? = some y := ⟨_, List.getElem?_eq_getElem (by rw [HN.out]; exact hjn)⟩
        have HY := Lib.hid hy; have HYL := Lib.hid (rnL_at (b := by_) hy); have AT := Lib.hid hat; have FZ := Lib.hid hfz; have HB := Lib.hid hB; have GL := Lib.hid hgl
        have cwf := (HA.out.s y (List.mem_of_getElem? hy)).c
        obtain ⟨_, _, _, _, _, c5⟩ := hat.c (rnL_at (b := by_) hy)
        rw [Nat.zero_add] at c5
        have j1 : (j : Int) < n := by omega
        have JN := Lib.hid hjn
        obtain ⟨c, hc⟩ : ∃ c, c = y.n.c := ⟨_, rfl⟩
        have HC := Lib.hid hc
        rw [← hc] at c5
        clear hat hfz hB hgl hy hc cwf hj hjn
        by_cases hc0 : 0 < c
        · by_cases hc1 : c < 1000
          · have m1 : IntKind.i64.wrap (1000 * by_) = 1000 * by_ := wrapP (by omega) (by omega)
            have m2 : IntKind.i64.wrap (1000 * by_ + 2000) = 1000 * by_ + 2000 := wrapP (by omega) (by omega)
            obtain ⟨Z, hZ⟩ : ∃ Z, Z = 1000 * by_ + 2000 - c := ⟨_, rfl⟩
            have m3 : IntKind.i64.wrap (1000 * by_ + 2000 - c) = Z := by rw [wrapP (by omega) (by omega), hZ]
            have HZ : Hid (Z = rnC by_ c) := by show _ = _; unfold rnC; rw [if_pos ⟨hc0, hc1⟩, hZ]
            clear hZ
            go_wp2_with (first | (refine wpList_store_nd rfl 3 _ _ rfl g _ rfl (.int .i64 Z) rfl rfl S1.out (rnL by_ ys j) j 5 y ⟨{ y.n with c := Z }, y.a, y.cap⟩ (by omega) HYL.out AT.out FZ.out rfl (keepC _ _ _ _) ?_; intro w9 a9 f9 t9; have AT9 := Lib.hid a9; have FZ9 := Lib.hid f9; have B9 := Lib.hid (HB.out.trans (t9.below GB.out)); have GL9 : Hid (g < w9.heap.size) := (by show _ < _; rw [t9.size]; exact GL.out); clear a9 f9 t9))
            go_round
            case rel => exact ⟨j + 1, by go_num, by have := JN.out; omega, by rw [← rnL_step HY.out]; have h := AT9.out; rw [HZ.out, HC.out] at h; exact h, FZ9.out, B9.out, GL9.out⟩
            case measure => simp [intOf]; have := JN.out; omega
          · go_wp2_with fail
            go_round
            case rel => exact ⟨j + 1, by go_num, by have := JN.out; omega, by rw [rnL_same HY.out (by rw [← HC.out]; unfold rnC; rw [if_neg (fun h => hc1 h.2)])]; exact AT.out, FZ.out, HB.out, GL.out⟩
            case measure => simp [intOf]; have := JN.out; omega
        · go_wp2_with fail
          go_round
          case rel => exact ⟨j + 1, by go_num, by have := JN.out; omega, by rw [rnL_same HY.out (by rw [← HC.out]; unfold rnC; rw [if_neg (fun h => hc0 h.1)])]; exact AT.out, FZ.out, HB.out, GL.out⟩
          case measure => simp [intOf]; have := JN.out; omega
      · obtain rfl : j = n := by omega
        obtain ⟨wS, rfl⟩ : ∃ wS, wS = wr := ⟨wr, rfl⟩
        have hat' : NdsAt wS g 0 (ys.map (rnS by_)) := by have := hat; rw [← HN.out, rnL_all] at this; exact this
        have RR := Lib.hid (row_of hat' hfz hgl)
        have FZS := Lib.hid hfz; have GLS := Lib.hid hgl; have BS := Lib.hid hB
        clear hat hat' hfz hgl hB hjn hj
        obtain ⟨K, hK⟩ := named 6
        have zE : ∀ w, (Go.sizeOf 32).run Tryd.prog w = .ok K w := fun w => by rw [hK.out]; rfl
        have aE := AE.out
        have mixed : Tryd.prog.follows .mixedOrders = true := by kernel_rfl
        have j0 : (0 : Int) < j := by have := H0.out; omega
        have nz : ¬ (j : Int) = 0 := by omega
        go_wp2_with fail
        go_loopw [93] (fun i wr => ∃ (k : Nat) (zs : List NdS), i = .int .i64 k ∧ k ≤ sl ∧ SW wS g zs wr ∧ zs.Perm (ys.map (rnS by_))) (fun i _ => sl - (intOf i).toNat)
        case atStart => exact ⟨0, ys.map (rnS by_), rfl, Nat.zero_le _, Go.Proofs.SWK.start RR.out.hH, List.Perm.refl _⟩
        case round =>
          obtain ⟨k, zs, rfl, hk, hsw, hpm⟩ := hrel
          have ZL : Hid (zs.length = j) := by show _ = _; rw [hpm.length_eq, List.length_map, HN.out]
          have HSW := Lib.hid hsw; have HPM := Lib.hid hpm
          clear hsw hpm
          by_cases hkl : k < sl
          · obtain ⟨sb, so, rfl, hsb, hsc⟩ := HS.out.at_ (by omega)
            have cs := (hsc k hkl)
            have BW : Hid (Below w.heap.size w wr) := belT B6.out (BS.out.trans (HSW.out.only.below (fun q hq => by rw [hq]; exact GB.out) BS.out.size))
            have cs' : wr.cell? ⟨sb, so + k, none⟩ = some (.int .u8 (ss.getD k 0)) := (BW.out.cell (p := ⟨sb, so + k, none⟩) hsb).trans cs
            have hsw' := HS.out.byte (i := k)
            obtain ⟨s, hs⟩ : ∃ s, s = ss.getD k 0 := ⟨_, rfl⟩
            rw [← hs] at cs' hsw'
            obtain ⟨s0, s1⟩ := hsw'
            have cap1 := HS.out.2.1
            have capi : (sl : Int) ≤ sc := by omega
            have k1 : (k : Int) < sl := by omega
            obtain ⟨A, hA⟩ := named (k % j)
            obtain ⟨B, hB⟩ := named (s.toNat % j)
            have eA : (k : Int) % (j : Int) = (A : Int) := by rw [hA.out]; exact (Int.natCast_emod k j).symm
            have eB : s % (j : Int) = (B : Int) := by rw [hB.out, Int.natCast_emod, Int.toNat_of_nonneg s0]
            have a1 : (A : Int) < j := by have := Nat.mod_lt k (show 0 < j by omega); have := hA.out; omega
            have b1 : (B : Int) < j := by have := Nat.mod_lt s.toNat (show 0 < j by omega); have := hB.out; omega
            clear hsc cs hs hkl
            go_wp2_with fail
            go_big_region_o
            have HSD : SW wS g zs wr.drew := Go.Proofs.SWK.drew HSW.out
            revert HSD
            generalize wr.drew = wd
            intro hsd
            obtain ⟨ci, cj, hall⟩ := SW.cells RR.out hsd (by simp [ZL.out, HN.out]) Tryd.prog (i := A) (j := B) (by rw [ZL.out]; omega) (by rw [ZL.out]; omega)
            obtain ⟨l1, l2, q1, q2, q3, q4, q5⟩ := hall K hK.out
            have Q5 := Lib.hid q5
            have AL : Hid (A < zs.length) := by show _ < _; rw [ZL.out]; omega
            have BL : Hid (B < zs.length) := by show _ < _; rw [ZL.out]; omega
            clear q5 hall hsd cs'
            go_wp2_with fail
            go_big_region_o
            all_goals go_wp2
            go_round
            case rel => exact ⟨k + 1, _, by go_num, by omega, Q5.out, (swl_perm AL.out BL.out).trans HPM.out⟩
            case measure => simp [intOf]; omega
          · obtain rfl : k = sl := by omega
            have BW : Hid (Below w.heap.size w wr) := belT B6.out (BS.out.trans (HSW.out.only.below (fun q hq => by rw [hq]; exact GB.out) BS.out.size))
            have BW6 : Hid (Below w6.heap.size w6 wr) := BS.out.trans (HSW.out.only.below (fun q hq => by rw [hq]; exact GB.out) BS.out.size)
            have BW8 : Hid (ArgNds wr r j rc us) := HU6.out.below BW6.out
            have HM : Hid (ArgNds wr (some ⟨g, 0, none⟩) j mc zs) := ⟨ZL.out, MC.out, MM.out, .inr ⟨g, 0, rfl, Nat.lt_of_lt_of_le GLS.out HSW.out.only.size, SW.nds RR.out HSW.out (by simp [ZL.out, HN.out])⟩, fun u hu => (ren_mem HPM.out HA.out.s BY.out.1 BY.out.2 u hu).below BW.out⟩
            obtain ⟨wz, hwz⟩ : ∃ wz, wz = wr := ⟨wr, rfl⟩
            rw [← hwz] at BW BW8 HM ⊢
            clear hwz BW6 HSW hkl hk zE aE mixed hK
            go_wp2_with fail
            go_loopw [127] (fun i wr => ∃ q : Nat, i = .int .i64 q ∧ q ≤ j ∧ (∀ y ∈ ys.take q, y.n.c < 1000) ∧ wz = wr) (fun i _ => j - (intOf i).toNat)
            case atStart => exact ⟨0, rfl, Nat.zero_le _, (fun y hy => by simp at hy), rfl⟩
            case round =>
              obtain ⟨q, rfl, hq, hcl, rfl⟩ := hrel
              have HCL := Lib.hid hcl
              clear hcl
              by_cases hqj : q < j
              · obtain ⟨b, off, y, rfl, hb, hy, hf, hat⟩ := HA.out.get q hqj
                obtain ⟨_, _, _, _, _, c5⟩ := (hat.below BW.out hb).c hy
                have HY := Lib.hid hy
                have q1 : (q : Int) < j := by omega
                have nc : (j : Int) ≤ cap := by have := HA.out.c; omega
                obtain ⟨c, hc⟩ : ∃ c, c = y.n.c := ⟨_, rfl⟩
                have HC := Lib.hid hc
                rw [← hc] at c5
                clear hf hat hb hy hc hqj
                by_cases h1 : (1000 : Int) ≤ c
                · go_wp2_with fail
                  refine (Tre.alive_any wz (HV.out.go BW.out)).mono ?_; rintro e x1 ⟨rfl, c1⟩
                  have C1 := Lib.hid (belT BW.out c1)
                  go_wp2
                  go_ret
                  exact ⟨rfl, C1.out⟩
                · go_wp2_with fail
                  go_round
                  case rel => exact ⟨q + 1, by go_num, by omega, (fun y' hy' => by
                    rw [List.take_add_one, HY.out] at hy'
                    rcases List.mem_append.1 hy' with h | h
                    · exact HCL.out y' h
                    · simp at h
                      subst h
                      rw [← HC.out]; omega), trivial⟩
                  case measure => simp [intOf]; omega
              · obtain rfl : q = j := by omega
                have RS : Hid (canon (nds zs) = canon (nds ys)) := ren_same BY.out.1 HPM.out VAL.out (fun y hy => HCL.out y (by rw [List.take_of_length_le (by rw [HN.out]; exact Nat.le_refl _)]; exact hy))
                clear HCL hqj hq
                go_wp2_with fail
                refine (Tre.alive_any wz (HV.out.go BW.out)).mono ?_; rintro e x1 ⟨rfl, c1⟩
                have C1 := Lib.hid (belT BW.out c1); have M1 := Lib.hid (HM.out.below c1); have U1 := Lib.hid (BW8.out.below c1)
                clear c1
                go_wp2_with fail
                refine (canon_any (some ⟨g, 0, none⟩) q mc zs x1 M1.out H1.out).mono ?_; rintro e x2 ⟨qa, qc, ts, rfl, ht, et, _, _, c2⟩
                have HT := Lib.hid ht; have ET := Lib.hid et; have C2 := Lib.hid (belT C1.out c2); have M2 := Lib.hid (M1.out.below c2); have U2 := Lib.hid (U1.out.below c2)
                clear ht et c2
                go_wp2_with fail
                refine (rsame_any qa q qc ts r q rc us x2 HT.out U2.out).mono ?_; rintro e x3 ⟨Bt, rfl, hs, c3⟩
                obtain rfl : Bt = true := hs.mpr (by rw [ET.out, EU.out, RS.out])
                have C3 := Lib.hid (belT C2.out c3); have M3 := Lib.hid (M2.out.below c3)
                clear hs c3
                go_wp2_with fail
                refine (equal_any a q cap ys (some ⟨g, 0, none⟩) q mc zs x3 (HA.out.below C3.out) M3.out H1.out H1.out).mono ?_; rintro e x4 ⟨Bu, rfl, hs, c4⟩
                obtain rfl : Bu = true := hs.mpr RS.out.symm
                have C4 := Lib.hid (belT C3.out c4)
                clear hs c4
                go_wp2
                go_ret
                exact ⟨rfl, C4.out⟩
end Go.Proofs.YtmbimnnacjbdfaaDoor
