/-
  slices.insertionSortCmpFunc over nodes.
-/
import Derived.Test.YtmbimnnacjbdfaaGreatDoorPz27
namespace Go.Proofs.YtmbimnnacjbdfaaGreatDoor.Tre
open Go.RowKit Go.Proofs.YtmbimnnacjbdfaaGreatDoor.Fit Pnm Go.Sort

/-- what a comparison of two elements needs -/
theorem SW.test {w0 W : World} {g : Nat} {d0 : Array NdS} {ys : List NdS} (R : RowK ndV 6 w0 g 0 d0) (h : SW w0 g ys W) (hs : ys.length = d0.size) {i j : Nat} (hi : i < ys.length) (hj : j < ys.length) :
    ∃ ci cj : List Value, ∀ K, K = 6 → (∀ n os, Sem.run Tryz.prog (loadCellsFrom ⟨g, i * K, none⟩ 0 K #[]) (grow (W.drewN n) os) = .ok ci.toArray (grow (W.drewN n) os)) ∧ (∀ n os, Sem.run Tryz.prog (loadCellsFrom ⟨g, j * K, none⟩ 0 K #[]) (grow (W.drewN n) os) = .ok cj.toArray (grow (W.drewN n) os)) ∧
      (∀ n os, Calls Tryz.prog 34 #[.agg ci.toArray, .agg cj.toArray] (grow (W.drewN n) os) fun e w' => e = .returned (.int .i64 (cmpZ (keyS (Stab.g ys i)) (keyS (Stab.g ys j)))) ∧ ∃ q os', w' = grow ((grow (W.drewN n) os).drewN q) os') ∧
      (∀ n os, SW w0 g ys (grow (W.drewN n) os)) := by
  have hs' : ys.toArray.size = d0.size := by simpa using hs
  have hi' : i < ys.toArray.size := by simpa using hi
  have hj' : j < ys.toArray.size := by simpa using hj
  refine ⟨ndV ys.toArray[i]!, ndV ys.toArray[j]!, fun K hK => ?_⟩
  subst hK
  refine ⟨fun n os => ?_, fun n os => ?_, fun n os => ?_, fun n os => SWK.grown h n os⟩
  · have := SWK.ld h R hs' Tryz.prog i hi' n os
    rw [Nat.zero_add] at this; exact this
  · have := SWK.ld h R hs' Tryz.prog j hj' n os
    rw [Nat.zero_add] at this; exact this
  · have := SWK.cmp h (cmp_lays g d0.size w0) hs' ys.toArray[i]! ys.toArray[j]! n os
    rw [← arr_g, ← arr_g]
    exact this

set_option maxRecDepth 100000 in
set_option maxHeartbeats 8000000 in
theorem ins_any (w0 : World) (g : Nat) (d0 : Array NdS) (R : RowK ndV 6 w0 g 0 d0) (ys : List NdS) (W : World) (hW : SW w0 g ys W) (hs : ys.length = d0.size) (cap a b : Nat) (hab : a ≤ b) (hb : b ≤ ys.length) (hm : ys.length ≤ 1000000) :
    Calls Tryz.prog 101 #[.slice (some ⟨g, 0, none⟩) ys.length cap, .int .i64 a, .int .i64 b, .func (.func 34) #[] #[]] W fun e w' => e = .returned (.tuple #[]) ∧ ∃ zs, Stab.Mrg keyS ys zs a b ∧ SW w0 g zs w' := by
  have HR := Lib.hid R; have HW := Lib.hid hW; have HS := Lib.hid hs
  have aE : ∀ w, (isAgg 50).run Tryz.prog w = .ok true w := fun w => by
    unfold isAgg
    rw [Sem.run_bind, run_underlying Tryz.underlying50 w]; simp
  obtain ⟨K, hK⟩ := named 6
  have zE : ∀ w, (Go.sizeOf 50).run Tryz.prog w = .ok K w := fun w => by rw [hK.out]; rfl
  have mixed : Tryz.prog.follows .mixedOrders = true := by kernel_rfl
  obtain ⟨N, hN⟩ := named ys.length
  have HB : Hid (b ≤ N) := by show _ ≤ _; rw [hN.out]; exact hb
  have HAB := Lib.hid hab
  have NM : Hid (N ≤ 1000000) := by show _ ≤ _; rw [hN.out]; exact hm
  rw [← hN.out]
  have nm : (b : Int) ≤ 1000000 := by omega
  have am : (a : Int) ≤ 1000000 := by omega
  clear R hW hs hab hb hm
  go_enter Tryz.func101, Tryz.ntmps101
  go_wp2_with fail
  go_loopw [8] (fun v wr => ∃ (i : Nat) (zs : List NdS), v = .int .i64 i ∧ a + 1 ≤ i ∧ i ≤ b + 1 ∧ Stab.Win ys zs a b ∧ Stab.Stb keyS ys zs ∧ Stab.SrtOn keyS zs a i ∧ SW w0 g zs wr) (fun v _ => b + 1 - (intOf v).toNat)
  case atStart => exact ⟨a + 1, ys, by go_num, Nat.le_refl _, by have := HAB.out; omega, Stab.Win.refl _ _ _, Stab.Stb.refl _, Stab.SrtOn.one _ _ _ (Nat.le_refl _), HW.out⟩
  case round =>
    obtain ⟨i, zs, rfl, hai, hib, hwin, hstb, hsrt, hsw⟩ := hrel
    have WIN := Lib.hid hwin; have STB := Lib.hid hstb; have SRT := Lib.hid hsrt; have HSW := Lib.hid hsw
    have ZL : Hid (zs.length = N) := by show _ = _; rw [hwin.len, hN.out]
    have AI := Lib.hid hai
    clear hwin hstb hsrt hsw hai
    by_cases hlt : i < b
    · have hltz : (i : Int) < b := by omega
      have IB := Lib.hid hlt
      have im : (i : Int) ≤ 1000000 := by omega
      clear hlt
      go_wp2_with fail
      go_loopw [9] (fun v wq => ∃ (j : Nat) (us : List NdS), v = .int .i64 j ∧ a ≤ j ∧ j ≤ i ∧ Stab.Ix us zs (Stab.rot j i (i + 1)) ∧ (∀ k, j ≤ k → k < i → cmpZ (keyS (Stab.g zs i)) (keyS (Stab.g zs k)) < 0) ∧ SW w0 g us wq) (fun v _ => (intOf v).toNat)
      case atStart => exact ⟨i, zs, rfl, by have := AI.out; omega, Nat.le_refl _, Stab.Ix.refl zs (fun k => by have := Stab.rot_cases i i (i + 1) k; omega), fun k h1 h2 => by omega, HSW.out⟩
      case round =>
        obtain ⟨j, us, rfl, haj, hji, hix, hgt, hsu⟩ := hrel
        have HIX := Lib.hid hix; have HGT := Lib.hid hgt; have HSU := Lib.hid hsu
        have UL : Hid (us.length = N) := by show _ = _; rw [hix.1, ZL.out]
        have AJ := Lib.hid haj; have JI := Lib.hid hji
        have DONE : Hid ((∀ k, a ≤ k → k < j → cmpZ (keyS (Stab.g zs k)) (keyS (Stab.g zs i)) ≤ 0) → ∀ wq, SW w0 g us wq → ∃ (i' : Nat) (zs' : List NdS), (Value.int .i64 ((i : Int) + 1)) = .int .i64 i' ∧ a + 1 ≤ i' ∧ i' ≤ b + 1 ∧ Stab.Win ys zs' a b ∧ Stab.Stb keyS ys zs' ∧ Stab.SrtOn keyS zs' a i' ∧ SW w0 g zs' wq) := fun h wq hq => by
          have m := Stab.ins_mrg HIX.out AJ.out JI.out (by rw [ZL.out]; have := IB.out; have := HB.out; omega) SRT.out h HGT.out
          exact ⟨i + 1, us, by go_num, by have := AI.out; omega, by have := IB.out; omega, WIN.out.trans (m.win.wide (Nat.le_refl _) IB.out), STB.out.trans m.stb, m.srt, hq⟩
        clear hix hgt hsu haj hji
        by_cases hja : a < j
        · have hjaz : (a : Int) < j := by omega
          obtain ⟨q, rfl⟩ : ∃ q, j = q + 1 := ⟨j - 1, by omega⟩
          have hjaz' : (a : Int) < (q : Int) + 1 := by omega
          have jz : (q : Int) + 1 < N := by have := JI.out; have := IB.out; have := HB.out; omega
          have jz1 : (q : Int) < N := by omega
          have p0 : (0 : Int) ≤ (q : Int) + 1 := by omega
          have e0 : ((q : Int) + 1).toNat = q + 1 := by omega
          have hwp : IntKind.i64.wrap (q : Int) = (q : Int) := wrapP (by omega) (by have := NM.out; omega)
          have ej : Stab.g us (q + 1) = Stab.g zs i := by rw [HIX.out.g]; have := Stab.rot_cases (q + 1) i (i + 1) (q + 1); have := JI.out; congr 1; omega
          have eq' : Stab.g us q = Stab.g zs q := by rw [HIX.out.g]; have := Stab.rot_cases (q + 1) i (i + 1) q; have := JI.out; congr 1; omega
          obtain ⟨ci, cj, hall⟩ := SW.test HR.out HSU.out (by rw [UL.out, ← HS.out, hN.out]) (i := q + 1) (j := q) (by rw [UL.out]; omega) (by rw [UL.out]; omega)
          obtain ⟨q1, q2, hcg, hcls⟩ := hall K hK.out
          rw [ej, eq'] at hcg
          have CLS := Lib.hid hcls
          obtain ⟨Z, hZ⟩ := named (cmpZ (keyS (Stab.g zs i)) (keyS (Stab.g zs q)))
          rw [← hZ.out] at hcg
          clear hall hcls ej eq' hja
          by_cases hlv : Z < 0
          · go_wp2_with fail
            go_quiet_grown (first | (go_at_call 34; refine Calls.grown_of (hcg _ _)))
            go_wp2_with fail
            have hsw2 := CLS.out nq osq
            clear q1 q2 hcg
            generalize grow (_ : World) osq = wq2 at hsw2 ⊢
            obtain ⟨di, dj, hall⟩ := SW.cells HR.out hsw2 (by rw [UL.out, ← HS.out, hN.out]) Tryz.prog (i := q + 1) (j := q) (by rw [UL.out]; omega) (by rw [UL.out]; omega)
            obtain ⟨l1, l2, q1, q2, q3, q4, q5⟩ := hall K hK.out
            have Q5 := Lib.hid q5
            have STEP : Hid (Stab.Ix (Stab.swl us (q + 1) q) zs (Stab.rot q i (i + 1))) := HIX.out.trans (Stab.swl_ix (by rw [UL.out]; omega) (by rw [UL.out]; omega)) (fun k => by have := Stab.rot_back (j := q + 1) (i := i) JI.out (by omega) k; simpa using this)
            clear q5 hall hsw2
            go_big_region_o
            all_goals go_wp2
            go_round
            case rel => exact ⟨q, _, by go_num, by omega, by have := JI.out; omega, STEP.out, fun k h1 h2 => by
              by_cases e : k = q
              · subst e; rw [← hZ.out]; exact hlv
              · exact HGT.out k (by omega) h2, Q5.out⟩
            case measure => simp [intOf]
          · go_wp2_with fail
            go_quiet_grown (first | (go_at_call 34; refine Calls.grown_of (hcg _ _)))
            go_wp2
            go_round
            case rel => exact DONE.out (fun k h1 h2 => by
              have h3 : cmpZ (keyS (Stab.g zs q)) (keyS (Stab.g zs i)) ≤ 0 := Stab.lt_le (by rw [← hZ.out]; omega)
              exact cmp_trans _ _ _ (SRT.out.le h1 (show k ≤ q by omega) (by have := JI.out; omega)) h3) _ (CLS.out nq osq)
            case measure => simp [intOf]; omega
        · have hjaz : decide ((j : Int) > (a : Int)) = false := decide_eq_false (by omega)
          have hjaz' : ¬ (a : Int) < (j : Int) := by omega
          have HD := Lib.hid (DONE.out (fun k h1 h2 => by omega))
          have HDR : Hid (SW w0 g us (World.drew _)) := SWK.drew HSU.out
          clear DONE
          go_wp2_with fail
          go_big_region_o
          all_goals go_wp2
          go_round
          case rel => exact HD.out _ HDR.out
          case measure => simp [intOf]; omega
    · have hltz : ¬ (i : Int) < b := by omega
      go_wp2
      go_end0
      refine ⟨rfl, zs, ⟨WIN.out, STB.out, SRT.out.sub (Nat.le_refl _) (by omega)⟩, HSW.out⟩
end Go.Proofs.YtmbimnnacjbdfaaGreatDoor.Tre
/-
  slices.rotateCmpFunc over nodes.
-/
namespace Go.Proofs.YtmbimnnacjbdfaaGreatDoor.Tre
open Go.RowKit Go.Proofs.YtmbimnnacjbdfaaGreatDoor.Fit Pnm Go.Sort

set_option maxRecDepth 100000 in
set_option maxHeartbeats 8000000 in
theorem rot_any (w0 : World) (g : Nat) (d0 : Array NdS) (R : RowK ndV 6 w0 g 0 d0) (ys : List NdS) (W : World) (hW : SW w0 g ys W) (hs : ys.length = d0.size) (cap a m b : Nat) (ham : a < m) (hmb : m < b) (hb : b ≤ ys.length) (hm : ys.length ≤ 1000000) (f : Value) :
    Calls Tryz.prog 120 #[.slice (some ⟨g, 0, none⟩) ys.length cap, .int .i64 a, .int .i64 m, .int .i64 b, f] W fun e w' => e = .returned (.tuple #[]) ∧ ∃ zs, Stab.Ix zs ys (Stab.rot a m b) ∧ SW w0 g zs w' := by
  have HR := Lib.hid R; have HW := Lib.hid hW; have HS := Lib.hid hs
  obtain ⟨N, hN⟩ := named ys.length
  have HB : Hid (b ≤ N) := by show _ ≤ _; rw [hN.out]; exact hb
  have HAM := Lib.hid ham; have HMB := Lib.hid hmb
  have NM : Hid (N ≤ 1000000) := by show _ ≤ _; rw [hN.out]; exact hm
  have SWR : Hid (∀ (zs : List NdS) (wq : World) (x y n : Nat), zs.length = N → SW w0 g zs wq → x + n ≤ y → y + n ≤ N → Calls Tryz.prog 138 #[.slice (some ⟨g, 0, none⟩) N cap, .int .i64 x, .int .i64 y, .int .i64 n, f] wq fun e w' => e = .returned (.tuple #[]) ∧ ∃ us, Stab.Ix us zs (Stab.swr x y n) ∧ SW w0 g us w') := fun zs wq x y n hl hz h1 h2 => by
    subst hl
    exact swr_any w0 g d0 HR.out zs wq hz (by rw [← HS.out, ← hN.out]) cap x y n h1 h2 NM.out f
  rw [← hN.out]
  have bm : (b : Int) ≤ 1000000 := by have := HB.out; have := NM.out; omega
  have mm : (m : Int) ≤ 1000000 := by omega
  have am : (a : Int) ≤ 1000000 := by omega
  have ami : (a : Int) < m := by omega
  have mbi : (m : Int) < b := by omega
  clear R hW hs ham hmb hb hm
  go_enter Tryz.func120, Tryz.ntmps120
  go_wp2_with fail
  go_loopw [10, 11] (fun v u wr => ∃ (i j : Nat) (zs : List NdS) (σ : Nat → Nat), v = .int .i64 i ∧ u = .int .i64 j ∧ 0 < i ∧ 0 < j ∧ i ≤ m ∧ m + j ≤ N ∧ zs.length = N ∧ Stab.Ix zs ys σ ∧ (∀ k, σ (Stab.rot (m - i) m (m + j) k) = Stab.rot a m b k) ∧ SW w0 g zs wr) (fun v u _ => (intOf v).toNat + (intOf u).toNat)
  case atStart => exact ⟨m - a, b - m, ys, id, by go_num, by go_num, by omega, by omega, by omega, by have := HB.out; omega, hN.out.symm, Stab.Ix.refl ys (fun k => rfl), fun k => by show Stab.rot _ _ _ _ = _; congr 1 <;> omega, HW.out⟩
  case round =>
    obtain ⟨i, j, zs, σ, rfl, rfl, hi, hj, him, hjn, hl, hix, hσ, hsw⟩ := hrel
    have HIX := Lib.hid hix; have HSG := Lib.hid hσ; have HSW := Lib.hid hsw; have HL := Lib.hid hl
    have HI := Lib.hid hi; have HJ := Lib.hid hj; have HIM := Lib.hid him; have HJN := Lib.hid hjn
    have ii : (i : Int) ≤ m := by omega
    have jj : (j : Int) ≤ 1000000 := by have := NM.out; omega
    clear hix hσ hsw hl
    by_cases hij : i = j
    · subst hij
      have S := SWR.out zs wr (m - i) m i HL.out HSW.out (by omega) (by omega)
      rw [show ((m - i : Nat) : Int) = (m : Int) - i by omega] at S
      have SS := Lib.hid S
      clear S hi hj him hjn
      go_wp2_with fail
      refine SS.out.mono ?_; rintro e w1 ⟨rfl, us, hix, hsw⟩
      go_wp2_with fail
      go_end0
      exact ⟨rfl, us, HIX.out.trans hix (fun k => by rw [Stab.rot_even HIM.out, HSG.out]), hsw⟩
    · have nij : ((i : Int) != (j : Int)) = true := by simp; omega
      by_cases hlt : j < i
      · have hlti : (j : Int) < i := by omega
        have S := SWR.out zs wr (m - i) m j HL.out HSW.out (by omega) (by omega)
        rw [show ((m - i : Nat) : Int) = (m : Int) - i by omega] at S
        have SS := Lib.hid S
        have IJ := Lib.hid hlt
        clear S hi hj him hjn hij hlt
        go_wp2_with fail
        refine SS.out.mono ?_; rintro e w1 ⟨rfl, us, hix, hsw⟩
        have HU := Lib.hid hsw; have HX := Lib.hid hix
        clear hix hsw
        go_wp2_with fail
        go_round
        case rel => exact ⟨i - j, j, us, fun k => σ (Stab.swr (m - i) m j k), by go_num, by go_num, by have := IJ.out; omega, HJ.out, by have := HIM.out; omega, HJN.out, HX.out.1.trans HL.out, HIX.out.trans HX.out (fun k => rfl), fun k => by
          show σ (Stab.swr (m - i) m j _) = _
          rw [Stab.rot_left HIM.out IJ.out, HSG.out], HU.out⟩
        case measure => have := HJ.out; have := IJ.out; simp [intOf]; omega
      · have hlti : (i : Int) < j := by omega
        have nlt : ¬ (j : Int) < i := by omega
        have S := SWR.out zs wr (m - i) (m + j - i) i HL.out HSW.out (by omega) (by omega)
        rw [show ((m - i : Nat) : Int) = (m : Int) - i by omega, show ((m + j - i : Nat) : Int) = (m : Int) + j - i by omega] at S
        have SS := Lib.hid S
        have IJ : Hid (i < j) := by show _ < _; omega
        clear S hi hj him hjn hij hlt
        go_wp2_with fail
        refine SS.out.mono ?_; rintro e w1 ⟨rfl, us, hix, hsw⟩
        have HU := Lib.hid hsw; have HX := Lib.hid hix
        clear hix hsw
        go_wp2_with fail
        go_round
        case rel => exact ⟨i, j - i, us, fun k => σ (Stab.swr (m - i) (m + j - i) i k), by go_num, by go_num, HI.out, by have := IJ.out; omega, HIM.out, by have := HJN.out; omega, HX.out.1.trans HL.out, HIX.out.trans HX.out (fun k => rfl), fun k => by
          show σ (Stab.swr (m - i) (m + j - i) i _) = _
          rw [Stab.rot_right HIM.out IJ.out, HSG.out], HU.out⟩
        case measure => have := HI.out; have := IJ.out; simp [intOf]; omega
end Go.Proofs.YtmbimnnacjbdfaaGreatDoor.Tre
/-
  slices.symMergeCmpFunc over nodes.
-/
namespace Go.Proofs.YtmbimnnacjbdfaaGreatDoor.Tre
open Go.RowKit Go.Proofs.YtmbimnnacjbdfaaGreatDoor.Fit Pnm Go.Sort

/-- the contract of a merge of rows no longer than L -/
def SymOk (w0 : World) (g : Nat) (N cap L : Nat) : Prop := ∀ (ys : List NdS) (W : World) (a m b : Nat), ys.length = N → SW w0 g ys W → a < m → m < b → b ≤ N → b - a ≤ L → Stab.SrtOn keyS ys a m → Stab.SrtOn keyS ys m b →
  Calls Tryz.prog 102 #[.slice (some ⟨g, 0, none⟩) N cap, .int .i64 a, .int .i64 m, .int .i64 b, .func (.func 34) #[] #[]] W fun e w' => e = .returned (.tuple #[]) ∧ ∃ zs, Stab.Mrg keyS ys zs a b ∧ SW w0 g zs w'

set_option maxRecDepth 1000000 in
set_option maxHeartbeats 16000000 in
theorem sym_left (w0 : World) (g : Nat) (d0 : Array NdS) (R : RowK ndV 6 w0 g 0 d0) (ys : List NdS) (W : World) (hW : SW w0 g ys W) (N : Nat) (hN : ys.length = N) (hs : N = d0.size) (cap a m b : Nat) (ham : a < m) (hmb : m < b) (hb : b ≤ N) (hm : N ≤ 1000000) (s1 : Stab.SrtOn keyS ys a m) (s2 : Stab.SrtOn keyS ys m b) (h1 : m = a + 1) :
    Calls Tryz.prog 102 #[.slice (some ⟨g, 0, none⟩) N cap, .int .i64 a, .int .i64 m, .int .i64 b, .func (.func 34) #[] #[]] W fun e w' => e = .returned (.tuple #[]) ∧ ∃ zs, Stab.Mrg keyS ys zs a b ∧ SW w0 g zs w' := by
  have HR := Lib.hid R; have HW := Lib.hid hW; have HS := Lib.hid hs; have HN := Lib.hid hN
  have S1 := Lib.hid s1; have S2 := Lib.hid s2; have HAM := Lib.hid ham; have HMB := Lib.hid hmb; have HB := Lib.hid hb; have NM := Lib.hid hm
  have aE : ∀ w, (isAgg 50).run Tryz.prog w = .ok true w := fun w => by
    unfold isAgg
    rw [Sem.run_bind, run_underlying Tryz.underlying50 w]; simp
  obtain ⟨K, hK⟩ := named 6
  have zE : ∀ w, (Go.sizeOf 50).run Tryz.prog w = .ok K w := fun w => by rw [hK.out]; rfl
  have mixed : Tryz.prog.follows .mixedOrders = true := by kernel_rfl
  have bi : (b : Int) ≤ 1000000 := by omega
  have mi : (m : Int) ≤ 1000000 := by omega
  have ai : (a : Int) ≤ 1000000 := by omega
  have bN : (b : Int) ≤ N := by omega
  have mN : (m : Int) < N := by omega
  have aN : (a : Int) < N := by omega
  have M1 := Lib.hid h1
  have S2' : Hid (Stab.SrtOn keyS ys (a + 1) b) := by show Stab.SrtOn _ _ _ _; rw [← h1]; exact s2
  have m1 : (m : Int) - a = 1 := by omega
  clear R hW hs hN s1 s2 ham hmb hb hm h1
  go_enter Tryz.func102, Tryz.ntmps102
  go_wp2_with fail
  go_loopw [10, 11] (fun v u wr => ∃ (i j : Nat), v = .int .i64 i ∧ u = .int .i64 j ∧ a + 1 ≤ i ∧ i ≤ j ∧ j ≤ b ∧ (∀ k, a + 1 ≤ k → k < i → cmpZ (keyS (Stab.g ys k)) (keyS (Stab.g ys a)) < 0) ∧ (∀ k, j ≤ k → k < b → cmpZ (keyS (Stab.g ys a)) (keyS (Stab.g ys k)) ≤ 0) ∧ SW w0 g ys wr) (fun v u _ => (intOf u).toNat - (intOf v).toNat)
  case atStart => exact ⟨m, b, rfl, rfl, by have := M1.out; omega, by have := HMB.out; omega, Nat.le_refl _, fun k h h' => by have := M1.out; omega, fun k h h' => by omega, HW.out⟩
  case round =>
    obtain ⟨i, j, rfl, rfl, hi, hij, hj, hlo, hhi, hsw⟩ := hrel
    have LO := Lib.hid hlo; have HI := Lib.hid hhi; have HSW := Lib.hid hsw; have AI := Lib.hid hi; have JB := Lib.hid hj
    have jj : (j : Int) ≤ 1000000 := by omega
    have ii : (i : Int) ≤ 1000000 := by omega
    clear hlo hhi hsw
    by_cases hlt : i < j
    · have hlti : (i : Int) < j := by omega
      obtain ⟨h, hh⟩ := named ((i + j) / 2)
      have hhi : ((i : Int) + j) / 2 = (h : Int) := by have := hh.out; omega
      have hN1 : (h : Int) < N := by have := hh.out; have := HB.out; omega
      have HH : Hid (i ≤ h ∧ h < j) := by show _ ∧ _; have := hh.out; omega
      obtain ⟨ci, cj, hall⟩ := SW.test HR.out HSW.out (by rw [HN.out, HS.out]) (i := h) (j := a) (by rw [HN.out]; omega) (by rw [HN.out]; omega)
      obtain ⟨q1, q2, hcg, hcls⟩ := hall K hK.out
      have CLS := Lib.hid hcls
      obtain ⟨Z, hZ⟩ := named (cmpZ (keyS (Stab.g ys h)) (keyS (Stab.g ys a)))
      rw [← hZ.out] at hcg
      have IJ := Lib.hid hlt
      clear hall hcls hi hij hj hh hlt
      by_cases hlv : Z < 0
      · have HLV := Lib.hid hlv
        go_wp2_with fail
        go_quiet_grown (first | (go_at_call 34; refine Calls.grown_of (hcg _ _)))
        go_wp2
        (all_goals (try (exfalso; omega)))
        go_round
        case rel => exact ⟨h + 1, j, by go_num, rfl, by have := AI.out; have := HH.out; omega, by have := HH.out; omega, JB.out, fun k h1 h2 => by
          have h3 : cmpZ (keyS (Stab.g ys h)) (keyS (Stab.g ys a)) < 0 := by rw [← hZ.out]; exact HLV.out
          exact Stab.le_lt (S2'.out.le h1 (show k ≤ h by omega) (by have := HH.out; have := JB.out; omega)) h3, HI.out, CLS.out _ _⟩
        case measure => have := HH.out; simp [intOf]; omega
      · have HLV : Hid (¬ Z < 0) := hlv
        have hzd : decide (Z < 0) = false := decide_eq_false hlv
        go_wp2_with fail
        go_quiet_grown (first | (go_at_call 34; refine Calls.grown_of (hcg _ _)))
        go_wp2
        (all_goals (try (exfalso; omega)))
        go_round
        case rel => exact ⟨i, h, rfl, rfl, AI.out, HH.out.1, by have := HH.out; have := JB.out; omega, LO.out, fun k h1 h2 => by
          have h3 : cmpZ (keyS (Stab.g ys a)) (keyS (Stab.g ys h)) ≤ 0 := Stab.lt_le (by rw [← hZ.out]; have := HLV.out; omega)
          exact cmp_trans _ _ _ h3 (S2'.out.le (by have := AI.out; have := HH.out; omega) h1 h2), CLS.out _ _⟩
        case measure => have := HH.out; simp [intOf]; omega
    · obtain rfl : i = j := by omega
      have nlt : ¬ (i : Int) < i := by omega
      have i1 : (1 : Int) ≤ i := by omega
      have FIN : Hid (∀ us wq, Stab.Ix us ys (Stab.rot a (a + 1) i) → SW w0 g us wq → ∃ zs, Stab.Mrg keyS ys zs a b ∧ SW w0 g zs wq) := fun us wq hx hq => ⟨us, Stab.fwd_mrg hx AI.out JB.out (by rw [HN.out]; exact HB.out) S2'.out LO.out HI.out, hq⟩
      clear hij hi hj hlt
      go_wp2_with fail
      go_loopw [13] (fun v wr => ∃ (k : Nat) (us : List NdS), v = .int .i64 k ∧ a ≤ k ∧ k + 1 ≤ i ∧ Stab.Ix us ys (Stab.rot a (a + 1) (k + 1)) ∧ SW w0 g us wr) (fun v _ => i - (intOf v).toNat)
      case atStart => exact ⟨a, ys, rfl, Nat.le_refl _, AI.out, Stab.Ix.refl ys (fun k => by have := Stab.rot_cases a (a + 1) (a + 1) k; omega), HSW.out⟩
      case round =>
        obtain ⟨k, us, rfl, hak, hki, hix, hsu⟩ := hrel
        have HX := Lib.hid hix; have HU := Lib.hid hsu; have AK := Lib.hid hak; have KI := Lib.hid hki
        have UL : Hid (us.length = N) := by show _ = _; rw [hix.1, HN.out]
        have kk : (k : Int) ≤ 1000000 := by omega
        clear hix hsu hak
        by_cases hlt : k + 1 < i
        · have hlti : (k : Int) < (i : Int) - 1 := by omega
          have k1 : (k : Int) + 1 < N := by have := JB.out; have := HB.out; omega
          have k2 : (k : Int) < N := by omega
          have p0 : (0 : Int) ≤ (k : Int) + 1 := by omega
          have e0 : ((k : Int) + 1).toNat = k + 1 := by omega
          obtain ⟨di, dj, hall⟩ := SW.cells HR.out HU.out (by rw [UL.out, HS.out]) Tryz.prog (i := k) (j := k + 1) (by rw [UL.out]; omega) (by rw [UL.out]; omega)
          obtain ⟨l1, l2, q1, q2, q3, q4, q5⟩ := hall K hK.out
          have Q5 := Lib.hid q5
          have STEP : Hid (Stab.Ix (Stab.swl us k (k + 1)) ys (Stab.rot a (a + 1) (k + 2))) := HX.out.trans (Stab.swl_ix (by rw [UL.out]; omega) (by rw [UL.out]; omega)) (fun q => Stab.rot_forth AK.out q)
          have LT := Lib.hid hlt
          clear q5 hall hlt hki
          go_wp2_with fail
          go_big_region_o
          all_goals go_wp2
          go_round
          case rel => exact ⟨k + 1, _, by go_num, by have := AK.out; omega, by have := LT.out; omega, STEP.out, Q5.out⟩
          case measure => have := LT.out; simp [intOf]; omega
        · obtain rfl : i = k + 1 := by omega
          have nlt2 : ¬ (k : Int) < ((k + 1 : Nat) : Int) - 1 := by omega
          have F := Lib.hid (FIN.out us _ HX.out HU.out)
          clear FIN hlt hki
          go_wp2
          exact bodyPost_ret (results_none rfl _ _ _) rfl ⟨rfl, F.out⟩

set_option maxRecDepth 1000000 in
set_option maxHeartbeats 16000000 in
theorem sym_right (w0 : World) (g : Nat) (d0 : Array NdS) (R : RowK ndV 6 w0 g 0 d0) (ys : List NdS) (W : World) (hW : SW w0 g ys W) (N : Nat) (hN : ys.length = N) (hs : N = d0.size) (cap a m b : Nat) (ham : a < m) (hmb : m < b) (hb : b ≤ N) (hm : N ≤ 1000000) (s1 : Stab.SrtOn keyS ys a m) (s2 : Stab.SrtOn keyS ys m b) (h0 : m ≠ a + 1) (h1 : b = m + 1) :
    Calls Tryz.prog 102 #[.slice (some ⟨g, 0, none⟩) N cap, .int .i64 a, .int .i64 m, .int .i64 b, .func (.func 34) #[] #[]] W fun e w' => e = .returned (.tuple #[]) ∧ ∃ zs, Stab.Mrg keyS ys zs a b ∧ SW w0 g zs w' := by
  have HR := Lib.hid R; have HW := Lib.hid hW; have HS := Lib.hid hs; have HN := Lib.hid hN
  have S1 := Lib.hid s1; have S2 := Lib.hid s2; have HAM := Lib.hid ham; have HMB := Lib.hid hmb; have HB := Lib.hid hb; have NM := Lib.hid hm
  have aE : ∀ w, (isAgg 50).run Tryz.prog w = .ok true w := fun w => by
    unfold isAgg
    rw [Sem.run_bind, run_underlying Tryz.underlying50 w]; simp
  obtain ⟨K, hK⟩ := named 6
  have zE : ∀ w, (Go.sizeOf 50).run Tryz.prog w = .ok K w := fun w => by rw [hK.out]; rfl
  have mixed : Tryz.prog.follows .mixedOrders = true := by kernel_rfl
  have bi : (b : Int) ≤ 1000000 := by omega
  have mi : (m : Int) ≤ 1000000 := by omega
  have ai : (a : Int) ≤ 1000000 := by omega
  have bN : (b : Int) ≤ N := by omega
  have mN : (m : Int) < N := by omega
  have aN : (a : Int) < N := by omega
  have M1 := Lib.hid h1
  have m0 : ((m : Int) - a == 1) = false := by simp; omega
  have m1 : (b : Int) - m = 1 := by omega
  clear R hW hs hN s1 s2 ham hmb hb hm h0 h1
  go_enter Tryz.func102, Tryz.ntmps102
  go_wp2_with fail
  go_loopw [14, 15] (fun v u wr => ∃ (i j : Nat), v = .int .i64 i ∧ u = .int .i64 j ∧ a ≤ i ∧ i ≤ j ∧ j ≤ m ∧ (∀ k, a ≤ k → k < i → cmpZ (keyS (Stab.g ys k)) (keyS (Stab.g ys m)) ≤ 0) ∧ (∀ k, j ≤ k → k < m → cmpZ (keyS (Stab.g ys m)) (keyS (Stab.g ys k)) < 0) ∧ SW w0 g ys wr) (fun v u _ => (intOf u).toNat - (intOf v).toNat)
  case atStart => exact ⟨a, m, rfl, rfl, Nat.le_refl _, by have := HAM.out; omega, Nat.le_refl _, fun k h h' => by omega, fun k h h' => by omega, HW.out⟩
  case round =>
    obtain ⟨i, j, rfl, rfl, hi, hij, hj, hlo, hhi, hsw⟩ := hrel
    have LO := Lib.hid hlo; have HI := Lib.hid hhi; have HSW := Lib.hid hsw; have AI := Lib.hid hi; have JB := Lib.hid hj
    have jj : (j : Int) ≤ 1000000 := by omega
    have ii : (i : Int) ≤ 1000000 := by omega
    clear hlo hhi hsw
    by_cases hlt : i < j
    · have hlti : (i : Int) < j := by omega
      obtain ⟨h, hh⟩ := named ((i + j) / 2)
      have hhi : ((i : Int) + j) / 2 = (h : Int) := by have := hh.out; omega
      have hN1 : (h : Int) < N := by have := hh.out; have := HB.out; omega
      have HH : Hid (i ≤ h ∧ h < j) := by show _ ∧ _; have := hh.out; omega
      obtain ⟨ci, cj, hall⟩ := SW.test HR.out HSW.out (by rw [HN.out, HS.out]) (i := m) (j := h) (by rw [HN.out]; omega) (by rw [HN.out]; omega)
      obtain ⟨q1, q2, hcg, hcls⟩ := hall K hK.out
      have CLS := Lib.hid hcls
      obtain ⟨Z, hZ⟩ := named (cmpZ (keyS (Stab.g ys m)) (keyS (Stab.g ys h)))
      rw [← hZ.out] at hcg
      clear hall hcls hi hij hj hh hlt
      by_cases hlv : Z < 0
      · have HLV := Lib.hid hlv
        go_wp2_with fail
        go_quiet_grown (first | (go_at_call 34; refine Calls.grown_of (hcg _ _)))
        go_wp2
        (all_goals (try (exfalso; omega)))
        go_round
        case rel => exact ⟨i, h, rfl, rfl, AI.out, HH.out.1, by have := HH.out; have := JB.out; omega, LO.out, fun k h1 h2 => by
          have h3 : cmpZ (keyS (Stab.g ys m)) (keyS (Stab.g ys h)) < 0 := by rw [← hZ.out]; exact HLV.out
          exact Stab.lt_le_lt h3 (S1.out.le (by have := AI.out; have := HH.out; omega) h1 h2), CLS.out _ _⟩
        case measure => have := HH.out; simp [intOf]; omega
      · have HLV : Hid (¬ Z < 0) := hlv
        have hzd : decide (Z < 0) = false := decide_eq_false hlv
        go_wp2_with fail
        go_quiet_grown (first | (go_at_call 34; refine Calls.grown_of (hcg _ _)))
        go_wp2
        (all_goals (try (exfalso; omega)))
        go_round
        case rel => exact ⟨h + 1, j, by go_num, rfl, by have := AI.out; have := HH.out; omega, by have := HH.out; omega, JB.out, fun k h1 h2 => by
          have h3 : cmpZ (keyS (Stab.g ys h)) (keyS (Stab.g ys m)) ≤ 0 := Stab.lt_le (by rw [← hZ.out]; have := HLV.out; omega)
          exact cmp_trans _ _ _ (S1.out.le h1 (show k ≤ h by omega) (by have := HH.out; have := JB.out; omega)) h3, HI.out, CLS.out _ _⟩
        case measure => have := HH.out; simp [intOf]; omega
    · obtain rfl : i = j := by omega
      have nlt : ¬ (i : Int) < i := by omega
      have FIN : Hid (∀ us wq, Stab.Ix us ys (Stab.rot i m (m + 1)) → SW w0 g us wq → ∃ zs, Stab.Mrg keyS ys zs a b ∧ SW w0 g zs wq) := fun us wq hx hq => ⟨us, by rw [M1.out]; exact Stab.ins_mrg hx AI.out JB.out (by rw [HN.out]; have := HB.out; have := M1.out; omega) S1.out LO.out HI.out, hq⟩
      clear hij hi hj hlt
      go_wp2_with fail
      go_loopw [17] (fun v wr => ∃ (k : Nat) (us : List NdS), v = .int .i64 k ∧ i ≤ k ∧ k ≤ m ∧ Stab.Ix us ys (Stab.rot k m (m + 1)) ∧ SW w0 g us wr) (fun v _ => (intOf v).toNat)
      case atStart => exact ⟨m, ys, rfl, JB.out, Nat.le_refl _, Stab.Ix.refl ys (fun k => by have := Stab.rot_cases m m (m + 1) k; omega), HSW.out⟩
      case round =>
        obtain ⟨k, us, rfl, hak, hki, hix, hsu⟩ := hrel
        have HX := Lib.hid hix; have HU := Lib.hid hsu; have AK := Lib.hid hak; have KI := Lib.hid hki
        have UL : Hid (us.length = N) := by show _ = _; rw [hix.1, HN.out]
        have kk : (k : Int) ≤ 1000000 := by omega
        clear hix hsu hki
        by_cases hlt : i < k
        · obtain ⟨q, rfl⟩ : ∃ q, k = q + 1 := ⟨k - 1, by omega⟩
          have hlti : (i : Int) < (q : Int) + 1 := by omega
          have k1 : (q : Int) + 1 < N := by have := KI.out; have := HB.out; have := M1.out; omega
          have k2 : (q : Int) < N := by omega
          have p0 : (0 : Int) ≤ (q : Int) + 1 := by omega
          have e0 : ((q : Int) + 1).toNat = q + 1 := by omega
          have hwp : IntKind.i64.wrap (q : Int) = (q : Int) := wrapP (by omega) (by have := NM.out; omega)
          obtain ⟨di, dj, hall⟩ := SW.cells HR.out HU.out (by rw [UL.out, HS.out]) Tryz.prog (i := q + 1) (j := q) (by rw [UL.out]; omega) (by rw [UL.out]; omega)
          obtain ⟨l1, l2, q1, q2, q3, q4, q5⟩ := hall K hK.out
          have Q5 := Lib.hid q5
          have STEP : Hid (Stab.Ix (Stab.swl us (q + 1) q) ys (Stab.rot q m (m + 1))) := HX.out.trans (Stab.swl_ix (by rw [UL.out]; omega) (by rw [UL.out]; omega)) (fun x => by have := Stab.rot_back (j := q + 1) (i := m) KI.out (by omega) x; simpa using this)
          have LT := Lib.hid hlt
          clear q5 hall hlt hak
          go_wp2_with fail
          go_big_region_o
          all_goals go_wp2
          go_round
          case rel => exact ⟨q, _, by go_num, by have := LT.out; omega, by have := KI.out; omega, STEP.out, Q5.out⟩
          case measure => simp [intOf]
        · obtain rfl : i = k := by omega
          have nlt2 : ¬ (i : Int) < (i : Int) := by omega
          have F := Lib.hid (FIN.out us _ HX.out HU.out)
          clear FIN hlt hak
          go_wp2
          exact bodyPost_ret (results_none rfl _ _ _) rfl ⟨rfl, F.out⟩
end Go.Proofs.YtmbimnnacjbdfaaGreatDoor.Tre
