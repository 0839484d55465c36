/-
  slices.insertionSortCmpFunc over nodes.
-/
import Derived.Test.YtmbimnnacjbdfaaDoorSrtSwap
namespace Go.Proofs.YtmbimnnacjbdfaaDoor.Tre
open Go.RowKit Go.Proofs.YtmbimnnacjbdfaaDoor.Fit Pnm Go.Sort

/-- what a comparison of two elements needs -/
theorem SW.test {w0 W : World} {g : Nat} {d0 : Array NdS} {ys : List NdS} (R : RowK ndV 6 w0 g 0 d0) (h : SW w0 g ys W) (hs : ys.length = d0.size) {i j : Nat} (hi : i < ys.length) (hj : j < ys.length) :
    ∃ ci cj : List Value, ∀ K, K = 6 → (∀ n os, Sem.run Tryd.prog (loadCellsFrom ⟨g, i * K, none⟩ 0 K #[]) (grow (W.drewN n) os) = .ok ci.toArray (grow (W.drewN n) os)) ∧ (∀ n os, Sem.run Tryd.prog (loadCellsFrom ⟨g, j * K, none⟩ 0 K #[]) (grow (W.drewN n) os) = .ok cj.toArray (grow (W.drewN n) os)) ∧
      (∀ n os, Calls Tryd.prog 23 #[.agg ci.toArray, .agg cj.toArray] (grow (W.drewN n) os) fun e w' => e = .returned (.int .i64 (cmpZ (keyS (Stab.g ys i)) (keyS (Stab.g ys j)))) ∧ ∃ q os', w' = grow ((grow (W.drewN n) os).drewN q) os') ∧
      (∀ n os, SW w0 g ys (grow (W.drewN n) os)) := by
  have hs' : ys.toArray.size = d0.size := by simpa using hs
  have hi' : i < ys.toArray.size := by simpa using hi
  have hj' : j < ys.toArray.size := by simpa using hj
  refine ⟨ndV ys.toArray[i]!, ndV ys.toArray[j]!, fun K hK => ?_⟩
  subst hK
  refine ⟨fun n os => ?_, fun n os => ?_, fun n os => ?_, fun n os => SWK.grown h n os⟩
  · have := SWK.ld h R hs' Tryd.prog i hi' n os
    rw [Nat.zero_add] at this; exact this
  · have := SWK.ld h R hs' Tryd.prog j hj' n os
    rw [Nat.zero_add] at this; exact this
  · have := SWK.cmp h (cmp_lays g d0.size w0) hs' ys.toArray[i]! ys.toArray[j]! n os
    rw [← arr_g, ← arr_g]
    exact this

set_option maxRecDepth 100000 in
set_option maxHeartbeats 8000000 in
theorem ins_any (w0 : World) (g : Nat) (d0 : Array NdS) (R : RowK ndV 6 w0 g 0 d0) (ys : List NdS) (W : World) (hW : SW w0 g ys W) (hs : ys.length = d0.size) (cap a b : Nat) (hab : a ≤ b) (hb : b ≤ ys.length) (hm : ys.length ≤ 1000000) :
    Calls Tryd.prog 50 #[.slice (some ⟨g, 0, none⟩) ys.length cap, .int .i64 a, .int .i64 b, .func (.func 23) #[] #[]] W fun e w' => e = .returned (.tuple #[]) ∧ ∃ zs, Stab.Mrg keyS ys zs a b ∧ SW w0 g zs w' := by
  have HR := Lib.hid R; have HW := Lib.hid hW; have HS := Lib.hid hs
  have aE : ∀ w, (isAgg 32).run Tryd.prog w = .ok true w := fun w => by
    unfold isAgg
    rw [Sem.run_bind, run_underlying Tryd.underlying32 w]; simp
  obtain ⟨K, hK⟩ := named 6
  have zE : ∀ w, (Go.sizeOf 32).run Tryd.prog w = .ok K w := fun w => by rw [hK.out]; rfl
  have mixed : Tryd.prog.follows .mixedOrders = true := by kernel_rfl
  obtain ⟨N, hN⟩ := named ys.length
  have HB : Hid (b ≤ N) := by show _ ≤ _; rw [hN.out]; exact hb
  have HAB := Lib.hid hab
  have NM : Hid (N ≤ 1000000) := by show _ ≤ _; rw [hN.out]; exact hm
  rw [← hN.out]
  have nm : (b : Int) ≤ 1000000 := by omega
  have am : (a : Int) ≤ 1000000 := by omega
  clear R hW hs hab hb hm
  go_enter Tryd.func50, Tryd.ntmps50
  go_wp2_with fail
  go_loopw [8] (fun v wr => ∃ (i : Nat) (zs : List NdS), v = .int .i64 i ∧ a + 1 ≤ i ∧ i ≤ b + 1 ∧ Stab.Win ys zs a b ∧ Stab.Stb keyS ys zs ∧ Stab.SrtOn keyS zs a i ∧ SW w0 g zs wr) (fun v _ => b + 1 - (intOf v).toNat)
  case atStart => exact ⟨a + 1, ys, by go_num, Nat.le_refl _, by have := HAB.out; omega, Stab.Win.refl _ _ _, Stab.Stb.refl _, Stab.SrtOn.one _ _ _ (Nat.le_refl _), HW.out⟩
  case round =>
    obtain ⟨i, zs, rfl, hai, hib, hwin, hstb, hsrt, hsw⟩ := hrel
    have WIN := Lib.hid hwin; have STB := Lib.hid hstb; have SRT := Lib.hid hsrt; have HSW := Lib.hid hsw
    have ZL : Hid (zs.length = N) := by show _ = _; rw [hwin.len, hN.out]
    have AI := Lib.hid hai
    clear hwin hstb hsrt hsw hai
    by_cases hlt : i < b
    · have hltz : (i : Int) < b := by omega
      have IB := Lib.hid hlt
      have im : (i : Int) ≤ 1000000 := by omega
      clear hlt
      go_wp2_with fail
      go_loopw [9] (fun v wq => ∃ (j : Nat) (us : List NdS), v = .int .i64 j ∧ a ≤ j ∧ j ≤ i ∧ Stab.Ix us zs (Stab.rot j i (i + 1)) ∧ (∀ k, j ≤ k → k < i → cmpZ (keyS (Stab.g zs i)) (keyS (Stab.g zs k)) < 0) ∧ SW w0 g us wq) (fun v _ => (intOf v).toNat)
      case atStart => exact ⟨i, zs, rfl, by have := AI.out; omega, Nat.le_refl _, Stab.Ix.refl zs (fun k => by have := Stab.rot_cases i i (i + 1) k; omega), fun k h1 h2 => by omega, HSW.out⟩
      case round =>
        obtain ⟨j, us, rfl, haj, hji, hix, hgt, hsu⟩ := hrel
        have HIX := Lib.hid hix; have HGT := Lib.hid hgt; have HSU := Lib.hid hsu
        have UL : Hid (us.length = N) := by show _ = _; rw [hix.1, ZL.out]
        have AJ := Lib.hid haj; have JI := Lib.hid hji
        have DONE : Hid ((∀ k, a ≤ k → k < j → cmpZ (keyS (Stab.g zs k)) (keyS (Stab.g zs i)) ≤ 0) → ∀ wq, SW w0 g us wq → ∃ (i' : Nat) (zs' : List NdS), (Value.int .i64 ((i : Int) + 1)) = .int .i64 i' ∧ a + 1 ≤ i' ∧ i' ≤ b + 1 ∧ Stab.Win ys zs' a b ∧ Stab.Stb keyS ys zs' ∧ Stab.SrtOn keyS zs' a i' ∧ SW w0 g zs' wq) := fun h wq hq => by
          have m := Stab.ins_mrg HIX.out AJ.out JI.out (by rw [ZL.out]; have := IB.out; have := HB.out; omega) SRT.out h HGT.out
          exact ⟨i + 1, us, by go_num, by have := AI.out; omega, by have := IB.out; omega, WIN.out.trans (m.win.wide (Nat.le_refl _) IB.out), STB.out.trans m.stb, m.srt, hq⟩
        clear hix hgt hsu haj hji
        by_cases hja : a < j
        · have hjaz : (a : Int) < j := by omega
          obtain ⟨q, rfl⟩ : ∃ q, j = q + 1 := ⟨j - 1, by omega⟩
          have hjaz' : (a : Int) < (q : Int) + 1 := by omega
          have jz : (q : Int) + 1 < N := by have := JI.out; have := IB.out; have := HB.out; omega
          have jz1 : (q : Int) < N := by omega
          have p0 : (0 : Int) ≤ (q : Int) + 1 := by omega
          have e0 : ((q : Int) + 1).toNat = q + 1 := by omega
          have hwp : IntKind.i64.wrap (q : Int) = (q : Int) := wrapP (by omega) (by have := NM.out; omega)
          have ej : Stab.g us (q + 1) = Stab.g zs i := by rw [HIX.out.g]; have := Stab.rot_cases (q + 1) i (i + 1) (q + 1); have := JI.out; congr 1; omega
          have eq' : Stab.g us q = Stab.g zs q := by rw [HIX.out.g]; have := Stab.rot_cases (q + 1) i (i + 1) q; have := JI.out; congr 1; omega
          obtain ⟨ci, cj, hall⟩ := SW.test HR.out HSU.out (by rw [UL.out, ← HS.out, hN.out]) (i := q + 1) (j := q) (by rw [UL.out]; omega) (by rw [UL.out]; omega)
          obtain ⟨q1, q2, hcg, hcls⟩ := hall K hK.out
          rw [ej, eq'] at hcg
          have CLS := Lib.hid hcls
          obtain ⟨Z, hZ⟩ := named (cmpZ (keyS (Stab.g zs i)) (keyS (Stab.g zs q)))
          rw [← hZ.out] at hcg
          clear hall hcls ej eq' hja
          by_cases hlv : Z < 0
          · go_wp2_with fail
            go_quiet_grown (first | (go_at_call 23; refine Calls.grown_of (hcg _ _)))
            go_wp2_with fail
            have hsw2 := CLS.out nq osq
            clear q1 q2 hcg
            generalize grow (_ : World) osq = wq2 at hsw2 ⊢
            obtain ⟨di, dj, hall⟩ := SW.cells HR.out hsw2 (by rw [UL.out, ← HS.out, hN.out]) Tryd.prog (i := q + 1) (j := q) (by rw [UL.out]; omega) (by rw [UL.out]; omega)
            obtain ⟨l1, l2, q1, q2, q3, q4, q5⟩ := hall K hK.out
            have Q5 := Lib.hid q5
            have STEP : Hid (Stab.Ix (Stab.swl us (q + 1) q) zs (Stab.rot q i (i + 1))) := HIX.out.trans (Stab.swl_ix (by rw [UL.out]; omega) (by rw [UL.out]; omega)) (fun k => by have := Stab.rot_back (j := q + 1) (i := i) JI.out (by omega) k; simpa using this)
            clear q5 hall hsw2
            go_big_region_o
            all_goals go_wp2
            go_round
            case rel => exact ⟨q, _, by go_num, by omega, by have := JI.out; omega, STEP.out, fun k h1 h2 => by
              by_cases e : k = q
              · subst e; rw [← hZ.out]; exact hlv
              · exact HGT.out k (by omega) h2, Q5.out⟩
            case measure => simp [intOf]
          · go_wp2_with fail
            go_quiet_grown (first | (go_at_call 23; refine Calls.grown_of (hcg _ _)))
            go_wp2
            go_round
            case rel => exact DONE.out (fun k h1 h2 => by
              have h3 : cmpZ (keyS (Stab.g zs q)) (keyS (Stab.g zs i)) ≤ 0 := Stab.lt_le (by rw [← hZ.out]; omega)
              exact cmp_trans _ _ _ (SRT.out.le h1 (show k ≤ q by omega) (by have := JI.out; omega)) h3) _ (CLS.out nq osq)
            case measure => simp [intOf]; omega
        · have hjaz : decide ((j : Int) > (a : Int)) = false := decide_eq_false (by omega)
          have hjaz' : ¬ (a : Int) < (j : Int) := by omega
          have HD := Lib.hid (DONE.out (fun k h1 h2 => by omega))
          have HDR : Hid (SW w0 g us (World.drew _)) := SWK.drew HSU.out
          clear DONE
          go_wp2_with fail
          go_big_region_o
          all_goals go_wp2
          go_round
          case rel => exact HD.out _ HDR.out
          case measure => simp [intOf]; omega
    · have hltz : ¬ (i : Int) < b := by omega
      go_wp2
      go_end0
      refine ⟨rfl, zs, ⟨WIN.out, STB.out, SRT.out.sub (Nat.le_refl _) (by omega)⟩, HSW.out⟩
end Go.Proofs.YtmbimnnacjbdfaaDoor.Tre
