/-
  slices.swapRangeCmpFunc over nodes.
-/
import Derived.Test.YtmbimnnacjbdfaaDoorSrtBase
namespace Go.Proofs.YtmbimnnacjbdfaaDoor.Tre
open Go.RowKit Go.Proofs.YtmbimnnacjbdfaaDoor.Fit Pnm Go.Sort

/-- what an exchange needs of the world it begins in -/
theorem SW.cells {w0 W : World} {g : Nat} {d0 : Array NdS} {ys : List NdS} (R : RowK ndV 6 w0 g 0 d0) (h : SW w0 g ys W) (hs : ys.length = d0.size) (P : Program) {i j : Nat} (hi : i < ys.length) (hj : j < ys.length) :
    ∃ ci cj : List Value, ∀ K, K = 6 → ci.length = K ∧ cj.length = K ∧ Sem.run P (loadCellsFrom ⟨g, i * K, none⟩ 0 K #[]) W.drew = .ok ci.toArray W.drew ∧ Sem.run P (loadCellsFrom ⟨g, j * K, none⟩ 0 K #[]) W.drew = .ok cj.toArray W.drew ∧
      Sem.run P (storeCells ⟨g, i * K, none⟩ cj 0) W.drew = .ok () (W.drew.setCells g (i * K) cj) ∧ Sem.run P (storeCells ⟨g, j * K, none⟩ ci 0) (W.drew.setCells g (i * K) cj) = .ok () ((W.drew.setCells g (i * K) cj).setCells g (j * K) ci) ∧
      SW w0 g (Stab.swl ys i j) ((W.drew.setCells g (i * K) cj).setCells g (j * K) ci) := by
  have hs' : ys.toArray.size = d0.size := by simpa using hs
  have hi' : i < ys.toArray.size := by simpa using hi
  have hj' : j < ys.toArray.size := by simpa using hj
  have h1 := SWK.ld1 h R hs' P i hi'
  have h2 := SWK.ld1 h R hs' P j hj'
  have h3 := SWK.st1 h R hs' P i hi' ys.toArray[j]!
  have h4 := SWK.st2 h R hs' P i j hi' hj' ys.toArray[j]! ys.toArray[i]!
  have h5 := SWK.swapped h R i j hi' hj'
  rw [Nat.zero_add] at h1 h2 h3
  rw [Nat.zero_add, Nat.zero_add] at h4 h5
  refine ⟨ndV ys.toArray[i]!, ndV ys.toArray[j]!, fun K hK => ?_⟩
  subst hK
  refine ⟨rfl, rfl, h1, h2, h3, h4, ?_⟩
  unfold SW
  rw [← arr_swp]
  exact h5

set_option maxRecDepth 100000 in
set_option maxHeartbeats 8000000 in
theorem swr_any (w0 : World) (g : Nat) (d0 : Array NdS) (R : RowK ndV 6 w0 g 0 d0) (ys : List NdS) (W : World) (hW : SW w0 g ys W) (hs : ys.length = d0.size) (cap a b n : Nat) (hab : a + n ≤ b) (hb : b + n ≤ ys.length) (hm : ys.length ≤ 1000000) (f : Value) :
    Calls Tryd.prog 68 #[.slice (some ⟨g, 0, none⟩) ys.length cap, .int .i64 a, .int .i64 b, .int .i64 n, f] W fun e w' => e = .returned (.tuple #[]) ∧ ∃ zs, Stab.Ix zs ys (Stab.swr a b n) ∧ SW w0 g zs w' := by
  have HR := Lib.hid R; have HW := Lib.hid hW; have HS := Lib.hid hs
  have aE : ∀ w, (isAgg 32).run Tryd.prog w = .ok true w := fun w => by
    unfold isAgg
    rw [Sem.run_bind, run_underlying Tryd.underlying32 w]; simp
  obtain ⟨K, hK⟩ := named 6
  have zE : ∀ w, (Go.sizeOf 32).run Tryd.prog w = .ok K w := fun w => by rw [hK.out]; rfl
  have mixed : Tryd.prog.follows .mixedOrders = true := by kernel_rfl
  obtain ⟨N, hN⟩ := named ys.length
  have HB : Hid (b + n ≤ N) := by show _ ≤ _; rw [hN.out]; exact hb
  have HAB := Lib.hid hab
  have NM : Hid (N ≤ 1000000) := by show _ ≤ _; rw [hN.out]; exact hm
  rw [← hN.out]
  have nm : (n : Int) ≤ 1000000 := by omega
  clear R hW hs hab hb hm
  go_enter Tryd.func68, Tryd.ntmps68
  go_wp2_with fail
  go_loopw [10] (fun v wr => ∃ (i : Nat) (zs : List NdS), v = .int .i64 i ∧ i ≤ n ∧ Stab.Ix zs ys (Stab.swr a b i) ∧ SW w0 g zs wr) (fun v _ => n - (intOf v).toNat)
  case atStart => exact ⟨0, ys, rfl, Nat.zero_le _, Stab.Ix.refl ys (Stab.swr_zero a b), HW.out⟩
  case round =>
    obtain ⟨i, zs, rfl, hi, hix, hsw⟩ := hrel
    have HX := Lib.hid hix; have HSW := Lib.hid hsw
    have ZL : Hid (zs.length = N) := by show _ = _; rw [hix.1, hN.out]
    clear hix hsw
    by_cases hin : i < n
    · have i1 : (i : Int) < n := by omega
      have w1 : IntKind.i64.wrap ((b : Int) + i) = ((b + i : Nat) : Int) := by rw [wrapP (by omega) (by have := HB.out; have := NM.out; omega)]; omega
      have w2 : IntKind.i64.wrap ((a : Int) + i) = ((a + i : Nat) : Int) := by rw [wrapP (by omega) (by have := HB.out; have := HAB.out; have := NM.out; omega)]; omega
      obtain ⟨A, hA⟩ := named (a + i)
      obtain ⟨B, hB⟩ := named (b + i)
      rw [← hB.out] at w1
      rw [← hA.out] at w2
      have b1 : (A : Int) < N := by have := HB.out; have := HAB.out; have := hA.out; omega
      have b2 : (B : Int) < N := by have := HB.out; have := hB.out; omega
      obtain ⟨ci, cj, hall⟩ := SW.cells HR.out HSW.out (by rw [ZL.out, ← HS.out, hN.out]) Tryd.prog (i := A) (j := B) (by rw [ZL.out]; omega) (by rw [ZL.out]; omega)
      obtain ⟨l1, l2, q1, q2, q3, q4, q5⟩ := hall K hK.out
      have Q5 := Lib.hid q5
      clear q5 hall
      have STEP : Hid (Stab.Ix (Stab.swl zs A B) ys (Stab.swr a b (i + 1))) := HX.out.trans (Stab.swl_ix (by rw [ZL.out]; omega) (by rw [ZL.out]; omega)) (fun k => by rw [hA.out, hB.out]; exact Stab.swr_step (by have := HAB.out; omega) k)
      go_wp2_with fail
      go_big_region_o
      all_goals go_wp2
      go_round
      case rel => exact ⟨i + 1, _, by go_num, by omega, STEP.out, Q5.out⟩
      case measure => simp [intOf]; omega
    · obtain rfl : i = n := by omega
      go_wp2
      go_end0
      exact ⟨rfl, zs, HX.out, HSW.out⟩
end Go.Proofs.YtmbimnnacjbdfaaDoor.Tre
