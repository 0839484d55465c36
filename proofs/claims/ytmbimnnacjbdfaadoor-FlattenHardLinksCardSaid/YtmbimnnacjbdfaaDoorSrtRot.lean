/-
  slices.rotateCmpFunc over nodes.
-/
import Derived.Test.YtmbimnnacjbdfaaDoorSrtIns
namespace Go.Proofs.YtmbimnnacjbdfaaDoor.Tre
open Go.RowKit Go.Proofs.YtmbimnnacjbdfaaDoor.Fit Pnm Go.Sort

set_option maxRecDepth 100000 in
set_option maxHeartbeats 8000000 in
theorem rot_any (w0 : World) (g : Nat) (d0 : Array NdS) (R : RowK ndV 6 w0 g 0 d0) (ys : List NdS) (W : World) (hW : SW w0 g ys W) (hs : ys.length = d0.size) (cap a m b : Nat) (ham : a < m) (hmb : m < b) (hb : b ≤ ys.length) (hm : ys.length ≤ 1000000) (f : Value) :
    Calls Tryd.prog 59 #[.slice (some ⟨g, 0, none⟩) ys.length cap, .int .i64 a, .int .i64 m, .int .i64 b, f] W fun e w' => e = .returned (.tuple #[]) ∧ ∃ zs, Stab.Ix zs ys (Stab.rot a m b) ∧ SW w0 g zs w' := by
  have HR := Lib.hid R; have HW := Lib.hid hW; have HS := Lib.hid hs
  obtain ⟨N, hN⟩ := named ys.length
  have HB : Hid (b ≤ N) := by show _ ≤ _; rw [hN.out]; exact hb
  have HAM := Lib.hid ham; have HMB := Lib.hid hmb
  have NM : Hid (N ≤ 1000000) := by show _ ≤ _; rw [hN.out]; exact hm
  have SWR : Hid (∀ (zs : List NdS) (wq : World) (x y n : Nat), zs.length = N → SW w0 g zs wq → x + n ≤ y → y + n ≤ N → Calls Tryd.prog 68 #[.slice (some ⟨g, 0, none⟩) N cap, .int .i64 x, .int .i64 y, .int .i64 n, f] wq fun e w' => e = .returned (.tuple #[]) ∧ ∃ us, Stab.Ix us zs (Stab.swr x y n) ∧ SW w0 g us w') := fun zs wq x y n hl hz h1 h2 => by
    subst hl
    exact swr_any w0 g d0 HR.out zs wq hz (by rw [← HS.out, ← hN.out]) cap x y n h1 h2 NM.out f
  rw [← hN.out]
  have bm : (b : Int) ≤ 1000000 := by have := HB.out; have := NM.out; omega
  have mm : (m : Int) ≤ 1000000 := by omega
  have am : (a : Int) ≤ 1000000 := by omega
  have ami : (a : Int) < m := by omega
  have mbi : (m : Int) < b := by omega
  clear R hW hs ham hmb hb hm
  go_enter Tryd.func59, Tryd.ntmps59
  go_wp2_with fail
  go_loopw [10, 11] (fun v u wr => ∃ (i j : Nat) (zs : List NdS) (σ : Nat → Nat), v = .int .i64 i ∧ u = .int .i64 j ∧ 0 < i ∧ 0 < j ∧ i ≤ m ∧ m + j ≤ N ∧ zs.length = N ∧ Stab.Ix zs ys σ ∧ (∀ k, σ (Stab.rot (m - i) m (m + j) k) = Stab.rot a m b k) ∧ SW w0 g zs wr) (fun v u _ => (intOf v).toNat + (intOf u).toNat)
  case atStart => exact ⟨m - a, b - m, ys, id, by go_num, by go_num, by omega, by omega, by omega, by have := HB.out; omega, hN.out.symm, Stab.Ix.refl ys (fun k => rfl), fun k => by show Stab.rot _ _ _ _ = _; congr 1 <;> omega, HW.out⟩
  case round =>
    obtain ⟨i, j, zs, σ, rfl, rfl, hi, hj, him, hjn, hl, hix, hσ, hsw⟩ := hrel
    have HIX := Lib.hid hix; have HSG := Lib.hid hσ; have HSW := Lib.hid hsw; have HL := Lib.hid hl
    have HI := Lib.hid hi; have HJ := Lib.hid hj; have HIM := Lib.hid him; have HJN := Lib.hid hjn
    have ii : (i : Int) ≤ m := by omega
    have jj : (j : Int) ≤ 1000000 := by have := NM.out; omega
    clear hix hσ hsw hl
    by_cases hij : i = j
    · subst hij
      have S := SWR.out zs wr (m - i) m i HL.out HSW.out (by omega) (by omega)
      rw [show ((m - i : Nat) : Int) = (m : Int) - i by omega] at S
      have SS := Lib.hid S
      clear S hi hj him hjn
      go_wp2_with fail
      refine SS.out.mono ?_; rintro e w1 ⟨rfl, us, hix, hsw⟩
      go_wp2_with fail
      go_end0
      exact ⟨rfl, us, HIX.out.trans hix (fun k => by rw [Stab.rot_even HIM.out, HSG.out]), hsw⟩
    · have nij : ((i : Int) != (j : Int)) = true := by simp; omega
      by_cases hlt : j < i
      · have hlti : (j : Int) < i := by omega
        have S := SWR.out zs wr (m - i) m j HL.out HSW.out (by omega) (by omega)
        rw [show ((m - i : Nat) : Int) = (m : Int) - i by omega] at S
        have SS := Lib.hid S
        have IJ := Lib.hid hlt
        clear S hi hj him hjn hij hlt
        go_wp2_with fail
        refine SS.out.mono ?_; rintro e w1 ⟨rfl, us, hix, hsw⟩
        have HU := Lib.hid hsw; have HX := Lib.hid hix
        clear hix hsw
        go_wp2_with fail
        go_round
        case rel => exact ⟨i - j, j, us, fun k => σ (Stab.swr (m - i) m j k), by go_num, by go_num, by have := IJ.out; omega, HJ.out, by have := HIM.out; omega, HJN.out, HX.out.1.trans HL.out, HIX.out.trans HX.out (fun k => rfl), fun k => by
          show σ (Stab.swr (m - i) m j _) = _
          rw [Stab.rot_left HIM.out IJ.out, HSG.out], HU.out⟩
        case measure => have := HJ.out; have := IJ.out; simp [intOf]; omega
      · have hlti : (i : Int) < j := by omega
        have nlt : ¬ (j : Int) < i := by omega
        have S := SWR.out zs wr (m - i) (m + j - i) i HL.out HSW.out (by omega) (by omega)
        rw [show ((m - i : Nat) : Int) = (m : Int) - i by omega, show ((m + j - i : Nat) : Int) = (m : Int) + j - i by omega] at S
        have SS := Lib.hid S
        have IJ : Hid (i < j) := by show _ < _; omega
        clear S hi hj him hjn hij hlt
        go_wp2_with fail
        refine SS.out.mono ?_; rintro e w1 ⟨rfl, us, hix, hsw⟩
        have HU := Lib.hid hsw; have HX := Lib.hid hix
        clear hix hsw
        go_wp2_with fail
        go_round
        case rel => exact ⟨i, j - i, us, fun k => σ (Stab.swr (m - i) (m + j - i) i k), by go_num, by go_num, HI.out, by have := IJ.out; omega, HIM.out, by have := HJN.out; omega, HX.out.1.trans HL.out, HIX.out.trans HX.out (fun k => rfl), fun k => by
          show σ (Stab.swr (m - i) (m + j - i) i _) = _
          rw [Stab.rot_right HIM.out IJ.out, HSG.out], HU.out⟩
        case measure => have := HI.out; have := IJ.out; simp [intOf]; omega
end Go.Proofs.YtmbimnnacjbdfaaDoor.Tre
