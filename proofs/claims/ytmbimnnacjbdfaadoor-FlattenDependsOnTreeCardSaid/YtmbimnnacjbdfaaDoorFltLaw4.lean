/-
  The statement FlattenDependsOnTree: a walk.
-/
import Derived.Test.YtmbimnnacjbdfaaDoorFltAlive
import Derived.Test.YtmbimnnacjbdfaaDoorFltSame
import Derived.Test.YtmbimnnacjbdfaaDoorTreREqu
import Derived.Test.YtmbimnnacjbdfaaDoorPk13
namespace Go.Proofs.YtmbimnnacjbdfaaDoor
open Go.RowKit Go.Proofs.YtmbimnnacjbdfaaDoor.Fit Pnm Tre Flt

set_option maxRecDepth 100000 in
set_option maxHeartbeats 8000000 in
theorem walk_FlattenDependsOnTree (a : Option Addr) (n cap : Nat) (ys : List NdS) (a' : Option Addr) (n' cap' : Nat) (zs : List NdS) (w : World) (V : Pxr.Vars w) (ha : ArgNds w a n cap ys) (hb : ArgNds w a' n' cap' zs) :
    Calls Tryd.prog 6 #[.slice a n cap, .slice a' n' cap'] w fun e w' => e = .returned (.bool true) ∧ Below w.heap.size w w' := by
  have HV := Lib.hid (FVars.mk V)
  have HA := Lib.hid ha; have HB := Lib.hid hb
  clear V ha hb
  go_enter Tryd.func6, Tryd.ntmps6
  go_wp2_with fail
  refine (large_any a n cap ys w HA.out).mono ?_; rintro e w1 ⟨R, rfl, hR, b1⟩
  have B1 := Lib.hid b1
  clear b1
  rcases hR with rfl | ⟨rfl, h40, _⟩
  · go_wp2_with fail
    refine (Flt.alive_any w1 (HV.out.go B1.out)).mono ?_; rintro e w2 ⟨rfl, b2⟩
    have B2 := Lib.hid (belT B1.out b2)
    go_wp2
    go_ret
    exact ⟨rfl, B2.out⟩
  have H1 := Lib.hid h40
  clear h40
  go_wp2_with fail
  refine (large_any a' n' cap' zs w1 (HB.out.below B1.out)).mono ?_; rintro e w2 ⟨R, rfl, hR, b2⟩
  have B2 := Lib.hid (belT B1.out b2)
  clear b2
  rcases hR with rfl | ⟨rfl, h40, _⟩
  · go_wp2_with fail
    refine (Flt.alive_any w2 (HV.out.go B2.out)).mono ?_; rintro e w3 ⟨rfl, b3⟩
    have B3 := Lib.hid (belT B2.out b3)
    go_wp2
    go_ret
    exact ⟨rfl, B3.out⟩
  have H2 := Lib.hid h40
  clear h40
  go_wp2_with fail
  refine (pmem_any a n cap ys w2 (HV.out.go B2.out) (HA.out.below B2.out) H1.out).mono ?_; rintro e w3 ⟨b, k, c, us, X1, X2, rfl, h1, h2, hm, hu, b3⟩
  have B3 := Lib.hid (belT B2.out b3); have HM := Lib.hid hm; have HU := Lib.hid hu; have E2 := Lib.hid h2
  clear b3 hm hu h1 h2
  go_wp2_with fail
  refine (pmem_any a' n' cap' zs w3 (HV.out.go B3.out) (HB.out.below B3.out) H2.out).mono ?_; rintro e w4 ⟨b', k', c', vs, Y1, Y2, rfl, h1, h2, hm, hu, b4⟩
  have B4 := Lib.hid (belT B3.out b4); have HN := Lib.hid hm; have HW := Lib.hid hu; have F2 := Lib.hid h2; have HM4 := Lib.hid (HM.out.below b4)
  clear b4 hm hu h1 h2 HM
  by_cases hx : ¬ X2 = 0
  · have nx : (X2 != 0) = true := by simpa using hx
    go_wp2_with fail
    refine (Flt.alive_any w4 (HV.out.go B4.out)).mono ?_; rintro e w5 ⟨rfl, b5⟩
    have B5 := Lib.hid (belT B4.out b5)
    go_wp2
    go_ret
    exact ⟨rfl, B5.out⟩
  obtain rfl : X2 = 0 := Decidable.not_not.mp hx
  clear hx
  by_cases hy : ¬ Y2 = 0
  · have ny : (Y2 != 0) = true := by simpa using hy
    go_wp2_with fail
    refine (Flt.alive_any w4 (HV.out.go B4.out)).mono ?_; rintro e w5 ⟨rfl, b5⟩
    have B5 := Lib.hid (belT B4.out b5)
    go_wp2
    go_ret
    exact ⟨rfl, B5.out⟩
  obtain rfl : Y2 = 0 := Decidable.not_not.mp hy
  clear hy
  go_wp2_with fail
  refine (Flt.alive_any w4 (HV.out.go B4.out)).mono ?_; rintro e w5 ⟨rfl, b5⟩
  have B5 := Lib.hid (belT B4.out b5); have HM5 := Lib.hid (HM4.out.below b5); have HN5 := Lib.hid (HN.out.below b5)
  clear b5
  go_wp2_with fail
  refine (rsameM_any b k c us b' k' c' vs w5 HM5.out HN5.out).mono ?_; rintro e w6 ⟨Bs, rfl, hs, b6⟩
  have HS := Lib.hid hs
  have B6 := Lib.hid (belT B5.out b6)
  clear hs b6
  go_wp2_with fail
  refine (requal_any a n cap ys a' n' cap' zs w6 (HA.out.below B6.out) (HB.out.below B6.out) H1.out H2.out).mono ?_; rintro e w7 ⟨Bt, rfl, ht, b7⟩
  have B7 := Lib.hid (belT B6.out b7)
  have same : Bs = true ↔ Bt = true := by
    rw [HS.out, ht, HU.out, HW.out]
    unfold mbR
    rw [← E2.out, ← F2.out, if_pos rfl, if_pos rfl]
    constructor
    · exact mbs_inj (can_of (chk_ok.mp E2.out.symm)) (can_of (chk_ok.mp F2.out.symm))
    · intro h; rw [h]
  obtain rfl : Bs = Bt := by cases Bs <;> cases Bt <;> simp_all
  have nb : (Bs == Bs) = true := by simp
  clear ht b7 same HS
  go_wp2
  go_ret
  exact ⟨rfl, B7.out⟩
end Go.Proofs.YtmbimnnacjbdfaaDoor
