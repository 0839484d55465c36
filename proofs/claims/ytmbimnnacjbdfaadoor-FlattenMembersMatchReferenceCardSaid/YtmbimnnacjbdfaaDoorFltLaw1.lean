/-
  The statement FlattenMembersMatchReference: a walk.
-/
import Derived.Test.YtmbimnnacjbdfaaDoorFltAlive
import Derived.Test.YtmbimnnacjbdfaaDoorFltSame
import Derived.Test.YtmbimnnacjbdfaaDoorFltRMem
import Derived.Test.YtmbimnnacjbdfaaDoorPk13
namespace Go.Proofs.YtmbimnnacjbdfaaDoor
open Go.RowKit Go.Proofs.YtmbimnnacjbdfaaDoor.Fit Pnm Tre Flt

set_option maxRecDepth 100000 in
set_option maxHeartbeats 8000000 in
theorem walk_FlattenMembersMatchReference (a : Option Addr) (n cap : Nat) (ys : List NdS) (w : World) (V : Pxr.Vars w) (ha : ArgNds w a n cap ys) :
    Calls Tryd.prog 5 #[.slice a n cap] w fun e w' => e = .returned (.bool true) ∧ Below w.heap.size w w' := by
  have HV := Lib.hid (FVars.mk V)
  have HA := Lib.hid ha
  clear V ha
  go_enter Tryd.func5, Tryd.ntmps5
  go_wp2_with fail
  refine (large_any a n cap ys w HA.out).mono ?_; rintro e w1 ⟨R, rfl, hR, b1⟩
  have B1 := Lib.hid b1
  clear b1
  rcases hR with rfl | ⟨rfl, h40, _⟩
  · go_wp2_with fail
    refine (Flt.alive_any w1 (HV.out.go B1.out)).mono ?_; rintro e w2 ⟨rfl, b2⟩
    have B2 := Lib.hid (belT B1.out b2)
    go_wp2
    go_ret
    exact ⟨rfl, B2.out⟩
  have H1 := Lib.hid h40
  clear h40
  go_wp2_with fail
  refine (pmem_any a n cap ys w1 (HV.out.go B1.out) (HA.out.below B1.out) H1.out).mono ?_; rintro e w2 ⟨b, k, c, us, X1, X2, rfl, h1, h2, hm, hu, b2⟩
  have B2 := Lib.hid (belT B1.out b2); have HM := Lib.hid hm; have HU := Lib.hid hu; have E1 := Lib.hid h1; have E2 := Lib.hid h2
  clear b2 hm hu h1 h2
  go_wp2_with fail
  refine (rmem_any a n cap ys w2 (HA.out.below B2.out) H1.out).mono ?_; rintro e w3 ⟨b', k', c', vs, Y1, Y2, rfl, h1, h2, hm, hu, b3⟩
  obtain rfl : X1 = Y1 := E1.out.trans h1.symm
  obtain rfl : X2 = Y2 := E2.out.trans h2.symm
  have B3 := Lib.hid (belT B2.out b3); have HN := Lib.hid hm; have HW := Lib.hid hu; have HM3 := Lib.hid (HM.out.below b3)
  clear b3 hm hu h1 h2 HM E1 E2
  have n1 : (X1 == X1) = true := by simp
  have n2 : (X2 == X2) = true := by simp
  go_wp2_with fail
  refine (Flt.alive_any w3 (HV.out.go B3.out)).mono ?_; rintro e w4 ⟨rfl, b4⟩
  have B4 := Lib.hid (belT B3.out b4); have HM4 := Lib.hid (HM3.out.below b4); have HN4 := Lib.hid (HN.out.below b4)
  clear b4
  go_wp2_with fail
  refine (rsameM_any b k c us b' k' c' vs w4 HM4.out HN4.out).mono ?_; rintro e w5 ⟨Bs, rfl, hs, b5⟩
  obtain rfl : Bs = true := hs.mpr (by rw [HU.out, HW.out])
  have B5 := Lib.hid (belT B4.out b5)
  clear hs b5
  go_wp2
  go_ret
  exact ⟨rfl, B5.out⟩
end Go.Proofs.YtmbimnnacjbdfaaDoor
