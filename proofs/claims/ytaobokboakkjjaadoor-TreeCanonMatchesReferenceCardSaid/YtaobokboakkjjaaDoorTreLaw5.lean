/-
  The statement TreeCanonMatchesReference: a walk.
-/
import Derived.Test.YtaobokboakkjjaaDoorPk12
import Derived.Test.YtaobokboakkjjaaDoorPk13
import Derived.Test.YtaobokboakkjjaaDoorTreEqu
import Derived.Test.YtaobokboakkjjaaDoorTreREqu
namespace Go.Proofs.YtaobokboakkjjaaDoor
open Go.RowKit Go.Proofs.YtaobokboakkjjaaDoor.Fit Pnm Tre

set_option maxRecDepth 100000 in
set_option maxHeartbeats 8000000 in
theorem walk_TreeCanonMatchesReference (a : Option Addr) (n cap : Nat) (ys : List NdS) (a' : Option Addr) (n' cap' : Nat) (zs : List NdS) (w : World) (V : Pxr.Vars w) (ha : ArgNds w a n cap ys) (ha' : ArgNds w a' n' cap' zs) :
    Calls Tryd.prog 4 #[.slice a n cap, .slice a' n' cap'] w fun e w' => e = .returned (.bool true) ∧ Below w.heap.size w w' := by
  have HV := Lib.hid (FVars.mk V)
  have HA := Lib.hid ha; have HB := Lib.hid ha'
  clear V ha ha'
  go_enter Tryd.func4, Tryd.ntmps4
  go_wp2_with fail
  refine (large_any a n cap ys w HA.out).mono ?_; rintro e w1 ⟨R, rfl, hR, b1⟩
  have B1 := Lib.hid b1
  clear b1
  rcases hR with rfl | ⟨rfl, h40, _⟩
  · go_wp2_with fail
    refine (Tre.alive_any w1 (HV.out.go B1.out)).mono ?_; rintro e w2 ⟨rfl, b2⟩
    have B2 := Lib.hid (belT B1.out b2)
    go_wp2
    go_ret
    exact ⟨rfl, B2.out⟩
  have H1 := Lib.hid h40
  clear h40
  go_wp2_with fail
  refine (large_any a' n' cap' zs w1 (HB.out.below B1.out)).mono ?_; rintro e w2 ⟨R, rfl, hR, b2⟩
  have B2 := Lib.hid (belT B1.out b2)
  clear b2
  rcases hR with rfl | ⟨rfl, h40, _⟩
  · go_wp2_with fail
    refine (Tre.alive_any w2 (HV.out.go B2.out)).mono ?_; rintro e w3 ⟨rfl, b3⟩
    have B3 := Lib.hid (belT B2.out b3)
    go_wp2
    go_ret
    exact ⟨rfl, B3.out⟩
  have H2 := Lib.hid h40
  clear h40
  go_wp2_with fail
  refine (Tre.alive_any w2 (HV.out.go B2.out)).mono ?_; rintro e w3 ⟨rfl, b3⟩
  have B3 := Lib.hid (belT B2.out b3)
  clear b3
  go_wp2_with fail
  refine (canon_any a n cap ys w3 (HA.out.below B3.out) H1.out).mono ?_; rintro e w4 ⟨r, rc, us, rfl, hu, eu, _, _, b4⟩
  have HU := Lib.hid hu; have EU := Lib.hid eu; have B4 := Lib.hid (belT B3.out b4)
  clear hu eu b4
  go_wp2_with fail
  refine (rcanon_any a n cap ys w4 (HA.out.below B4.out) H1.out).mono ?_; rintro e w5 ⟨r', rc', vs, rfl, hv, ev, _, _, b5⟩
  have HW := Lib.hid hv; have EV := Lib.hid ev; have B5 := Lib.hid (belT B4.out b5); have HU5 := Lib.hid (HU.out.below b5)
  clear hv ev b5
  go_wp2_with fail
  refine (rsame_any r n rc us r' n rc' vs w5 HU5.out HW.out).mono ?_; rintro e w6 ⟨Bs, rfl, hs, b6⟩
  obtain rfl : Bs = true := hs.mpr (by rw [EU.out, EV.out])
  have B6 := Lib.hid (belT B5.out b6)
  clear hs b6
  go_wp2_with fail
  refine (equal_any a n cap ys a' n' cap' zs w6 (HA.out.below B6.out) (HB.out.below B6.out) H1.out H2.out).mono ?_; rintro e w7 ⟨Be, rfl, he, b7⟩
  have B7 := Lib.hid (belT B6.out b7); have HE := Lib.hid he
  clear he b7
  go_wp2_with fail
  refine (requal_any a n cap ys a' n' cap' zs w7 (HA.out.below B7.out) (HB.out.below B7.out) H1.out H2.out).mono ?_; rintro e w8 ⟨Bf, rfl, hf, b8⟩
  have B8 := Lib.hid (belT B7.out b8)
  obtain rfl : Be = Bf := Bool.eq_iff_iff.mpr (HE.out.trans hf.symm)
  have nb : (Be == Be) = true := by simp
  clear hf b8 HE
  go_wp2_with fail
  refine (equal_any a n cap ys a n cap ys w8 (HA.out.below B8.out) (HA.out.below B8.out) H1.out H1.out).mono ?_; rintro e w9 ⟨Bg, rfl, hg, b9⟩
  obtain rfl : Bg = true := hg.mpr rfl
  have B9 := Lib.hid (belT B8.out b9)
  clear hg b9
  go_wp2
  go_ret
  exact ⟨rfl, B9.out⟩
end Go.Proofs.YtaobokboakkjjaaDoor
