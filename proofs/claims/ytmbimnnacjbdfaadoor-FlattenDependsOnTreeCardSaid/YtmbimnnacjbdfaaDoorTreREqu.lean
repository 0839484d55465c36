/-
  Layer 13: the reference's Equal.
-/
import Derived.Test.YtmbimnnacjbdfaaDoorTreRCan
import Derived.Test.YtmbimnnacjbdfaaDoorPk13
namespace Go.Proofs.YtmbimnnacjbdfaaDoor.Tre
open Go.RowKit Go.Proofs.YtmbimnnacjbdfaaDoor.Fit Pnm

set_option maxRecDepth 100000 in
set_option maxHeartbeats 4000000 in
theorem requal_any (a : Option Addr) (n cap : Nat) (ys : List NdS) (a' : Option Addr) (n' cap' : Nat) (zs : List NdS) (w : World) (ha : ArgNds w a n cap ys) (hb : ArgNds w a' n' cap' zs) (h40 : n ≤ 40) (h40' : n' ≤ 40) :
    Calls Tryd.prog 19 #[.slice a n cap, .slice a' n' cap'] w (RetIff (canon (nds ys) = canon (nds zs)) w) := by
  have C1 := Lib.hid (rcanon_any a n cap ys w ha h40)
  have C2 : Hid (∀ q, Below w.heap.size w q → Calls Tryd.prog 14 #[.slice a' n' cap'] q (CanP q n' zs)) := fun q hq => rcanon_any a' n' cap' zs q (hb.below hq) h40'
  clear ha hb
  go_enter Tryd.func19, Tryd.ntmps19
  go_wp2_with fail
  refine C1.out.mono ?_; rintro e w1 ⟨r, rc, us, rfl, hu, eu, _, _, b1⟩
  have HU := Lib.hid hu; have EU := Lib.hid eu; have B1 := Lib.hid b1
  clear hu eu b1 C1
  go_wp2_with fail
  refine (C2.out w1 B1.out).mono ?_; rintro e w2 ⟨r', rc', vs, rfl, hv, ev, _, _, b2⟩
  have HV := Lib.hid hv; have EV := Lib.hid ev; have B2 := Lib.hid (belT B1.out b2); have HU2 := Lib.hid (HU.out.below b2)
  clear hv ev b2 C2
  go_wp2_with fail
  refine (rsame_any r n rc us r' n' rc' vs w2 HU2.out HV.out).mono ?_; rintro e w3 ⟨Bv, rfl, hiff, b3⟩
  have B3 := Lib.hid (belT B2.out b3)
  have IF := Lib.hid hiff
  clear hiff b3
  go_wp2_with fail
  go_ret
  exact ⟨Bv, rfl, by rw [← EU.out, ← EV.out]; exact IF.out, B3.out⟩
end Go.Proofs.YtmbimnnacjbdfaaDoor.Tre
