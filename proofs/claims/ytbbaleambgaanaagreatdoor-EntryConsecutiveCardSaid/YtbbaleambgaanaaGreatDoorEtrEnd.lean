/-
  Layer 12: small things for the statements.
-/
import Derived.Test.YtbbaleambgaanaaGreatDoorPk06
import Derived.Test.YtbbaleambgaanaaGreatDoorPk29
namespace Go.Proofs.YtbbaleambgaanaaGreatDoor
open Go.RowKit Go.Proofs.YtbbaleambgaanaaGreatDoor.Fit Pxr Pnm Etr

theorem Etr.en_sizes {e : Ent} (h : ckE e = 0) : e.p.size ≤ 65536 ∧ e.t.size ≤ 65536 := ⟨(path_pos (ck_ok.1 h).path).2, (tg_cases (ck_ok.1 h).tg).1⟩

theorem Etr.endN_neg2 (n : Nat) : endN (-1) n = n := by unfold endN; rw [if_neg (by omega)]
theorem Etr.endE_neg2 (n : Nat) : endE (-1) n = 4 := by unfold endE; rw [if_neg (by omega)]

end Go.Proofs.YtbbaleambgaanaaGreatDoor
