/-
  Layer 12: the variables from the shorter list of this layer's cards.
-/
import Derived.Test.YtbbaleambgaanaaGreatDoorPk16
namespace Go.Proofs.YtbbaleambgaanaaGreatDoor.Etr
open Go.RowKit Go.Proofs.YtbbaleambgaanaaGreatDoor.Fit Pxr

/-- the shorter list -/
theorem fvars_of {W : World} {a b c d : String × DataW Unit} (h : laidMetH Tryz.prog [a, b, ("internal/strconv.uint64pow10", Rows.laid_internal_strconv_uint64pow10), c, ("paxtar/paxrec.keys", Rows.laid_paxtar_paxrec_keys), ("paxtar/fit.types", Rows.laid_paxtar_fit_types), d] W)
    (hp : ([a, b, ("internal/strconv.uint64pow10", Rows.laid_internal_strconv_uint64pow10), c, ("paxtar/paxrec.keys", Rows.laid_paxtar_paxrec_keys), ("paxtar/fit.types", Rows.laid_paxtar_fit_types), d].all fun x => x.2.handleName?.isNone) = true) : FVars W := by
  rw [MakeChecks.laidMetH_plain _ _ _ hp] at h
  have h1 := h.tail.tail
  have h2 := h1.tail.tail
  obtain ⟨k0, k1, k2⟩ := keys_of_head h2
  exact ⟨⟨tab_of_head h1, k0, k1, k2⟩, tys_of_head h2.tail⟩
end Go.Proofs.YtbbaleambgaanaaGreatDoor.Etr
