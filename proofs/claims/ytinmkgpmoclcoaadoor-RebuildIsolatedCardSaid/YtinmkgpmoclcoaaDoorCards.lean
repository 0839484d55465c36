/-
  DERIVED. GIVEN WITH THE SEED: THE CARDS: each row of YtinmkgpmoclcoaaDoorRows.lean that lists a variable, with what it lists TIED to the program's text (the seventh form; the later family's looks); each row that meets fmt, with fmt's text TOLD by the authors' own Lean function (tested against real Go, not proved from fmt's source: count such statements apart). THE CARD IS WHAT COUNTS. Prove the row's statement (the work); the ties are given (YtinmkgpmoclcoaaDoorTie.lean); close each card by the builder's one call (the guide's Derived/Test/ToyasCard.lean, 'card_holds'). Laid BY PROGRAM, IN A SANDBOX (cutbox-door.mjs). By AI agents, Wed Nov 11 2026. No macro, syntax, notation, axiom, sorry.
-/
import Derived.Test.YtinmkgpmoclcoaaDoorRows
import GoSem.ClaimSeven
namespace Go.Proofs.YtinmkgpmoclcoaaDoor
namespace Rows

/-- THE TIED CARD OF 'paxtarlaw15.RebuildMatchesReference'. -/
def rebuildMatchesReferenceCard : Claim7 := { stood := { row := rebuildMatchesReferenceRow, standIns := [], harness := (true, "b2a958f74707df508d0aac85e5d63ff19dd2616a20a972f07c8fbd7c59a7074d"), looks := false }, kinds := [], alts := [], laidByText := true, laidKinds := [.data], laidTests := true, laidLooks := .later }
def RebuildMatchesReferenceCardSaid : Prop := Claim7.holds Tryd.pinned (.plain (OpenSpec.ofChange rebuildMatchesReferenceSpec)) rebuildMatchesReferenceCard

/-- THE TIED CARD OF 'paxtarlaw15.RebuildInvertsFlatten'. -/
def rebuildInvertsFlattenCard : Claim7 := { stood := { row := rebuildInvertsFlattenRow, standIns := [], harness := (true, "b2a958f74707df508d0aac85e5d63ff19dd2616a20a972f07c8fbd7c59a7074d"), looks := false }, kinds := [], alts := [], laidByText := true, laidKinds := [.data], laidTests := true, laidLooks := .later }
def RebuildInvertsFlattenCardSaid : Prop := Claim7.holds Tryd.pinned (.plain (OpenSpec.ofChange rebuildInvertsFlattenSpec)) rebuildInvertsFlattenCard

/-- THE TIED CARD OF 'paxtarlaw15.RebuildIsStrict'. -/
def rebuildIsStrictCard : Claim7 := { stood := { row := rebuildIsStrictRow, standIns := [], harness := (true, "b2a958f74707df508d0aac85e5d63ff19dd2616a20a972f07c8fbd7c59a7074d"), looks := false }, kinds := [], alts := [], laidByText := true, laidKinds := [.data], laidTests := true, laidLooks := .later }
def RebuildIsStrictCardSaid : Prop := Claim7.holds Tryd.pinned (.plain (OpenSpec.ofChange rebuildIsStrictSpec)) rebuildIsStrictCard

/-- THE TIED CARD OF 'paxtarlaw15.RebuildIsolated'. -/
def rebuildIsolatedCard : Claim7 := { stood := { row := rebuildIsolatedRow, standIns := [], harness := (true, "b2a958f74707df508d0aac85e5d63ff19dd2616a20a972f07c8fbd7c59a7074d"), looks := false }, kinds := [], alts := [], laidByText := true, laidKinds := [.data], laidTests := true, laidLooks := .later }
def RebuildIsolatedCardSaid : Prop := Claim7.holds Tryd.pinned (.plain (OpenSpec.ofChange rebuildIsolatedSpec)) rebuildIsolatedCard

/-- THE TIED CARD OF 'paxtarlaw15.RebuildCheckIsPure'. -/
def rebuildCheckIsPureCard : Claim7 := { stood := { row := rebuildCheckIsPureRow, standIns := [], harness := (true, "b2a958f74707df508d0aac85e5d63ff19dd2616a20a972f07c8fbd7c59a7074d"), looks := false }, kinds := [], alts := [], laidByText := true, laidKinds := [.data], laidTests := true, laidLooks := .later }
def RebuildCheckIsPureCardSaid : Prop := Claim7.holds Tryd.pinned (.plain (OpenSpec.ofChange rebuildCheckIsPureSpec)) rebuildCheckIsPureCard

/-- THE TIED CARD OF 'paxtarlaw15.RebuildPrefixIsValid'. -/
def rebuildPrefixIsValidCard : Claim7 := { stood := { row := rebuildPrefixIsValidRow, standIns := [], harness := (true, "b2a958f74707df508d0aac85e5d63ff19dd2616a20a972f07c8fbd7c59a7074d"), looks := false }, kinds := [], alts := [], laidByText := true, laidKinds := [.data], laidTests := true, laidLooks := .later }
def RebuildPrefixIsValidCardSaid : Prop := Claim7.holds Tryd.pinned (.plain (OpenSpec.ofChange rebuildPrefixIsValidSpec)) rebuildPrefixIsValidCard

/-- THE SECOND FORM's CARD OF 'paxtarlaw15.RebuildMatchesReference'. -/
def rebuildMatchesReferenceUptoCard : Claim7 := { stood := { row := rebuildMatchesReferenceUptoRow, standIns := [], harness := (true, "b2a958f74707df508d0aac85e5d63ff19dd2616a20a972f07c8fbd7c59a7074d"), looks := false }, kinds := [], alts := [], laidByText := true, laidKinds := [.data], laidTests := true, laidLooks := .later }
def RebuildMatchesReferenceUptoCardSaid : Prop := Claim7.holds Tryd.pinned (.plain (OpenSpec.upto rebuildMatchesReferenceSpec)) rebuildMatchesReferenceUptoCard

/-- THE SECOND FORM's CARD OF 'paxtarlaw15.RebuildInvertsFlatten'. -/
def rebuildInvertsFlattenUptoCard : Claim7 := { stood := { row := rebuildInvertsFlattenUptoRow, standIns := [], harness := (true, "b2a958f74707df508d0aac85e5d63ff19dd2616a20a972f07c8fbd7c59a7074d"), looks := false }, kinds := [], alts := [], laidByText := true, laidKinds := [.data], laidTests := true, laidLooks := .later }
def RebuildInvertsFlattenUptoCardSaid : Prop := Claim7.holds Tryd.pinned (.plain (OpenSpec.upto rebuildInvertsFlattenSpec)) rebuildInvertsFlattenUptoCard

/-- THE SECOND FORM's CARD OF 'paxtarlaw15.RebuildIsStrict'. -/
def rebuildIsStrictUptoCard : Claim7 := { stood := { row := rebuildIsStrictUptoRow, standIns := [], harness := (true, "b2a958f74707df508d0aac85e5d63ff19dd2616a20a972f07c8fbd7c59a7074d"), looks := false }, kinds := [], alts := [], laidByText := true, laidKinds := [.data], laidTests := true, laidLooks := .later }
def RebuildIsStrictUptoCardSaid : Prop := Claim7.holds Tryd.pinned (.plain (OpenSpec.upto rebuildIsStrictSpec)) rebuildIsStrictUptoCard

/-- THE SECOND FORM's CARD OF 'paxtarlaw15.RebuildIsolated'. -/
def rebuildIsolatedUptoCard : Claim7 := { stood := { row := rebuildIsolatedUptoRow, standIns := [], harness := (true, "b2a958f74707df508d0aac85e5d63ff19dd2616a20a972f07c8fbd7c59a7074d"), looks := false }, kinds := [], alts := [], laidByText := true, laidKinds := [.data], laidTests := true, laidLooks := .later }
def RebuildIsolatedUptoCardSaid : Prop := Claim7.holds Tryd.pinned (.plain (OpenSpec.upto rebuildIsolatedSpec)) rebuildIsolatedUptoCard

/-- THE SECOND FORM's CARD OF 'paxtarlaw15.RebuildCheckIsPure'. -/
def rebuildCheckIsPureUptoCard : Claim7 := { stood := { row := rebuildCheckIsPureUptoRow, standIns := [], harness := (true, "b2a958f74707df508d0aac85e5d63ff19dd2616a20a972f07c8fbd7c59a7074d"), looks := false }, kinds := [], alts := [], laidByText := true, laidKinds := [.data], laidTests := true, laidLooks := .later }
def RebuildCheckIsPureUptoCardSaid : Prop := Claim7.holds Tryd.pinned (.plain (OpenSpec.upto rebuildCheckIsPureSpec)) rebuildCheckIsPureUptoCard

/-- THE SECOND FORM's CARD OF 'paxtarlaw15.RebuildPrefixIsValid'. -/
def rebuildPrefixIsValidUptoCard : Claim7 := { stood := { row := rebuildPrefixIsValidUptoRow, standIns := [], harness := (true, "b2a958f74707df508d0aac85e5d63ff19dd2616a20a972f07c8fbd7c59a7074d"), looks := false }, kinds := [], alts := [], laidByText := true, laidKinds := [.data], laidTests := true, laidLooks := .later }
def RebuildPrefixIsValidUptoCardSaid : Prop := Claim7.holds Tryd.pinned (.plain (OpenSpec.upto rebuildPrefixIsValidSpec)) rebuildPrefixIsValidUptoCard
end Rows
end Go.Proofs.YtinmkgpmoclcoaaDoor
