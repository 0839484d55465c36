/-
  DERIVED. GIVEN WITH THE SEED: THE CARDS: each row of YtokjmehecfjhmaaDoorRows.lean that lists a variable, with what it lists TIED to the program's text (the seventh form; the later family's looks); each row that meets fmt, with fmt's text TOLD by the authors' own Lean function (tested against real Go, not proved from fmt's source: count such statements apart). THE CARD IS WHAT COUNTS. Prove the row's statement (the work); the ties are given (YtokjmehecfjhmaaDoorTie.lean); close each card by the builder's one call (the guide's Derived/Test/ToyasCard.lean, 'card_holds'). Laid BY PROGRAM, IN A SANDBOX (cutbox-door.mjs). By AI agents, Wed Nov 11 2026. No macro, syntax, notation, axiom, sorry.
-/
import Derived.Test.YtokjmehecfjhmaaDoorRows
import GoSem.ClaimSeven
namespace Go.Proofs.YtokjmehecfjhmaaDoor
namespace Rows

/-- THE TIED CARD OF 'paxtarlaw10.FitPlanMatchesReference'. -/
def fitPlanMatchesReferenceCard : Claim7 := { stood := { row := fitPlanMatchesReferenceRow, standIns := [], harness := (true, "d2d193dbf014c957b54fe21072b08ed3a1f1c45d651ce64b5502ccf1959a64e1"), looks := true }, kinds := [], alts := [], laidByText := true, laidKinds := [.data, .data, .data, .data, .data], laidTests := true, laidLooks := .later }
def FitPlanMatchesReferenceCardSaid : Prop := Claim7.holds Tryd.pinned (.plain (OpenSpec.ofChange fitPlanMatchesReferenceSpec)) fitPlanMatchesReferenceCard

/-- THE TIED CARD OF 'paxtarlaw10.FitMergeMatchesReference'. -/
def fitMergeMatchesReferenceCard : Claim7 := { stood := { row := fitMergeMatchesReferenceRow, standIns := [], harness := (true, "d2d193dbf014c957b54fe21072b08ed3a1f1c45d651ce64b5502ccf1959a64e1"), looks := true }, kinds := [], alts := [], laidByText := true, laidKinds := [.data, .data, .data, .sentinel, .sentinel, .data, .data], laidTests := true, laidLooks := .later }
def FitMergeMatchesReferenceCardSaid : Prop := Claim7.holds Tryd.pinned (.plain (OpenSpec.ofChange fitMergeMatchesReferenceSpec)) fitMergeMatchesReferenceCard

/-- THE TIED CARD OF 'paxtarlaw10.FitRoundTrip'. -/
def fitRoundTripCard : Claim7 := { stood := { row := fitRoundTripRow, standIns := [], harness := (true, "d2d193dbf014c957b54fe21072b08ed3a1f1c45d651ce64b5502ccf1959a64e1"), looks := true }, kinds := [], alts := [], laidByText := true, laidKinds := [.data, .data, .data, .sentinel, .sentinel, .data, .data], laidTests := true, laidLooks := .later }
def FitRoundTripCardSaid : Prop := Claim7.holds Tryd.pinned (.plain (OpenSpec.ofChange fitRoundTripSpec)) fitRoundTripCard

/-- THE TIED CARD OF 'paxtarlaw10.FitIsMinimal'. -/
def fitIsMinimalCard : Claim7 := { stood := { row := fitIsMinimalRow, standIns := [], harness := (true, "d2d193dbf014c957b54fe21072b08ed3a1f1c45d651ce64b5502ccf1959a64e1"), looks := true }, kinds := [], alts := [], laidByText := true, laidKinds := [.data, .data, .data, .sentinel, .sentinel, .data, .data], laidTests := true, laidLooks := .later }
def FitIsMinimalCardSaid : Prop := Claim7.holds Tryd.pinned (.plain (OpenSpec.ofChange fitIsMinimalSpec)) fitIsMinimalCard

/-- THE TIED CARD OF 'paxtarlaw10.FitIsInjective'. -/
def fitIsInjectiveCard : Claim7 := { stood := { row := fitIsInjectiveRow, standIns := [], harness := (true, "d2d193dbf014c957b54fe21072b08ed3a1f1c45d651ce64b5502ccf1959a64e1"), looks := true }, kinds := [], alts := [], laidByText := true, laidKinds := [.data, .data, .data, .data, .data], laidTests := true, laidLooks := .later }
def FitIsInjectiveCardSaid : Prop := Claim7.holds Tryd.pinned (.plain (OpenSpec.ofChange fitIsInjectiveSpec)) fitIsInjectiveCard

/-- THE TIED CARD OF 'paxtarlaw10.FitPathPlacement'. -/
def fitPathPlacementCard : Claim7 := { stood := { row := fitPathPlacementRow, standIns := [], harness := (true, "d2d193dbf014c957b54fe21072b08ed3a1f1c45d651ce64b5502ccf1959a64e1"), looks := true }, kinds := [], alts := [], laidByText := true, laidKinds := [.data, .data, .data, .data, .data], laidTests := true, laidLooks := .later }
def FitPathPlacementCardSaid : Prop := Claim7.holds Tryd.pinned (.plain (OpenSpec.ofChange fitPathPlacementSpec)) fitPathPlacementCard

/-- THE TIED CARD OF 'paxtarlaw10.FitSizeLimits'. -/
def fitSizeLimitsCard : Claim7 := { stood := { row := fitSizeLimitsRow, standIns := [], harness := (true, "d2d193dbf014c957b54fe21072b08ed3a1f1c45d651ce64b5502ccf1959a64e1"), looks := true }, kinds := [], alts := [], laidByText := true, laidKinds := [.data, .data, .data, .data, .data], laidTests := true, laidLooks := .later }
def FitSizeLimitsCardSaid : Prop := Claim7.holds Tryd.pinned (.plain (OpenSpec.ofChange fitSizeLimitsSpec)) fitSizeLimitsCard

/-- THE SECOND FORM's CARD OF 'paxtarlaw10.FitPlanMatchesReference'. -/
def fitPlanMatchesReferenceUptoCard : Claim7 := { stood := { row := fitPlanMatchesReferenceUptoRow, standIns := [], harness := (true, "d2d193dbf014c957b54fe21072b08ed3a1f1c45d651ce64b5502ccf1959a64e1"), looks := true }, kinds := [], alts := [], laidByText := true, laidKinds := [.data, .data, .data, .data, .data], laidTests := true, laidLooks := .later }
def FitPlanMatchesReferenceUptoCardSaid : Prop := Claim7.holds Tryd.pinned (.plain (OpenSpec.upto fitPlanMatchesReferenceSpec)) fitPlanMatchesReferenceUptoCard

/-- THE SECOND FORM's CARD OF 'paxtarlaw10.FitMergeMatchesReference'. -/
def fitMergeMatchesReferenceUptoCard : Claim7 := { stood := { row := fitMergeMatchesReferenceUptoRow, standIns := [], harness := (true, "d2d193dbf014c957b54fe21072b08ed3a1f1c45d651ce64b5502ccf1959a64e1"), looks := true }, kinds := [], alts := [], laidByText := true, laidKinds := [.data, .data, .data, .sentinel, .sentinel, .data, .data], laidTests := true, laidLooks := .later }
def FitMergeMatchesReferenceUptoCardSaid : Prop := Claim7.holds Tryd.pinned (.plain (OpenSpec.upto fitMergeMatchesReferenceSpec)) fitMergeMatchesReferenceUptoCard

/-- THE SECOND FORM's CARD OF 'paxtarlaw10.FitRoundTrip'. -/
def fitRoundTripUptoCard : Claim7 := { stood := { row := fitRoundTripUptoRow, standIns := [], harness := (true, "d2d193dbf014c957b54fe21072b08ed3a1f1c45d651ce64b5502ccf1959a64e1"), looks := true }, kinds := [], alts := [], laidByText := true, laidKinds := [.data, .data, .data, .sentinel, .sentinel, .data, .data], laidTests := true, laidLooks := .later }
def FitRoundTripUptoCardSaid : Prop := Claim7.holds Tryd.pinned (.plain (OpenSpec.upto fitRoundTripSpec)) fitRoundTripUptoCard

/-- THE SECOND FORM's CARD OF 'paxtarlaw10.FitIsMinimal'. -/
def fitIsMinimalUptoCard : Claim7 := { stood := { row := fitIsMinimalUptoRow, standIns := [], harness := (true, "d2d193dbf014c957b54fe21072b08ed3a1f1c45d651ce64b5502ccf1959a64e1"), looks := true }, kinds := [], alts := [], laidByText := true, laidKinds := [.data, .data, .data, .sentinel, .sentinel, .data, .data], laidTests := true, laidLooks := .later }
def FitIsMinimalUptoCardSaid : Prop := Claim7.holds Tryd.pinned (.plain (OpenSpec.upto fitIsMinimalSpec)) fitIsMinimalUptoCard

/-- THE SECOND FORM's CARD OF 'paxtarlaw10.FitIsInjective'. -/
def fitIsInjectiveUptoCard : Claim7 := { stood := { row := fitIsInjectiveUptoRow, standIns := [], harness := (true, "d2d193dbf014c957b54fe21072b08ed3a1f1c45d651ce64b5502ccf1959a64e1"), looks := true }, kinds := [], alts := [], laidByText := true, laidKinds := [.data, .data, .data, .data, .data], laidTests := true, laidLooks := .later }
def FitIsInjectiveUptoCardSaid : Prop := Claim7.holds Tryd.pinned (.plain (OpenSpec.upto fitIsInjectiveSpec)) fitIsInjectiveUptoCard

/-- THE SECOND FORM's CARD OF 'paxtarlaw10.FitPathPlacement'. -/
def fitPathPlacementUptoCard : Claim7 := { stood := { row := fitPathPlacementUptoRow, standIns := [], harness := (true, "d2d193dbf014c957b54fe21072b08ed3a1f1c45d651ce64b5502ccf1959a64e1"), looks := true }, kinds := [], alts := [], laidByText := true, laidKinds := [.data, .data, .data, .data, .data], laidTests := true, laidLooks := .later }
def FitPathPlacementUptoCardSaid : Prop := Claim7.holds Tryd.pinned (.plain (OpenSpec.upto fitPathPlacementSpec)) fitPathPlacementUptoCard

/-- THE SECOND FORM's CARD OF 'paxtarlaw10.FitSizeLimits'. -/
def fitSizeLimitsUptoCard : Claim7 := { stood := { row := fitSizeLimitsUptoRow, standIns := [], harness := (true, "d2d193dbf014c957b54fe21072b08ed3a1f1c45d651ce64b5502ccf1959a64e1"), looks := true }, kinds := [], alts := [], laidByText := true, laidKinds := [.data, .data, .data, .data, .data], laidTests := true, laidLooks := .later }
def FitSizeLimitsUptoCardSaid : Prop := Claim7.holds Tryd.pinned (.plain (OpenSpec.upto fitSizeLimitsSpec)) fitSizeLimitsUptoCard
end Rows
end Go.Proofs.YtokjmehecfjhmaaDoor
