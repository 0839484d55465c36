/-
  DERIVED. GIVEN WITH THE SEED: THE CARDS: each row of YtjmnhnijmaceeaaDoorRows.lean that lists a variable, with what it lists TIED to the program's text (the seventh form; the later family's looks); each row that meets fmt, with fmt's text TOLD by the authors' own Lean function (tested against real Go, not proved from fmt's source: count such statements apart). THE CARD IS WHAT COUNTS. Prove the row's statement (the work); the ties are given (YtjmnhnijmaceeaaDoorTie.lean); close each card by the builder's one call (the guide's Derived/Test/ToyasCard.lean, 'card_holds'). Laid BY PROGRAM, IN A SANDBOX (cutbox-door.mjs). By AI agents, Wed Nov 11 2026. No macro, syntax, notation, axiom, sorry.
-/
import Derived.Test.YtjmnhnijmaceeaaDoorRows
import GoSem.ClaimSeven
namespace Go.Proofs.YtjmnhnijmaceeaaDoor
namespace Rows

/-- THE TIED CARD OF 'paxtarlaw09.PaxrecFormatMatchesReference'. -/
def paxrecFormatMatchesReferenceCard : Claim7 := { stood := { row := paxrecFormatMatchesReferenceRow, standIns := [], harness := (true, "f113bd82d970383cae677e8d29bd53f946c1cd1d2f10495787845216826a99d2"), looks := false }, kinds := [], alts := [], laidByText := true, laidKinds := [.data, .data, .data, .data], laidTests := true, laidLooks := .later }
def PaxrecFormatMatchesReferenceCardSaid : Prop := Claim7.holds Tryd.pinned (.plain (OpenSpec.ofChange paxrecFormatMatchesReferenceSpec)) paxrecFormatMatchesReferenceCard

/-- THE TIED CARD OF 'paxtarlaw09.PaxrecParseMatchesReference'. -/
def paxrecParseMatchesReferenceCard : Claim7 := { stood := { row := paxrecParseMatchesReferenceRow, standIns := [], harness := (true, "f113bd82d970383cae677e8d29bd53f946c1cd1d2f10495787845216826a99d2"), looks := false }, kinds := [], alts := [], laidByText := true, laidKinds := [.data, .data, .data, .data], laidTests := true, laidLooks := .later }
def PaxrecParseMatchesReferenceCardSaid : Prop := Claim7.holds Tryd.pinned (.plain (OpenSpec.ofChange paxrecParseMatchesReferenceSpec)) paxrecParseMatchesReferenceCard

/-- THE TIED CARD OF 'paxtarlaw09.PaxrecRoundTrip'. -/
def paxrecRoundTripCard : Claim7 := { stood := { row := paxrecRoundTripRow, standIns := [], harness := (true, "f113bd82d970383cae677e8d29bd53f946c1cd1d2f10495787845216826a99d2"), looks := false }, kinds := [], alts := [], laidByText := true, laidKinds := [.data, .data, .data, .data], laidTests := true, laidLooks := .later }
def PaxrecRoundTripCardSaid : Prop := Claim7.holds Tryd.pinned (.plain (OpenSpec.ofChange paxrecRoundTripSpec)) paxrecRoundTripCard

/-- THE TIED CARD OF 'paxtarlaw09.PaxrecSizeIsLeast'. -/
def paxrecSizeIsLeastCard : Claim7 := { stood := { row := paxrecSizeIsLeastRow, standIns := [], harness := (true, "f113bd82d970383cae677e8d29bd53f946c1cd1d2f10495787845216826a99d2"), looks := false }, kinds := [], alts := [], laidByText := true, laidKinds := [.data, .data, .data, .data], laidTests := true, laidLooks := .later }
def PaxrecSizeIsLeastCardSaid : Prop := Claim7.holds Tryd.pinned (.plain (OpenSpec.ofChange paxrecSizeIsLeastSpec)) paxrecSizeIsLeastCard

/-- THE TIED CARD OF 'paxtarlaw09.PaxrecConcatenation'. -/
def paxrecConcatenationCard : Claim7 := { stood := { row := paxrecConcatenationRow, standIns := [], harness := (true, "f113bd82d970383cae677e8d29bd53f946c1cd1d2f10495787845216826a99d2"), looks := false }, kinds := [], alts := [], laidByText := true, laidKinds := [.data, .data, .data, .data], laidTests := true, laidLooks := .later }
def PaxrecConcatenationCardSaid : Prop := Claim7.holds Tryd.pinned (.plain (OpenSpec.ofChange paxrecConcatenationSpec)) paxrecConcatenationCard

/-- THE TIED CARD OF 'paxtarlaw09.PaxrecKeysOrdered'. -/
def paxrecKeysOrderedCard : Claim7 := { stood := { row := paxrecKeysOrderedRow, standIns := [], harness := (true, "f113bd82d970383cae677e8d29bd53f946c1cd1d2f10495787845216826a99d2"), looks := false }, kinds := [], alts := [], laidByText := true, laidKinds := [.data, .data, .data, .data], laidTests := true, laidLooks := .later }
def PaxrecKeysOrderedCardSaid : Prop := Claim7.holds Tryd.pinned (.plain (OpenSpec.ofChange paxrecKeysOrderedSpec)) paxrecKeysOrderedCard

/-- THE SECOND FORM's CARD OF 'paxtarlaw09.PaxrecFormatMatchesReference'. -/
def paxrecFormatMatchesReferenceUptoCard : Claim7 := { stood := { row := paxrecFormatMatchesReferenceUptoRow, standIns := [], harness := (true, "f113bd82d970383cae677e8d29bd53f946c1cd1d2f10495787845216826a99d2"), looks := false }, kinds := [], alts := [], laidByText := true, laidKinds := [.data, .data, .data, .data], laidTests := true, laidLooks := .later }
def PaxrecFormatMatchesReferenceUptoCardSaid : Prop := Claim7.holds Tryd.pinned (.plain (OpenSpec.upto paxrecFormatMatchesReferenceSpec)) paxrecFormatMatchesReferenceUptoCard

/-- THE SECOND FORM's CARD OF 'paxtarlaw09.PaxrecParseMatchesReference'. -/
def paxrecParseMatchesReferenceUptoCard : Claim7 := { stood := { row := paxrecParseMatchesReferenceUptoRow, standIns := [], harness := (true, "f113bd82d970383cae677e8d29bd53f946c1cd1d2f10495787845216826a99d2"), looks := false }, kinds := [], alts := [], laidByText := true, laidKinds := [.data, .data, .data, .data], laidTests := true, laidLooks := .later }
def PaxrecParseMatchesReferenceUptoCardSaid : Prop := Claim7.holds Tryd.pinned (.plain (OpenSpec.upto paxrecParseMatchesReferenceSpec)) paxrecParseMatchesReferenceUptoCard

/-- THE SECOND FORM's CARD OF 'paxtarlaw09.PaxrecRoundTrip'. -/
def paxrecRoundTripUptoCard : Claim7 := { stood := { row := paxrecRoundTripUptoRow, standIns := [], harness := (true, "f113bd82d970383cae677e8d29bd53f946c1cd1d2f10495787845216826a99d2"), looks := false }, kinds := [], alts := [], laidByText := true, laidKinds := [.data, .data, .data, .data], laidTests := true, laidLooks := .later }
def PaxrecRoundTripUptoCardSaid : Prop := Claim7.holds Tryd.pinned (.plain (OpenSpec.upto paxrecRoundTripSpec)) paxrecRoundTripUptoCard

/-- THE SECOND FORM's CARD OF 'paxtarlaw09.PaxrecSizeIsLeast'. -/
def paxrecSizeIsLeastUptoCard : Claim7 := { stood := { row := paxrecSizeIsLeastUptoRow, standIns := [], harness := (true, "f113bd82d970383cae677e8d29bd53f946c1cd1d2f10495787845216826a99d2"), looks := false }, kinds := [], alts := [], laidByText := true, laidKinds := [.data, .data, .data, .data], laidTests := true, laidLooks := .later }
def PaxrecSizeIsLeastUptoCardSaid : Prop := Claim7.holds Tryd.pinned (.plain (OpenSpec.upto paxrecSizeIsLeastSpec)) paxrecSizeIsLeastUptoCard

/-- THE SECOND FORM's CARD OF 'paxtarlaw09.PaxrecConcatenation'. -/
def paxrecConcatenationUptoCard : Claim7 := { stood := { row := paxrecConcatenationUptoRow, standIns := [], harness := (true, "f113bd82d970383cae677e8d29bd53f946c1cd1d2f10495787845216826a99d2"), looks := false }, kinds := [], alts := [], laidByText := true, laidKinds := [.data, .data, .data, .data], laidTests := true, laidLooks := .later }
def PaxrecConcatenationUptoCardSaid : Prop := Claim7.holds Tryd.pinned (.plain (OpenSpec.upto paxrecConcatenationSpec)) paxrecConcatenationUptoCard

/-- THE SECOND FORM's CARD OF 'paxtarlaw09.PaxrecKeysOrdered'. -/
def paxrecKeysOrderedUptoCard : Claim7 := { stood := { row := paxrecKeysOrderedUptoRow, standIns := [], harness := (true, "f113bd82d970383cae677e8d29bd53f946c1cd1d2f10495787845216826a99d2"), looks := false }, kinds := [], alts := [], laidByText := true, laidKinds := [.data, .data, .data, .data], laidTests := true, laidLooks := .later }
def PaxrecKeysOrderedUptoCardSaid : Prop := Claim7.holds Tryd.pinned (.plain (OpenSpec.upto paxrecKeysOrderedSpec)) paxrecKeysOrderedUptoCard
end Rows
end Go.Proofs.YtjmnhnijmaceeaaDoor
