/-
  DERIVED. GIVEN WITH THE SEED: THE CARDS: each row of YtbbaleambgaanaaGreatDoorRows.lean that lists a variable, with what it lists TIED to the program's text (the seventh form; the later family's looks); each row that meets fmt, with fmt's text TOLD by the authors' own Lean function (tested against real Go, not proved from fmt's source: count such statements apart). THE CARD IS WHAT COUNTS. Prove the row's statement (the work); the ties are given (YtbbaleambgaanaaGreatDoorTie.lean); close each card by the builder's one call (the guide's Derived/Test/ToyasCard.lean, 'card_holds'). Laid BY PROGRAM, IN A SANDBOX (cutbox-door.mjs). By AI agents, Wed Nov 11 2026. No macro, syntax, notation, axiom, sorry.
-/
import Derived.Test.YtbbaleambgaanaaGreatDoorRows
import GoSem.ClaimSeven
namespace Go.Proofs.YtbbaleambgaanaaGreatDoor
namespace Rows

/-- THE TIED CARD OF 'paxtarlaw12.EntryEncodeMatchesReference'. -/
def entryEncodeMatchesReferenceCard : Claim7 := { stood := { row := entryEncodeMatchesReferenceRow, standIns := [], harness := (true, "e8b77555370b3b534d84a915cefe0cef5af20019110936233dcdf841bcaf387a"), looks := true }, kinds := [], alts := [], laidByText := true, laidKinds := [.data, .data, .data, .data, .data, .data, .pinned], laidTests := true, laidLooks := .later }
def EntryEncodeMatchesReferenceCardSaid : Prop := Claim7.holds Tryz.pinned (.plain (OpenSpec.ofChange entryEncodeMatchesReferenceSpec)) entryEncodeMatchesReferenceCard

/-- THE TIED CARD OF 'paxtarlaw12.EntryDecodeMatchesReference'. -/
def entryDecodeMatchesReferenceCard : Claim7 := { stood := { row := entryDecodeMatchesReferenceRow, standIns := [], harness := (true, "e8b77555370b3b534d84a915cefe0cef5af20019110936233dcdf841bcaf387a"), looks := true }, kinds := [], alts := [], laidByText := true, laidKinds := [.data, .data, .data, .data, .sentinel, .sentinel, .data, .data, .pinned], laidTests := true, laidLooks := .later }
def EntryDecodeMatchesReferenceCardSaid : Prop := Claim7.holds Tryz.pinned (.plain (OpenSpec.ofChange entryDecodeMatchesReferenceSpec)) entryDecodeMatchesReferenceCard

/-- THE TIED CARD OF 'paxtarlaw12.EntryRoundTrip'. -/
def entryRoundTripCard : Claim7 := { stood := { row := entryRoundTripRow, standIns := [], harness := (true, "e8b77555370b3b534d84a915cefe0cef5af20019110936233dcdf841bcaf387a"), looks := true }, kinds := [], alts := [], laidByText := true, laidKinds := [.data, .data, .data, .data, .sentinel, .sentinel, .data, .data, .pinned], laidTests := true, laidLooks := .later }
def EntryRoundTripCardSaid : Prop := Claim7.holds Tryz.pinned (.plain (OpenSpec.ofChange entryRoundTripSpec)) entryRoundTripCard

/-- THE TIED CARD OF 'paxtarlaw12.EntryReadsItsEncoding'. -/
def entryReadsItsEncodingCard : Claim7 := { stood := { row := entryReadsItsEncodingRow, standIns := [], harness := (true, "e8b77555370b3b534d84a915cefe0cef5af20019110936233dcdf841bcaf387a"), looks := true }, kinds := [], alts := [], laidByText := true, laidKinds := [.data, .data, .data, .data, .sentinel, .sentinel, .data, .data, .pinned], laidTests := true, laidLooks := .later }
def EntryReadsItsEncodingCardSaid : Prop := Claim7.holds Tryz.pinned (.plain (OpenSpec.ofChange entryReadsItsEncodingSpec)) entryReadsItsEncodingCard

/-- THE TIED CARD OF 'paxtarlaw12.EntryLength'. -/
def entryLengthCard : Claim7 := { stood := { row := entryLengthRow, standIns := [], harness := (true, "e8b77555370b3b534d84a915cefe0cef5af20019110936233dcdf841bcaf387a"), looks := true }, kinds := [], alts := [], laidByText := true, laidKinds := [.data, .data, .data, .data, .data, .data, .pinned], laidTests := true, laidLooks := .later }
def EntryLengthCardSaid : Prop := Claim7.holds Tryz.pinned (.plain (OpenSpec.ofChange entryLengthSpec)) entryLengthCard

/-- THE TIED CARD OF 'paxtarlaw12.EntryConsecutive'. -/
def entryConsecutiveCard : Claim7 := { stood := { row := entryConsecutiveRow, standIns := [], harness := (true, "e8b77555370b3b534d84a915cefe0cef5af20019110936233dcdf841bcaf387a"), looks := true }, kinds := [], alts := [], laidByText := true, laidKinds := [.data, .data, .data, .data, .sentinel, .sentinel, .data, .data, .pinned], laidTests := true, laidLooks := .later }
def EntryConsecutiveCardSaid : Prop := Claim7.holds Tryz.pinned (.plain (OpenSpec.ofChange entryConsecutiveSpec)) entryConsecutiveCard

/-- THE SECOND FORM's CARD OF 'paxtarlaw12.EntryEncodeMatchesReference'. -/
def entryEncodeMatchesReferenceUptoCard : Claim7 := { stood := { row := entryEncodeMatchesReferenceUptoRow, standIns := [], harness := (true, "e8b77555370b3b534d84a915cefe0cef5af20019110936233dcdf841bcaf387a"), looks := true }, kinds := [], alts := [], laidByText := true, laidKinds := [.data, .data, .data, .data, .data, .data, .pinned], laidTests := true, laidLooks := .later }
def EntryEncodeMatchesReferenceUptoCardSaid : Prop := Claim7.holds Tryz.pinned (.plain (OpenSpec.upto entryEncodeMatchesReferenceSpec)) entryEncodeMatchesReferenceUptoCard

/-- THE SECOND FORM's CARD OF 'paxtarlaw12.EntryDecodeMatchesReference'. -/
def entryDecodeMatchesReferenceUptoCard : Claim7 := { stood := { row := entryDecodeMatchesReferenceUptoRow, standIns := [], harness := (true, "e8b77555370b3b534d84a915cefe0cef5af20019110936233dcdf841bcaf387a"), looks := true }, kinds := [], alts := [], laidByText := true, laidKinds := [.data, .data, .data, .data, .sentinel, .sentinel, .data, .data, .pinned], laidTests := true, laidLooks := .later }
def EntryDecodeMatchesReferenceUptoCardSaid : Prop := Claim7.holds Tryz.pinned (.plain (OpenSpec.upto entryDecodeMatchesReferenceSpec)) entryDecodeMatchesReferenceUptoCard

/-- THE SECOND FORM's CARD OF 'paxtarlaw12.EntryRoundTrip'. -/
def entryRoundTripUptoCard : Claim7 := { stood := { row := entryRoundTripUptoRow, standIns := [], harness := (true, "e8b77555370b3b534d84a915cefe0cef5af20019110936233dcdf841bcaf387a"), looks := true }, kinds := [], alts := [], laidByText := true, laidKinds := [.data, .data, .data, .data, .sentinel, .sentinel, .data, .data, .pinned], laidTests := true, laidLooks := .later }
def EntryRoundTripUptoCardSaid : Prop := Claim7.holds Tryz.pinned (.plain (OpenSpec.upto entryRoundTripSpec)) entryRoundTripUptoCard

/-- THE SECOND FORM's CARD OF 'paxtarlaw12.EntryReadsItsEncoding'. -/
def entryReadsItsEncodingUptoCard : Claim7 := { stood := { row := entryReadsItsEncodingUptoRow, standIns := [], harness := (true, "e8b77555370b3b534d84a915cefe0cef5af20019110936233dcdf841bcaf387a"), looks := true }, kinds := [], alts := [], laidByText := true, laidKinds := [.data, .data, .data, .data, .sentinel, .sentinel, .data, .data, .pinned], laidTests := true, laidLooks := .later }
def EntryReadsItsEncodingUptoCardSaid : Prop := Claim7.holds Tryz.pinned (.plain (OpenSpec.upto entryReadsItsEncodingSpec)) entryReadsItsEncodingUptoCard

/-- THE SECOND FORM's CARD OF 'paxtarlaw12.EntryLength'. -/
def entryLengthUptoCard : Claim7 := { stood := { row := entryLengthUptoRow, standIns := [], harness := (true, "e8b77555370b3b534d84a915cefe0cef5af20019110936233dcdf841bcaf387a"), looks := true }, kinds := [], alts := [], laidByText := true, laidKinds := [.data, .data, .data, .data, .data, .data, .pinned], laidTests := true, laidLooks := .later }
def EntryLengthUptoCardSaid : Prop := Claim7.holds Tryz.pinned (.plain (OpenSpec.upto entryLengthSpec)) entryLengthUptoCard

/-- THE SECOND FORM's CARD OF 'paxtarlaw12.EntryConsecutive'. -/
def entryConsecutiveUptoCard : Claim7 := { stood := { row := entryConsecutiveUptoRow, standIns := [], harness := (true, "e8b77555370b3b534d84a915cefe0cef5af20019110936233dcdf841bcaf387a"), looks := true }, kinds := [], alts := [], laidByText := true, laidKinds := [.data, .data, .data, .data, .sentinel, .sentinel, .data, .data, .pinned], laidTests := true, laidLooks := .later }
def EntryConsecutiveUptoCardSaid : Prop := Claim7.holds Tryz.pinned (.plain (OpenSpec.upto entryConsecutiveSpec)) entryConsecutiveUptoCard
end Rows
end Go.Proofs.YtbbaleambgaanaaGreatDoor
