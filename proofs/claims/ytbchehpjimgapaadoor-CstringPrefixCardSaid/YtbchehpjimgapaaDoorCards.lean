/-
  DERIVED. GIVEN WITH THE SEED: THE CARDS: each row of YtbchehpjimgapaaDoorRows.lean that lists a variable, with what it lists TIED to the program's text (the seventh form; the later family's looks); each row that meets fmt, with fmt's text TOLD by the authors' own Lean function (tested against real Go, not proved from fmt's source: count such statements apart). THE CARD IS WHAT COUNTS. Prove the row's statement (the work); the ties are given (YtbchehpjimgapaaDoorTie.lean); close each card by the builder's one call (the guide's Derived/Test/ToyasCard.lean, 'card_holds'). Laid BY PROGRAM, IN A SANDBOX (cutbox-door.mjs). By AI agents, Wed Nov 11 2026. No macro, syntax, notation, axiom, sorry.
-/
import Derived.Test.YtbchehpjimgapaaDoorRows
import GoSem.ClaimSeven
namespace Go.Proofs.YtbchehpjimgapaaDoor
namespace Rows

/-- THE TIED CARD OF 'paxtarlaw02.CstringParseMatchesReference'. -/
def cstringParseMatchesReferenceCard : Claim7 := { stood := { row := cstringParseMatchesReferenceRow, standIns := [], harness := (true, "67a45f7065739a8fc10536a541a616345b8b71b88504ed46a1d34904d9ffa371"), looks := false }, kinds := [], alts := [], laidByText := true, laidKinds := [.data, .pinned], laidTests := true, laidLooks := .later }
def CstringParseMatchesReferenceCardSaid : Prop := Claim7.holds Tryd.pinned (.plain (OpenSpec.ofChange cstringParseMatchesReferenceSpec)) cstringParseMatchesReferenceCard

/-- THE TIED CARD OF 'paxtarlaw02.CstringRoundTrip'. -/
def cstringRoundTripCard : Claim7 := { stood := { row := cstringRoundTripRow, standIns := [], harness := (true, "67a45f7065739a8fc10536a541a616345b8b71b88504ed46a1d34904d9ffa371"), looks := false }, kinds := [], alts := [], laidByText := true, laidKinds := [.data, .pinned], laidTests := true, laidLooks := .later }
def CstringRoundTripCardSaid : Prop := Claim7.holds Tryd.pinned (.plain (OpenSpec.ofChange cstringRoundTripSpec)) cstringRoundTripCard

/-- THE TIED CARD OF 'paxtarlaw02.CstringPrefix'. -/
def cstringPrefixCard : Claim7 := { stood := { row := cstringPrefixRow, standIns := [], harness := (true, "67a45f7065739a8fc10536a541a616345b8b71b88504ed46a1d34904d9ffa371"), looks := false }, kinds := [], alts := [], laidByText := true, laidKinds := [.data, .pinned], laidTests := true, laidLooks := .later }
def CstringPrefixCardSaid : Prop := Claim7.holds Tryd.pinned (.plain (OpenSpec.ofChange cstringPrefixSpec)) cstringPrefixCard

/-- THE SECOND FORM's CARD OF 'paxtarlaw02.CstringParseMatchesReference'. -/
def cstringParseMatchesReferenceUptoCard : Claim7 := { stood := { row := cstringParseMatchesReferenceUptoRow, standIns := [], harness := (true, "67a45f7065739a8fc10536a541a616345b8b71b88504ed46a1d34904d9ffa371"), looks := false }, kinds := [], alts := [], laidByText := true, laidKinds := [.data, .pinned], laidTests := true, laidLooks := .later }
def CstringParseMatchesReferenceUptoCardSaid : Prop := Claim7.holds Tryd.pinned (.plain (OpenSpec.upto cstringParseMatchesReferenceSpec)) cstringParseMatchesReferenceUptoCard

/-- THE SECOND FORM's CARD OF 'paxtarlaw02.CstringRoundTrip'. -/
def cstringRoundTripUptoCard : Claim7 := { stood := { row := cstringRoundTripUptoRow, standIns := [], harness := (true, "67a45f7065739a8fc10536a541a616345b8b71b88504ed46a1d34904d9ffa371"), looks := false }, kinds := [], alts := [], laidByText := true, laidKinds := [.data, .pinned], laidTests := true, laidLooks := .later }
def CstringRoundTripUptoCardSaid : Prop := Claim7.holds Tryd.pinned (.plain (OpenSpec.upto cstringRoundTripSpec)) cstringRoundTripUptoCard

/-- THE SECOND FORM's CARD OF 'paxtarlaw02.CstringPrefix'. -/
def cstringPrefixUptoCard : Claim7 := { stood := { row := cstringPrefixUptoRow, standIns := [], harness := (true, "67a45f7065739a8fc10536a541a616345b8b71b88504ed46a1d34904d9ffa371"), looks := false }, kinds := [], alts := [], laidByText := true, laidKinds := [.data, .pinned], laidTests := true, laidLooks := .later }
def CstringPrefixUptoCardSaid : Prop := Claim7.holds Tryd.pinned (.plain (OpenSpec.upto cstringPrefixSpec)) cstringPrefixUptoCard
end Rows
end Go.Proofs.YtbchehpjimgapaaDoor
