/-
  DERIVED. GIVEN WITH THE SEED: THE CARDS: each row of YtcjagakckffkiaaGreatDoorRows.lean that lists a variable, with what it lists TIED to the program's text (the seventh form; the later family's looks); each row that meets fmt, with fmt's text TOLD by the authors' own Lean function (tested against real Go, not proved from fmt's source: count such statements apart). THE CARD IS WHAT COUNTS. Prove the row's statement (the work); the ties are given (YtcjagakckffkiaaGreatDoorTie.lean); close each card by the builder's one call (the guide's Derived/Test/ToyasCard.lean, 'card_holds'). Laid BY PROGRAM, IN A SANDBOX (cutbox-door.mjs). By AI agents, Wed Nov 11 2026. No macro, syntax, notation, axiom, sorry.
-/
import Derived.Test.YtcjagakckffkiaaGreatDoorRows
import GoSem.ClaimSeven
namespace Go.Proofs.YtcjagakckffkiaaGreatDoor
namespace Rows

/-- THE TIED CARD OF 'paxtarlaw17.ArchiveEncodeMatchesReference'. -/
def archiveEncodeMatchesReferenceCard : Claim7 := { stood := { row := archiveEncodeMatchesReferenceRow, standIns := [], harness := (true, "27c61408b14d384d66d888a4d68bc2c32a1b10f80d106d659f3a841be4402673"), looks := true }, kinds := [], alts := [], laidByText := true, laidKinds := [.data, .data, .data, .data, .sentinel, .sentinel, .data, .data, .pinned], laidTests := true, laidLooks := .later }
def ArchiveEncodeMatchesReferenceCardSaid : Prop := Claim7.holds Tryz.pinned (.plain (OpenSpec.ofChange archiveEncodeMatchesReferenceSpec)) archiveEncodeMatchesReferenceCard

/-- THE TIED CARD OF 'paxtarlaw17.ArchiveReadMatchesReference'. -/
def archiveReadMatchesReferenceCard : Claim7 := { stood := { row := archiveReadMatchesReferenceRow, standIns := [], harness := (true, "27c61408b14d384d66d888a4d68bc2c32a1b10f80d106d659f3a841be4402673"), looks := true }, kinds := [], alts := [], laidByText := true, laidKinds := [.data, .data, .data, .data, .sentinel, .sentinel, .data, .data, .pinned], laidTests := true, laidLooks := .later }
def ArchiveReadMatchesReferenceCardSaid : Prop := Claim7.holds Tryz.pinned (.plain (OpenSpec.ofChange archiveReadMatchesReferenceSpec)) archiveReadMatchesReferenceCard

/-- THE TIED CARD OF 'paxtarlaw17.ArchiveCreateWritesPrefix'. -/
def archiveCreateWritesPrefixCard : Claim7 := { stood := { row := archiveCreateWritesPrefixRow, standIns := [], harness := (true, "27c61408b14d384d66d888a4d68bc2c32a1b10f80d106d659f3a841be4402673"), looks := true }, kinds := [], alts := [], laidByText := true, laidKinds := [.data, .data, .data, .data, .sentinel, .sentinel, .data, .data, .pinned], laidTests := true, laidLooks := .later }
def ArchiveCreateWritesPrefixCardSaid : Prop := Claim7.holds Tryz.pinned (.plain (OpenSpec.ofChange archiveCreateWritesPrefixSpec)) archiveCreateWritesPrefixCard

/-- THE TIED CARD OF 'paxtarlaw17.ArchiveRoundTrip'. -/
def archiveRoundTripCard : Claim7 := { stood := { row := archiveRoundTripRow, standIns := [], harness := (true, "27c61408b14d384d66d888a4d68bc2c32a1b10f80d106d659f3a841be4402673"), looks := true }, kinds := [], alts := [], laidByText := true, laidKinds := [.data, .data, .data, .data, .sentinel, .sentinel, .data, .data, .pinned], laidTests := true, laidLooks := .later }
def ArchiveRoundTripCardSaid : Prop := Claim7.holds Tryz.pinned (.plain (OpenSpec.ofChange archiveRoundTripSpec)) archiveRoundTripCard

/-- THE TIED CARD OF 'paxtarlaw17.ArchivePrefixRejected'. -/
def archivePrefixRejectedCard : Claim7 := { stood := { row := archivePrefixRejectedRow, standIns := [], harness := (true, "27c61408b14d384d66d888a4d68bc2c32a1b10f80d106d659f3a841be4402673"), looks := true }, kinds := [], alts := [], laidByText := true, laidKinds := [.data, .data, .data, .data, .sentinel, .sentinel, .data, .data, .pinned], laidTests := true, laidLooks := .later }
def ArchivePrefixRejectedCardSaid : Prop := Claim7.holds Tryz.pinned (.plain (OpenSpec.ofChange archivePrefixRejectedSpec)) archivePrefixRejectedCard

/-- THE TIED CARD OF 'paxtarlaw17.ArchiveLength'. -/
def archiveLengthCard : Claim7 := { stood := { row := archiveLengthRow, standIns := [], harness := (true, "27c61408b14d384d66d888a4d68bc2c32a1b10f80d106d659f3a841be4402673"), looks := true }, kinds := [], alts := [], laidByText := true, laidKinds := [.data, .data, .data, .data, .sentinel, .sentinel, .data, .data, .pinned], laidTests := true, laidLooks := .later }
def ArchiveLengthCardSaid : Prop := Claim7.holds Tryz.pinned (.plain (OpenSpec.ofChange archiveLengthSpec)) archiveLengthCard

/-- THE TIED CARD OF 'paxtarlaw17.ArchiveChunkingIrrelevant'. -/
def archiveChunkingIrrelevantCard : Claim7 := { stood := { row := archiveChunkingIrrelevantRow, standIns := [], harness := (true, "27c61408b14d384d66d888a4d68bc2c32a1b10f80d106d659f3a841be4402673"), looks := true }, kinds := [], alts := [], laidByText := true, laidKinds := [.data, .data, .data, .data, .sentinel, .sentinel, .data, .data, .pinned], laidTests := true, laidLooks := .later }
def ArchiveChunkingIrrelevantCardSaid : Prop := Claim7.holds Tryz.pinned (.plain (OpenSpec.ofChange archiveChunkingIrrelevantSpec)) archiveChunkingIrrelevantCard

/-- THE TIED CARD OF 'paxtarlaw17.ArchiveMembersInOrder'. -/
def archiveMembersInOrderCard : Claim7 := { stood := { row := archiveMembersInOrderRow, standIns := [], harness := (true, "27c61408b14d384d66d888a4d68bc2c32a1b10f80d106d659f3a841be4402673"), looks := true }, kinds := [], alts := [], laidByText := true, laidKinds := [.data, .data, .data, .data, .sentinel, .sentinel, .data, .data, .pinned], laidTests := true, laidLooks := .later }
def ArchiveMembersInOrderCardSaid : Prop := Claim7.holds Tryz.pinned (.plain (OpenSpec.ofChange archiveMembersInOrderSpec)) archiveMembersInOrderCard

/-- THE TIED CARD OF 'paxtarlaw17.ArchiveErrorBeforeFailure'. -/
def archiveErrorBeforeFailureCard : Claim7 := { stood := { row := archiveErrorBeforeFailureRow, standIns := [], harness := (true, "27c61408b14d384d66d888a4d68bc2c32a1b10f80d106d659f3a841be4402673"), looks := true }, kinds := [], alts := [], laidByText := true, laidKinds := [.data, .data, .data, .data, .sentinel, .sentinel, .data, .data, .pinned], laidTests := true, laidLooks := .later }
def ArchiveErrorBeforeFailureCardSaid : Prop := Claim7.holds Tryz.pinned (.plain (OpenSpec.ofChange archiveErrorBeforeFailureSpec)) archiveErrorBeforeFailureCard

/-- THE SECOND FORM's CARD OF 'paxtarlaw17.ArchiveEncodeMatchesReference'. -/
def archiveEncodeMatchesReferenceUptoCard : Claim7 := { stood := { row := archiveEncodeMatchesReferenceUptoRow, standIns := [], harness := (true, "27c61408b14d384d66d888a4d68bc2c32a1b10f80d106d659f3a841be4402673"), looks := true }, kinds := [], alts := [], laidByText := true, laidKinds := [.data, .data, .data, .data, .sentinel, .sentinel, .data, .data, .pinned], laidTests := true, laidLooks := .later }
def ArchiveEncodeMatchesReferenceUptoCardSaid : Prop := Claim7.holds Tryz.pinned (.plain (OpenSpec.upto archiveEncodeMatchesReferenceSpec)) archiveEncodeMatchesReferenceUptoCard

/-- THE SECOND FORM's CARD OF 'paxtarlaw17.ArchiveReadMatchesReference'. -/
def archiveReadMatchesReferenceUptoCard : Claim7 := { stood := { row := archiveReadMatchesReferenceUptoRow, standIns := [], harness := (true, "27c61408b14d384d66d888a4d68bc2c32a1b10f80d106d659f3a841be4402673"), looks := true }, kinds := [], alts := [], laidByText := true, laidKinds := [.data, .data, .data, .data, .sentinel, .sentinel, .data, .data, .pinned], laidTests := true, laidLooks := .later }
def ArchiveReadMatchesReferenceUptoCardSaid : Prop := Claim7.holds Tryz.pinned (.plain (OpenSpec.upto archiveReadMatchesReferenceSpec)) archiveReadMatchesReferenceUptoCard

/-- THE SECOND FORM's CARD OF 'paxtarlaw17.ArchiveCreateWritesPrefix'. -/
def archiveCreateWritesPrefixUptoCard : Claim7 := { stood := { row := archiveCreateWritesPrefixUptoRow, standIns := [], harness := (true, "27c61408b14d384d66d888a4d68bc2c32a1b10f80d106d659f3a841be4402673"), looks := true }, kinds := [], alts := [], laidByText := true, laidKinds := [.data, .data, .data, .data, .sentinel, .sentinel, .data, .data, .pinned], laidTests := true, laidLooks := .later }
def ArchiveCreateWritesPrefixUptoCardSaid : Prop := Claim7.holds Tryz.pinned (.plain (OpenSpec.upto archiveCreateWritesPrefixSpec)) archiveCreateWritesPrefixUptoCard

/-- THE SECOND FORM's CARD OF 'paxtarlaw17.ArchiveRoundTrip'. -/
def archiveRoundTripUptoCard : Claim7 := { stood := { row := archiveRoundTripUptoRow, standIns := [], harness := (true, "27c61408b14d384d66d888a4d68bc2c32a1b10f80d106d659f3a841be4402673"), looks := true }, kinds := [], alts := [], laidByText := true, laidKinds := [.data, .data, .data, .data, .sentinel, .sentinel, .data, .data, .pinned], laidTests := true, laidLooks := .later }
def ArchiveRoundTripUptoCardSaid : Prop := Claim7.holds Tryz.pinned (.plain (OpenSpec.upto archiveRoundTripSpec)) archiveRoundTripUptoCard

/-- THE SECOND FORM's CARD OF 'paxtarlaw17.ArchivePrefixRejected'. -/
def archivePrefixRejectedUptoCard : Claim7 := { stood := { row := archivePrefixRejectedUptoRow, standIns := [], harness := (true, "27c61408b14d384d66d888a4d68bc2c32a1b10f80d106d659f3a841be4402673"), looks := true }, kinds := [], alts := [], laidByText := true, laidKinds := [.data, .data, .data, .data, .sentinel, .sentinel, .data, .data, .pinned], laidTests := true, laidLooks := .later }
def ArchivePrefixRejectedUptoCardSaid : Prop := Claim7.holds Tryz.pinned (.plain (OpenSpec.upto archivePrefixRejectedSpec)) archivePrefixRejectedUptoCard

/-- THE SECOND FORM's CARD OF 'paxtarlaw17.ArchiveLength'. -/
def archiveLengthUptoCard : Claim7 := { stood := { row := archiveLengthUptoRow, standIns := [], harness := (true, "27c61408b14d384d66d888a4d68bc2c32a1b10f80d106d659f3a841be4402673"), looks := true }, kinds := [], alts := [], laidByText := true, laidKinds := [.data, .data, .data, .data, .sentinel, .sentinel, .data, .data, .pinned], laidTests := true, laidLooks := .later }
def ArchiveLengthUptoCardSaid : Prop := Claim7.holds Tryz.pinned (.plain (OpenSpec.upto archiveLengthSpec)) archiveLengthUptoCard

/-- THE SECOND FORM's CARD OF 'paxtarlaw17.ArchiveChunkingIrrelevant'. -/
def archiveChunkingIrrelevantUptoCard : Claim7 := { stood := { row := archiveChunkingIrrelevantUptoRow, standIns := [], harness := (true, "27c61408b14d384d66d888a4d68bc2c32a1b10f80d106d659f3a841be4402673"), looks := true }, kinds := [], alts := [], laidByText := true, laidKinds := [.data, .data, .data, .data, .sentinel, .sentinel, .data, .data, .pinned], laidTests := true, laidLooks := .later }
def ArchiveChunkingIrrelevantUptoCardSaid : Prop := Claim7.holds Tryz.pinned (.plain (OpenSpec.upto archiveChunkingIrrelevantSpec)) archiveChunkingIrrelevantUptoCard

/-- THE SECOND FORM's CARD OF 'paxtarlaw17.ArchiveMembersInOrder'. -/
def archiveMembersInOrderUptoCard : Claim7 := { stood := { row := archiveMembersInOrderUptoRow, standIns := [], harness := (true, "27c61408b14d384d66d888a4d68bc2c32a1b10f80d106d659f3a841be4402673"), looks := true }, kinds := [], alts := [], laidByText := true, laidKinds := [.data, .data, .data, .data, .sentinel, .sentinel, .data, .data, .pinned], laidTests := true, laidLooks := .later }
def ArchiveMembersInOrderUptoCardSaid : Prop := Claim7.holds Tryz.pinned (.plain (OpenSpec.upto archiveMembersInOrderSpec)) archiveMembersInOrderUptoCard

/-- THE SECOND FORM's CARD OF 'paxtarlaw17.ArchiveErrorBeforeFailure'. -/
def archiveErrorBeforeFailureUptoCard : Claim7 := { stood := { row := archiveErrorBeforeFailureUptoRow, standIns := [], harness := (true, "27c61408b14d384d66d888a4d68bc2c32a1b10f80d106d659f3a841be4402673"), looks := true }, kinds := [], alts := [], laidByText := true, laidKinds := [.data, .data, .data, .data, .sentinel, .sentinel, .data, .data, .pinned], laidTests := true, laidLooks := .later }
def ArchiveErrorBeforeFailureUptoCardSaid : Prop := Claim7.holds Tryz.pinned (.plain (OpenSpec.upto archiveErrorBeforeFailureSpec)) archiveErrorBeforeFailureUptoCard
end Rows
end Go.Proofs.YtcjagakckffkiaaGreatDoor
