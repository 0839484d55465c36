/-
  DERIVED. GIVEN WITH THE SEED: THE CARDS: each row of YtmbimnnacjbdfaaDoorRows.lean that lists a variable, with what it lists TIED to the program's text (the seventh form; the later family's looks); each row that meets fmt, with fmt's text TOLD by the authors' own Lean function (tested against real Go, not proved from fmt's source: count such statements apart). THE CARD IS WHAT COUNTS. Prove the row's statement (the work); the ties are given (YtmbimnnacjbdfaaDoorTie.lean); close each card by the builder's one call (the guide's Derived/Test/ToyasCard.lean, 'card_holds'). Laid BY PROGRAM, IN A SANDBOX (cutbox-door.mjs). By AI agents, Wed Nov 11 2026. No macro, syntax, notation, axiom, sorry.
-/
import Derived.Test.YtmbimnnacjbdfaaDoorRows
import GoSem.ClaimSeven
namespace Go.Proofs.YtmbimnnacjbdfaaDoor
namespace Rows

/-- THE TIED CARD OF 'paxtarlaw13.TreeCanonIsCanonical'. -/
def treeCanonIsCanonicalCard : Claim7 := { stood := { row := treeCanonIsCanonicalRow, standIns := [], harness := (true, "097e1eed3a0836d49ba29dd8a4d6be2a572f47c6ec2c9ea9c58087fde2996f3c"), looks := false }, kinds := [], alts := [], laidByText := true, laidKinds := [.data], laidTests := true, laidLooks := .later }
def TreeCanonIsCanonicalCardSaid : Prop := Claim7.holds Tryd.pinned (.plain (OpenSpec.ofChange treeCanonIsCanonicalSpec)) treeCanonIsCanonicalCard

/-- THE TIED CARD OF 'paxtarlaw13.TreeIsolated'. -/
def treeIsolatedCard : Claim7 := { stood := { row := treeIsolatedRow, standIns := [], harness := (true, "097e1eed3a0836d49ba29dd8a4d6be2a572f47c6ec2c9ea9c58087fde2996f3c"), looks := false }, kinds := [], alts := [], laidByText := true, laidKinds := [.data], laidTests := true, laidLooks := .later }
def TreeIsolatedCardSaid : Prop := Claim7.holds Tryd.pinned (.plain (OpenSpec.ofChange treeIsolatedSpec)) treeIsolatedCard

/-- THE TIED CARD OF 'paxtarlaw14.FlattenMembersMatchReference'. -/
def flattenMembersMatchReferenceCard : Claim7 := { stood := { row := flattenMembersMatchReferenceRow, standIns := [], harness := (true, "097e1eed3a0836d49ba29dd8a4d6be2a572f47c6ec2c9ea9c58087fde2996f3c"), looks := false }, kinds := [], alts := [], laidByText := true, laidKinds := [.data], laidTests := true, laidLooks := .later }
def FlattenMembersMatchReferenceCardSaid : Prop := Claim7.holds Tryd.pinned (.plain (OpenSpec.ofChange flattenMembersMatchReferenceSpec)) flattenMembersMatchReferenceCard

/-- THE TIED CARD OF 'paxtarlaw14.FlattenDependsOnTree'. -/
def flattenDependsOnTreeCard : Claim7 := { stood := { row := flattenDependsOnTreeRow, standIns := [], harness := (true, "097e1eed3a0836d49ba29dd8a4d6be2a572f47c6ec2c9ea9c58087fde2996f3c"), looks := false }, kinds := [], alts := [], laidByText := true, laidKinds := [.data], laidTests := true, laidLooks := .later }
def FlattenDependsOnTreeCardSaid : Prop := Claim7.holds Tryd.pinned (.plain (OpenSpec.ofChange flattenDependsOnTreeSpec)) flattenDependsOnTreeCard

/-- THE TIED CARD OF 'paxtarlaw14.FlattenHardLinks'. -/
def flattenHardLinksCard : Claim7 := { stood := { row := flattenHardLinksRow, standIns := [], harness := (true, "097e1eed3a0836d49ba29dd8a4d6be2a572f47c6ec2c9ea9c58087fde2996f3c"), looks := false }, kinds := [], alts := [], laidByText := true, laidKinds := [.data], laidTests := true, laidLooks := .later }
def FlattenHardLinksCardSaid : Prop := Claim7.holds Tryd.pinned (.plain (OpenSpec.ofChange flattenHardLinksSpec)) flattenHardLinksCard

/-- THE SECOND FORM's CARD OF 'paxtarlaw13.TreeCanonIsCanonical'. -/
def treeCanonIsCanonicalUptoCard : Claim7 := { stood := { row := treeCanonIsCanonicalUptoRow, standIns := [], harness := (true, "097e1eed3a0836d49ba29dd8a4d6be2a572f47c6ec2c9ea9c58087fde2996f3c"), looks := false }, kinds := [], alts := [], laidByText := true, laidKinds := [.data], laidTests := true, laidLooks := .later }
def TreeCanonIsCanonicalUptoCardSaid : Prop := Claim7.holds Tryd.pinned (.plain (OpenSpec.upto treeCanonIsCanonicalSpec)) treeCanonIsCanonicalUptoCard

/-- THE SECOND FORM's CARD OF 'paxtarlaw13.TreeIsolated'. -/
def treeIsolatedUptoCard : Claim7 := { stood := { row := treeIsolatedUptoRow, standIns := [], harness := (true, "097e1eed3a0836d49ba29dd8a4d6be2a572f47c6ec2c9ea9c58087fde2996f3c"), looks := false }, kinds := [], alts := [], laidByText := true, laidKinds := [.data], laidTests := true, laidLooks := .later }
def TreeIsolatedUptoCardSaid : Prop := Claim7.holds Tryd.pinned (.plain (OpenSpec.upto treeIsolatedSpec)) treeIsolatedUptoCard

/-- THE SECOND FORM's CARD OF 'paxtarlaw14.FlattenMembersMatchReference'. -/
def flattenMembersMatchReferenceUptoCard : Claim7 := { stood := { row := flattenMembersMatchReferenceUptoRow, standIns := [], harness := (true, "097e1eed3a0836d49ba29dd8a4d6be2a572f47c6ec2c9ea9c58087fde2996f3c"), looks := false }, kinds := [], alts := [], laidByText := true, laidKinds := [.data], laidTests := true, laidLooks := .later }
def FlattenMembersMatchReferenceUptoCardSaid : Prop := Claim7.holds Tryd.pinned (.plain (OpenSpec.upto flattenMembersMatchReferenceSpec)) flattenMembersMatchReferenceUptoCard

/-- THE SECOND FORM's CARD OF 'paxtarlaw14.FlattenDependsOnTree'. -/
def flattenDependsOnTreeUptoCard : Claim7 := { stood := { row := flattenDependsOnTreeUptoRow, standIns := [], harness := (true, "097e1eed3a0836d49ba29dd8a4d6be2a572f47c6ec2c9ea9c58087fde2996f3c"), looks := false }, kinds := [], alts := [], laidByText := true, laidKinds := [.data], laidTests := true, laidLooks := .later }
def FlattenDependsOnTreeUptoCardSaid : Prop := Claim7.holds Tryd.pinned (.plain (OpenSpec.upto flattenDependsOnTreeSpec)) flattenDependsOnTreeUptoCard

/-- THE SECOND FORM's CARD OF 'paxtarlaw14.FlattenHardLinks'. -/
def flattenHardLinksUptoCard : Claim7 := { stood := { row := flattenHardLinksUptoRow, standIns := [], harness := (true, "097e1eed3a0836d49ba29dd8a4d6be2a572f47c6ec2c9ea9c58087fde2996f3c"), looks := false }, kinds := [], alts := [], laidByText := true, laidKinds := [.data], laidTests := true, laidLooks := .later }
def FlattenHardLinksUptoCardSaid : Prop := Claim7.holds Tryd.pinned (.plain (OpenSpec.upto flattenHardLinksSpec)) flattenHardLinksUptoCard
end Rows
end Go.Proofs.YtmbimnnacjbdfaaDoor
