/-
  No cell of these rows narrows 'for every input' (looked for: loops, veiled, ifaces, maps, wideKeys, modest, calm, conditions, laid).
  DERIVED. THE GIVEN ROWS OF THIS SEAT. 3 by the template 'for every input the law returns true; each argument reads behind the call as it read before'; 0 by the template 'total and deterministic' (their statements: YtbchehpjimgapaaTotals.lean).
  GIVEN WITH THE SEED: the statements are not yours to turn. If you find one false, say at which input.
  Laid BY PROGRAM, IN A SANDBOX (cutbox-rows.mjs): the forced cells as the released guide's own fill.sh prints them over the translation 3fab4039a48bac97… (all of the seat's roots in one cut). By AI agents, Wed Nov 11 2026. No macro, syntax, notation, axiom, sorry.
-/
import Derived.Test.YtbchehpjimgapaaChecked
import GoSem.Claim
import GoSem.ClaimJoined
import GoSem.ClaimMapViews
import Derived.JoinedTies
import Derived.KernelRfl
namespace Go.Proofs.Ytbchehpjimgapaa
/- THE CELL 'sum', in the pinned program and in every row, IS THE sha256 OF THE DUMP (.gsa) THAT YtbchehpjimgapaaProg.lean LOADS. Nothing in Lean hashes anything: it is a label: what it is worth is what the hold of that sum in a sandbox is worth. -/
noncomputable def Try.pinned : Pinned := { name := "ytbchehpjimgapaa", sum := "3fab4039a48bac97fe406c389a06e71022f57d4ec4dec8cc024191b7bf6bd9f0", checked := Try.checked }
namespace Rows
def none {H : Type} : Left H := { results := [], args := [] }

/-- 'paxtarlaw02.CstringFormatMatchesReference': WHATEVER THE INPUT: true; the input reads as it did. -/
def cstringFormatMatchesReferenceSpec : ChangeSpec := { name := "cstringFormatMatchesReference", fn := fun _ => fun
  | [d1, d2] => { results := [.lit (.bool true)], args := [d1, d2] }
  | _ => none }
def cstringFormatMatchesReferenceRow : OpenClaim := { program := "ytbchehpjimgapaa", sum := "3fab4039a48bac97fe406c389a06e71022f57d4ec4dec8cc024191b7bf6bd9f0", func := "paxtar/paxtarlaw02.CstringFormatMatchesReference", spec := "cstringFormatMatchesReference", inPlace := ["internal/bytealg.IndexByteString"], apart := false }
def CstringFormatMatchesReferenceSaid : Prop := cstringFormatMatchesReferenceRow.holds Try.pinned (OpenSpec.ofChange cstringFormatMatchesReferenceSpec)

/-- ITS FALSE NEIGHBOUR: 'it returns false'. Refute it at one input. -/
def cstringFormatMatchesReferenceWrong : ChangeSpec := { name := "cstringFormatMatchesReference", fn := fun _ => fun
  | [d1, d2] => { results := [.lit (.bool false)], args := [d1, d2] }
  | _ => none }
def CstringFormatMatchesReferenceWrongFalsely : Prop := cstringFormatMatchesReferenceRow.holds Try.pinned (OpenSpec.ofChange cstringFormatMatchesReferenceWrong)

/-- 'paxtarlaw02.CstringWidths': WHATEVER THE INPUT: true; the input reads as it did. -/
def cstringWidthsSpec : ChangeSpec := { name := "cstringWidths", fn := fun _ => fun
  | [d1, d2, d3] => { results := [.lit (.bool true)], args := [d1, d2, d3] }
  | _ => none }
def cstringWidthsRow : OpenClaim := { program := "ytbchehpjimgapaa", sum := "3fab4039a48bac97fe406c389a06e71022f57d4ec4dec8cc024191b7bf6bd9f0", func := "paxtar/paxtarlaw02.CstringWidths", spec := "cstringWidths", inPlace := ["internal/bytealg.IndexByteString", "internal/bytealg.IndexString", "internal/abi.NoEscape", "internal/bytealg.MakeNoZero"], named := ["internal/bytealg.MaxLen"], apart := false }
def CstringWidthsSaid : Prop := cstringWidthsRow.holds Try.pinned (OpenSpec.ofChange cstringWidthsSpec)

/-- ITS FALSE NEIGHBOUR: 'it returns false'. Refute it at one input. -/
def cstringWidthsWrong : ChangeSpec := { name := "cstringWidths", fn := fun _ => fun
  | [d1, d2, d3] => { results := [.lit (.bool false)], args := [d1, d2, d3] }
  | _ => none }
def CstringWidthsWrongFalsely : Prop := cstringWidthsRow.holds Try.pinned (OpenSpec.ofChange cstringWidthsWrong)

/-- 'paxtarlaw02.CstringMaximalWidth': WHATEVER THE INPUT: true; the input reads as it did. -/
def cstringMaximalWidthSpec : ChangeSpec := { name := "cstringMaximalWidth", fn := fun _ => fun
  | [d] => { results := [.lit (.bool true)], args := [d] }
  | _ => none }
def cstringMaximalWidthRow : OpenClaim := { program := "ytbchehpjimgapaa", sum := "3fab4039a48bac97fe406c389a06e71022f57d4ec4dec8cc024191b7bf6bd9f0", func := "paxtar/paxtarlaw02.CstringMaximalWidth", spec := "cstringMaximalWidth", inPlace := ["internal/abi.NoEscape", "internal/bytealg.MakeNoZero", "internal/bytealg.IndexByteString"], apart := false }
def CstringMaximalWidthSaid : Prop := cstringMaximalWidthRow.holds Try.pinned (OpenSpec.ofChange cstringMaximalWidthSpec)

/-- ITS FALSE NEIGHBOUR: 'it returns false'. Refute it at one input. -/
def cstringMaximalWidthWrong : ChangeSpec := { name := "cstringMaximalWidth", fn := fun _ => fun
  | [d] => { results := [.lit (.bool false)], args := [d] }
  | _ => none }
def CstringMaximalWidthWrongFalsely : Prop := cstringMaximalWidthRow.holds Try.pinned (OpenSpec.ofChange cstringMaximalWidthWrong)

/- THE SECOND FORM. 'bulk': how many values and letters a reading holds, each counted each time it is reached (what is shared counts as often as it is met; a slice's spare places count too). A statement '..UptoSaid' is the law's where the arguments, and the package variables that the reading takes, are together of bulk at most 1048576: NARROWER than '..Said'. Prove '..Said' where nothing that the law and all that it calls make is longer than what came in: it says more and counts as full. Else prove '..UptoSaid'. A law counts once. -/
mutual
def uptoBulk {H : Type} : DataW H → Nat
  | .lit (.string bytes) => bytes.length + 1
  | .lit _ => 1
  | .nil => 1
  | .ptr d => uptoBulk d + 1
  | .slice elems spare => uptoBulkAll elems + uptoBulkAll spare + 1
  | .agg parts => uptoBulkAll parts + 1
  | .iface _ d => uptoBulk d + 1
  | .map entries => uptoBulkEntries entries + 1
  | .held _ => 1
def uptoBulkAll {H : Type} : List (DataW H) → Nat
  | [] => 0
  | d :: r => uptoBulk d + uptoBulkAll r
def uptoBulkEntries {H : Type} : List (Lit × DataW H) → Nat
  | [] => 0
  | x :: r => uptoBulkEntry x + uptoBulkEntries r
def uptoBulkEntry {H : Type} : Lit × DataW H → Nat
  | (.string bytes, d) => bytes.length + uptoBulk d + 1
  | (_, d) => uptoBulk d + 1
 end
def uptoSmall : (H : Type) → List (DataW H) → Bool := fun _ ds => decide (uptoBulkAll ds ≤ 1048576)
def OpenSpec.upto (s : _root_.Go.ChangeSpec) : _root_.Go.OpenSpec := { _root_.Go.OpenSpec.ofChange s with cond := some uptoSmall }

/-- 'paxtarlaw02.CstringFormatMatchesReference', WHERE WHAT IT READS IS OF BULK AT MOST 1048576: true; the input reads as it did. -/
def cstringFormatMatchesReferenceUptoRow : OpenClaim := { program := "ytbchehpjimgapaa", sum := "3fab4039a48bac97fe406c389a06e71022f57d4ec4dec8cc024191b7bf6bd9f0", func := "paxtar/paxtarlaw02.CstringFormatMatchesReference", spec := "cstringFormatMatchesReference", inPlace := ["internal/bytealg.IndexByteString"], apart := false, narrowed := true }
def CstringFormatMatchesReferenceUptoSaid : Prop := cstringFormatMatchesReferenceUptoRow.holds Try.pinned (OpenSpec.upto cstringFormatMatchesReferenceSpec)

/-- 'paxtarlaw02.CstringWidths', WHERE WHAT IT READS IS OF BULK AT MOST 1048576: true; the input reads as it did. -/
def cstringWidthsUptoRow : OpenClaim := { program := "ytbchehpjimgapaa", sum := "3fab4039a48bac97fe406c389a06e71022f57d4ec4dec8cc024191b7bf6bd9f0", func := "paxtar/paxtarlaw02.CstringWidths", spec := "cstringWidths", inPlace := ["internal/bytealg.IndexByteString", "internal/bytealg.IndexString", "internal/abi.NoEscape", "internal/bytealg.MakeNoZero"], named := ["internal/bytealg.MaxLen"], apart := false, narrowed := true }
def CstringWidthsUptoSaid : Prop := cstringWidthsUptoRow.holds Try.pinned (OpenSpec.upto cstringWidthsSpec)

/-- 'paxtarlaw02.CstringMaximalWidth', WHERE WHAT IT READS IS OF BULK AT MOST 1048576: true; the input reads as it did. -/
def cstringMaximalWidthUptoRow : OpenClaim := { program := "ytbchehpjimgapaa", sum := "3fab4039a48bac97fe406c389a06e71022f57d4ec4dec8cc024191b7bf6bd9f0", func := "paxtar/paxtarlaw02.CstringMaximalWidth", spec := "cstringMaximalWidth", inPlace := ["internal/abi.NoEscape", "internal/bytealg.MakeNoZero", "internal/bytealg.IndexByteString"], apart := false, narrowed := true }
def CstringMaximalWidthUptoSaid : Prop := cstringMaximalWidthUptoRow.holds Try.pinned (OpenSpec.upto cstringMaximalWidthSpec)

end Rows
end Go.Proofs.Ytbchehpjimgapaa
