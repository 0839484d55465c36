/-
  No cell of these rows narrows 'for every input' (looked for: loops, veiled, ifaces, maps, wideKeys, modest, calm, conditions, laid).
  DERIVED. THE GIVEN ROWS OF THIS SEAT. 5 by the template 'for every input the law returns true; each argument reads behind the call as it read before'; 0 by the template 'total and deterministic' (their statements: YtnnengigahakaaaTotals.lean).
  GIVEN WITH THE SEED: the statements are not yours to turn. If you find one false, say at which input.
  Laid BY PROGRAM, IN A SANDBOX (cutbox-rows.mjs): the forced cells as the released guide's own fill.sh prints them over the translation 1a62816e333d2afd… (all of the seat's roots in one cut). By AI agents, Wed Nov 11 2026. No macro, syntax, notation, axiom, sorry.
-/
import Derived.Test.YtnnengigahakaaaChecked
import GoSem.Claim
import GoSem.ClaimJoined
import GoSem.ClaimMapViews
import Derived.JoinedTies
import Derived.KernelRfl
namespace Go.Proofs.Ytnnengigahakaaa
/- THE CELL 'sum', in the pinned program and in every row, IS THE sha256 OF THE DUMP (.gsa) THAT YtnnengigahakaaaProg.lean LOADS. Nothing in Lean hashes anything: it is a label: what it is worth is what the hold of that sum in a sandbox is worth. -/
noncomputable def Try.pinned : Pinned := { name := "ytnnengigahakaaa", sum := "1a62816e333d2afd3fe9219f1ffe52f8bf1702899929dcd1e8725daaf9b7576b", checked := Try.checked }
namespace Rows
def none {H : Type} : Left H := { results := [], args := [] }

/-- 'paxtarlaw11.PayloadReadMatchesReference': WHATEVER THE INPUT: true; the input reads as it did. -/
def payloadReadMatchesReferenceSpec : ChangeSpec := { name := "payloadReadMatchesReference", fn := fun _ => fun
  | [d1, d2, d3] => { results := [.lit (.bool true)], args := [d1, d2, d3] }
  | _ => none }
def payloadReadMatchesReferenceRow : OpenClaim := { program := "ytnnengigahakaaa", sum := "1a62816e333d2afd3fe9219f1ffe52f8bf1702899929dcd1e8725daaf9b7576b", func := "paxtar/paxtarlaw11.PayloadReadMatchesReference", spec := "payloadReadMatchesReference", unfollowed := true, recurses := true, apart := false }
def PayloadReadMatchesReferenceSaid : Prop := payloadReadMatchesReferenceRow.holds Try.pinned (OpenSpec.ofChange payloadReadMatchesReferenceSpec)

/-- ITS FALSE NEIGHBOUR: 'it returns false'. Refute it at one input. -/
def payloadReadMatchesReferenceWrong : ChangeSpec := { name := "payloadReadMatchesReference", fn := fun _ => fun
  | [d1, d2, d3] => { results := [.lit (.bool false)], args := [d1, d2, d3] }
  | _ => none }
def PayloadReadMatchesReferenceWrongFalsely : Prop := payloadReadMatchesReferenceRow.holds Try.pinned (OpenSpec.ofChange payloadReadMatchesReferenceWrong)

/-- 'paxtarlaw11.PayloadRoundTrip': WHATEVER THE INPUT: true; the input reads as it did. -/
def payloadRoundTripSpec : ChangeSpec := { name := "payloadRoundTrip", fn := fun _ => fun
  | [d1, d2, d3] => { results := [.lit (.bool true)], args := [d1, d2, d3] }
  | _ => none }
def payloadRoundTripRow : OpenClaim := { program := "ytnnengigahakaaa", sum := "1a62816e333d2afd3fe9219f1ffe52f8bf1702899929dcd1e8725daaf9b7576b", func := "paxtar/paxtarlaw11.PayloadRoundTrip", spec := "payloadRoundTrip", unfollowed := true, recurses := true, apart := false }
def PayloadRoundTripSaid : Prop := payloadRoundTripRow.holds Try.pinned (OpenSpec.ofChange payloadRoundTripSpec)

/-- ITS FALSE NEIGHBOUR: 'it returns false'. Refute it at one input. -/
def payloadRoundTripWrong : ChangeSpec := { name := "payloadRoundTrip", fn := fun _ => fun
  | [d1, d2, d3] => { results := [.lit (.bool false)], args := [d1, d2, d3] }
  | _ => none }
def PayloadRoundTripWrongFalsely : Prop := payloadRoundTripRow.holds Try.pinned (OpenSpec.ofChange payloadRoundTripWrong)

/-- 'paxtarlaw11.PayloadLargeSize': WHATEVER THE INPUT: true; the input reads as it did. -/
def payloadLargeSizeSpec : ChangeSpec := { name := "payloadLargeSize", fn := fun _ => fun
  | [d1, d2] => { results := [.lit (.bool true)], args := [d1, d2] }
  | _ => none }
def payloadLargeSizeRow : OpenClaim := { program := "ytnnengigahakaaa", sum := "1a62816e333d2afd3fe9219f1ffe52f8bf1702899929dcd1e8725daaf9b7576b", func := "paxtar/paxtarlaw11.PayloadLargeSize", spec := "payloadLargeSize", unfollowed := true, recurses := true, apart := false }
def PayloadLargeSizeSaid : Prop := payloadLargeSizeRow.holds Try.pinned (OpenSpec.ofChange payloadLargeSizeSpec)

/-- ITS FALSE NEIGHBOUR: 'it returns false'. Refute it at one input. -/
def payloadLargeSizeWrong : ChangeSpec := { name := "payloadLargeSize", fn := fun _ => fun
  | [d1, d2] => { results := [.lit (.bool false)], args := [d1, d2] }
  | _ => none }
def PayloadLargeSizeWrongFalsely : Prop := payloadLargeSizeRow.holds Try.pinned (OpenSpec.ofChange payloadLargeSizeWrong)

/-- 'paxtarlaw11.PayloadConsecutive': WHATEVER THE INPUT: true; the input reads as it did. -/
def payloadConsecutiveSpec : ChangeSpec := { name := "payloadConsecutive", fn := fun _ => fun
  | [d1, d2] => { results := [.lit (.bool true)], args := [d1, d2] }
  | _ => none }
def payloadConsecutiveRow : OpenClaim := { program := "ytnnengigahakaaa", sum := "1a62816e333d2afd3fe9219f1ffe52f8bf1702899929dcd1e8725daaf9b7576b", func := "paxtar/paxtarlaw11.PayloadConsecutive", spec := "payloadConsecutive", unfollowed := true, recurses := true, apart := false }
def PayloadConsecutiveSaid : Prop := payloadConsecutiveRow.holds Try.pinned (OpenSpec.ofChange payloadConsecutiveSpec)

/-- ITS FALSE NEIGHBOUR: 'it returns false'. Refute it at one input. -/
def payloadConsecutiveWrong : ChangeSpec := { name := "payloadConsecutive", fn := fun _ => fun
  | [d1, d2] => { results := [.lit (.bool false)], args := [d1, d2] }
  | _ => none }
def PayloadConsecutiveWrongFalsely : Prop := payloadConsecutiveRow.holds Try.pinned (OpenSpec.ofChange payloadConsecutiveWrong)

/-- 'paxtarlaw11.PayloadBlocksIsLeast': WHATEVER THE INPUT: true; the input reads as it did. -/
def payloadBlocksIsLeastSpec : ChangeSpec := { name := "payloadBlocksIsLeast", fn := fun _ => fun
  | [d] => { results := [.lit (.bool true)], args := [d] }
  | _ => none }
def payloadBlocksIsLeastRow : OpenClaim := { program := "ytnnengigahakaaa", sum := "1a62816e333d2afd3fe9219f1ffe52f8bf1702899929dcd1e8725daaf9b7576b", func := "paxtar/paxtarlaw11.PayloadBlocksIsLeast", spec := "payloadBlocksIsLeast", apart := false }
def PayloadBlocksIsLeastSaid : Prop := payloadBlocksIsLeastRow.holds Try.pinned (OpenSpec.ofChange payloadBlocksIsLeastSpec)

/-- ITS FALSE NEIGHBOUR: 'it returns false'. Refute it at one input. -/
def payloadBlocksIsLeastWrong : ChangeSpec := { name := "payloadBlocksIsLeast", fn := fun _ => fun
  | [d] => { results := [.lit (.bool false)], args := [d] }
  | _ => none }
def PayloadBlocksIsLeastWrongFalsely : Prop := payloadBlocksIsLeastRow.holds Try.pinned (OpenSpec.ofChange payloadBlocksIsLeastWrong)

/- THE SECOND FORM. 'bulk': how many values and letters a reading holds, each counted each time it is reached (what is shared counts as often as it is met; a slice's spare places count too). A statement '..UptoSaid' is the law's where the arguments, and the package variables that the reading takes, are together of bulk at most 1048576: NARROWER than '..Said'. Prove '..Said' where nothing that the law and all that it calls make is longer than what came in: it says more and counts as full. Else prove '..UptoSaid'. A law counts once. -/
mutual
def uptoBulk {H : Type} : DataW H → Nat
  | .lit (.string bytes) => bytes.length + 1
  | .lit _ => 1
  | .nil => 1
  | .ptr d => uptoBulk d + 1
  | .slice elems spare => uptoBulkAll elems + uptoBulkAll spare + 1
  | .agg parts => uptoBulkAll parts + 1
  | .iface _ d => uptoBulk d + 1
  | .map entries => uptoBulkEntries entries + 1
  | .held _ => 1
def uptoBulkAll {H : Type} : List (DataW H) → Nat
  | [] => 0
  | d :: r => uptoBulk d + uptoBulkAll r
def uptoBulkEntries {H : Type} : List (Lit × DataW H) → Nat
  | [] => 0
  | x :: r => uptoBulkEntry x + uptoBulkEntries r
def uptoBulkEntry {H : Type} : Lit × DataW H → Nat
  | (.string bytes, d) => bytes.length + uptoBulk d + 1
  | (_, d) => uptoBulk d + 1
 end
def uptoSmall : (H : Type) → List (DataW H) → Bool := fun _ ds => decide (uptoBulkAll ds ≤ 1048576)
def OpenSpec.upto (s : _root_.Go.ChangeSpec) : _root_.Go.OpenSpec := { _root_.Go.OpenSpec.ofChange s with cond := some uptoSmall }

/-- 'paxtarlaw11.PayloadReadMatchesReference', WHERE WHAT IT READS IS OF BULK AT MOST 1048576: true; the input reads as it did. -/
def payloadReadMatchesReferenceUptoRow : OpenClaim := { program := "ytnnengigahakaaa", sum := "1a62816e333d2afd3fe9219f1ffe52f8bf1702899929dcd1e8725daaf9b7576b", func := "paxtar/paxtarlaw11.PayloadReadMatchesReference", spec := "payloadReadMatchesReference", unfollowed := true, recurses := true, apart := false, narrowed := true }
def PayloadReadMatchesReferenceUptoSaid : Prop := payloadReadMatchesReferenceUptoRow.holds Try.pinned (OpenSpec.upto payloadReadMatchesReferenceSpec)

/-- 'paxtarlaw11.PayloadRoundTrip', WHERE WHAT IT READS IS OF BULK AT MOST 1048576: true; the input reads as it did. -/
def payloadRoundTripUptoRow : OpenClaim := { program := "ytnnengigahakaaa", sum := "1a62816e333d2afd3fe9219f1ffe52f8bf1702899929dcd1e8725daaf9b7576b", func := "paxtar/paxtarlaw11.PayloadRoundTrip", spec := "payloadRoundTrip", unfollowed := true, recurses := true, apart := false, narrowed := true }
def PayloadRoundTripUptoSaid : Prop := payloadRoundTripUptoRow.holds Try.pinned (OpenSpec.upto payloadRoundTripSpec)

/-- 'paxtarlaw11.PayloadLargeSize', WHERE WHAT IT READS IS OF BULK AT MOST 1048576: true; the input reads as it did. -/
def payloadLargeSizeUptoRow : OpenClaim := { program := "ytnnengigahakaaa", sum := "1a62816e333d2afd3fe9219f1ffe52f8bf1702899929dcd1e8725daaf9b7576b", func := "paxtar/paxtarlaw11.PayloadLargeSize", spec := "payloadLargeSize", unfollowed := true, recurses := true, apart := false, narrowed := true }
def PayloadLargeSizeUptoSaid : Prop := payloadLargeSizeUptoRow.holds Try.pinned (OpenSpec.upto payloadLargeSizeSpec)

/-- 'paxtarlaw11.PayloadConsecutive', WHERE WHAT IT READS IS OF BULK AT MOST 1048576: true; the input reads as it did. -/
def payloadConsecutiveUptoRow : OpenClaim := { program := "ytnnengigahakaaa", sum := "1a62816e333d2afd3fe9219f1ffe52f8bf1702899929dcd1e8725daaf9b7576b", func := "paxtar/paxtarlaw11.PayloadConsecutive", spec := "payloadConsecutive", unfollowed := true, recurses := true, apart := false, narrowed := true }
def PayloadConsecutiveUptoSaid : Prop := payloadConsecutiveUptoRow.holds Try.pinned (OpenSpec.upto payloadConsecutiveSpec)

/-- 'paxtarlaw11.PayloadBlocksIsLeast', WHERE WHAT IT READS IS OF BULK AT MOST 1048576: true; the input reads as it did. -/
def payloadBlocksIsLeastUptoRow : OpenClaim := { program := "ytnnengigahakaaa", sum := "1a62816e333d2afd3fe9219f1ffe52f8bf1702899929dcd1e8725daaf9b7576b", func := "paxtar/paxtarlaw11.PayloadBlocksIsLeast", spec := "payloadBlocksIsLeast", apart := false, narrowed := true }
def PayloadBlocksIsLeastUptoSaid : Prop := payloadBlocksIsLeastUptoRow.holds Try.pinned (OpenSpec.upto payloadBlocksIsLeastSpec)

end Rows
end Go.Proofs.Ytnnengigahakaaa
