/-
  No cell of these rows narrows 'for every input' (looked for: loops, veiled, ifaces, maps, wideKeys, modest, calm, conditions, laid).
  DERIVED. THE GIVEN ROWS OF THIS SEAT. 5 by the template 'for every input the law returns true; each argument reads behind the call as it read before'; 0 by the template 'total and deterministic' (their statements: YtodohdhbnihdbaaTotals.lean).
  GIVEN WITH THE SEED: the statements are not yours to turn. If you find one false, say at which input.
  Laid BY PROGRAM, IN A SANDBOX (cutbox-rows.mjs): the forced cells as the released guide's own fill.sh prints them over the translation c2289c472f48e533… (all of the seat's roots in one cut). By AI agents, Wed Nov 11 2026. No macro, syntax, notation, axiom, sorry.
-/
import Derived.Test.YtodohdhbnihdbaaChecked
import GoSem.Claim
import GoSem.ClaimJoined
import GoSem.ClaimMapViews
import Derived.JoinedTies
import Derived.KernelRfl
namespace Go.Proofs.Ytodohdhbnihdbaa
/- THE CELL 'sum', in the pinned program and in every row, IS THE sha256 OF THE DUMP (.gsa) THAT YtodohdhbnihdbaaProg.lean LOADS. Nothing in Lean hashes anything: it is a label: what it is worth is what the hold of that sum in a sandbox is worth. -/
noncomputable def Try.pinned : Pinned := { name := "ytodohdhbnihdbaa", sum := "c2289c472f48e533e86e34584340222874797ba9acce407e983cac6411aa6131", checked := Try.checked }
namespace Rows
def none {H : Type} : Left H := { results := [], args := [] }

/-- 'paxtarlaw05.SinkMatchesReference': WHATEVER THE INPUT: true; the input reads as it did. -/
def sinkMatchesReferenceSpec : ChangeSpec := { name := "sinkMatchesReference", fn := fun _ => fun
  | [d1, d2, d3] => { results := [.lit (.bool true)], args := [d1, d2, d3] }
  | _ => none }
def sinkMatchesReferenceRow : OpenClaim := { program := "ytodohdhbnihdbaa", sum := "c2289c472f48e533e86e34584340222874797ba9acce407e983cac6411aa6131", func := "paxtar/paxtarlaw05.SinkMatchesReference", spec := "sinkMatchesReference", apart := false }
def SinkMatchesReferenceSaid : Prop := sinkMatchesReferenceRow.holds Try.pinned (OpenSpec.ofChange sinkMatchesReferenceSpec)

/-- ITS FALSE NEIGHBOUR: 'it returns false'. Refute it at one input. -/
def sinkMatchesReferenceWrong : ChangeSpec := { name := "sinkMatchesReference", fn := fun _ => fun
  | [d1, d2, d3] => { results := [.lit (.bool false)], args := [d1, d2, d3] }
  | _ => none }
def SinkMatchesReferenceWrongFalsely : Prop := sinkMatchesReferenceRow.holds Try.pinned (OpenSpec.ofChange sinkMatchesReferenceWrong)

/-- 'paxtarlaw05.SinkKeepsPrefix': WHATEVER THE INPUT: true; the input reads as it did. -/
def sinkKeepsPrefixSpec : ChangeSpec := { name := "sinkKeepsPrefix", fn := fun _ => fun
  | [d1, d2] => { results := [.lit (.bool true)], args := [d1, d2] }
  | _ => none }
def sinkKeepsPrefixRow : OpenClaim := { program := "ytodohdhbnihdbaa", sum := "c2289c472f48e533e86e34584340222874797ba9acce407e983cac6411aa6131", func := "paxtar/paxtarlaw05.SinkKeepsPrefix", spec := "sinkKeepsPrefix", apart := false }
def SinkKeepsPrefixSaid : Prop := sinkKeepsPrefixRow.holds Try.pinned (OpenSpec.ofChange sinkKeepsPrefixSpec)

/-- ITS FALSE NEIGHBOUR: 'it returns false'. Refute it at one input. -/
def sinkKeepsPrefixWrong : ChangeSpec := { name := "sinkKeepsPrefix", fn := fun _ => fun
  | [d1, d2] => { results := [.lit (.bool false)], args := [d1, d2] }
  | _ => none }
def SinkKeepsPrefixWrongFalsely : Prop := sinkKeepsPrefixRow.holds Try.pinned (OpenSpec.ofChange sinkKeepsPrefixWrong)

/-- 'paxtarlaw05.SinkIsolated': WHATEVER THE INPUT: true; the input reads as it did. -/
def sinkIsolatedSpec : ChangeSpec := { name := "sinkIsolated", fn := fun _ => fun
  | [d1, d2] => { results := [.lit (.bool true)], args := [d1, d2] }
  | _ => none }
def sinkIsolatedRow : OpenClaim := { program := "ytodohdhbnihdbaa", sum := "c2289c472f48e533e86e34584340222874797ba9acce407e983cac6411aa6131", func := "paxtar/paxtarlaw05.SinkIsolated", spec := "sinkIsolated", apart := false }
def SinkIsolatedSaid : Prop := sinkIsolatedRow.holds Try.pinned (OpenSpec.ofChange sinkIsolatedSpec)

/-- ITS FALSE NEIGHBOUR: 'it returns false'. Refute it at one input. -/
def sinkIsolatedWrong : ChangeSpec := { name := "sinkIsolated", fn := fun _ => fun
  | [d1, d2] => { results := [.lit (.bool false)], args := [d1, d2] }
  | _ => none }
def SinkIsolatedWrongFalsely : Prop := sinkIsolatedRow.holds Try.pinned (OpenSpec.ofChange sinkIsolatedWrong)

/-- 'paxtarlaw05.SinkWriteAllSplits': WHATEVER THE INPUT: true; the input reads as it did. -/
def sinkWriteAllSplitsSpec : ChangeSpec := { name := "sinkWriteAllSplits", fn := fun _ => fun
  | [d1, d2] => { results := [.lit (.bool true)], args := [d1, d2] }
  | _ => none }
def sinkWriteAllSplitsRow : OpenClaim := { program := "ytodohdhbnihdbaa", sum := "c2289c472f48e533e86e34584340222874797ba9acce407e983cac6411aa6131", func := "paxtar/paxtarlaw05.SinkWriteAllSplits", spec := "sinkWriteAllSplits", apart := false }
def SinkWriteAllSplitsSaid : Prop := sinkWriteAllSplitsRow.holds Try.pinned (OpenSpec.ofChange sinkWriteAllSplitsSpec)

/-- ITS FALSE NEIGHBOUR: 'it returns false'. Refute it at one input. -/
def sinkWriteAllSplitsWrong : ChangeSpec := { name := "sinkWriteAllSplits", fn := fun _ => fun
  | [d1, d2] => { results := [.lit (.bool false)], args := [d1, d2] }
  | _ => none }
def SinkWriteAllSplitsWrongFalsely : Prop := sinkWriteAllSplitsRow.holds Try.pinned (OpenSpec.ofChange sinkWriteAllSplitsWrong)

/-- 'paxtarlaw05.SinkChunkSizes': WHATEVER THE INPUT: true; the input reads as it did. -/
def sinkChunkSizesSpec : ChangeSpec := { name := "sinkChunkSizes", fn := fun _ => fun
  | [d1, d2] => { results := [.lit (.bool true)], args := [d1, d2] }
  | _ => none }
def sinkChunkSizesRow : OpenClaim := { program := "ytodohdhbnihdbaa", sum := "c2289c472f48e533e86e34584340222874797ba9acce407e983cac6411aa6131", func := "paxtar/paxtarlaw05.SinkChunkSizes", spec := "sinkChunkSizes", apart := false }
def SinkChunkSizesSaid : Prop := sinkChunkSizesRow.holds Try.pinned (OpenSpec.ofChange sinkChunkSizesSpec)

/-- ITS FALSE NEIGHBOUR: 'it returns false'. Refute it at one input. -/
def sinkChunkSizesWrong : ChangeSpec := { name := "sinkChunkSizes", fn := fun _ => fun
  | [d1, d2] => { results := [.lit (.bool false)], args := [d1, d2] }
  | _ => none }
def SinkChunkSizesWrongFalsely : Prop := sinkChunkSizesRow.holds Try.pinned (OpenSpec.ofChange sinkChunkSizesWrong)

/- THE SECOND FORM. 'bulk': how many values and letters a reading holds, each counted each time it is reached (what is shared counts as often as it is met; a slice's spare places count too). A statement '..UptoSaid' is the law's where the arguments, and the package variables that the reading takes, are together of bulk at most 1048576: NARROWER than '..Said'. Prove '..Said' where nothing that the law and all that it calls make is longer than what came in: it says more and counts as full. Else prove '..UptoSaid'. A law counts once. -/
mutual
def uptoBulk {H : Type} : DataW H → Nat
  | .lit (.string bytes) => bytes.length + 1
  | .lit _ => 1
  | .nil => 1
  | .ptr d => uptoBulk d + 1
  | .slice elems spare => uptoBulkAll elems + uptoBulkAll spare + 1
  | .agg parts => uptoBulkAll parts + 1
  | .iface _ d => uptoBulk d + 1
  | .map entries => uptoBulkEntries entries + 1
  | .held _ => 1
def uptoBulkAll {H : Type} : List (DataW H) → Nat
  | [] => 0
  | d :: r => uptoBulk d + uptoBulkAll r
def uptoBulkEntries {H : Type} : List (Lit × DataW H) → Nat
  | [] => 0
  | x :: r => uptoBulkEntry x + uptoBulkEntries r
def uptoBulkEntry {H : Type} : Lit × DataW H → Nat
  | (.string bytes, d) => bytes.length + uptoBulk d + 1
  | (_, d) => uptoBulk d + 1
 end
def uptoSmall : (H : Type) → List (DataW H) → Bool := fun _ ds => decide (uptoBulkAll ds ≤ 1048576)
def OpenSpec.upto (s : _root_.Go.ChangeSpec) : _root_.Go.OpenSpec := { _root_.Go.OpenSpec.ofChange s with cond := some uptoSmall }

/-- 'paxtarlaw05.SinkMatchesReference', WHERE WHAT IT READS IS OF BULK AT MOST 1048576: true; the input reads as it did. -/
def sinkMatchesReferenceUptoRow : OpenClaim := { program := "ytodohdhbnihdbaa", sum := "c2289c472f48e533e86e34584340222874797ba9acce407e983cac6411aa6131", func := "paxtar/paxtarlaw05.SinkMatchesReference", spec := "sinkMatchesReference", apart := false, narrowed := true }
def SinkMatchesReferenceUptoSaid : Prop := sinkMatchesReferenceUptoRow.holds Try.pinned (OpenSpec.upto sinkMatchesReferenceSpec)

/-- 'paxtarlaw05.SinkKeepsPrefix', WHERE WHAT IT READS IS OF BULK AT MOST 1048576: true; the input reads as it did. -/
def sinkKeepsPrefixUptoRow : OpenClaim := { program := "ytodohdhbnihdbaa", sum := "c2289c472f48e533e86e34584340222874797ba9acce407e983cac6411aa6131", func := "paxtar/paxtarlaw05.SinkKeepsPrefix", spec := "sinkKeepsPrefix", apart := false, narrowed := true }
def SinkKeepsPrefixUptoSaid : Prop := sinkKeepsPrefixUptoRow.holds Try.pinned (OpenSpec.upto sinkKeepsPrefixSpec)

/-- 'paxtarlaw05.SinkIsolated', WHERE WHAT IT READS IS OF BULK AT MOST 1048576: true; the input reads as it did. -/
def sinkIsolatedUptoRow : OpenClaim := { program := "ytodohdhbnihdbaa", sum := "c2289c472f48e533e86e34584340222874797ba9acce407e983cac6411aa6131", func := "paxtar/paxtarlaw05.SinkIsolated", spec := "sinkIsolated", apart := false, narrowed := true }
def SinkIsolatedUptoSaid : Prop := sinkIsolatedUptoRow.holds Try.pinned (OpenSpec.upto sinkIsolatedSpec)

/-- 'paxtarlaw05.SinkWriteAllSplits', WHERE WHAT IT READS IS OF BULK AT MOST 1048576: true; the input reads as it did. -/
def sinkWriteAllSplitsUptoRow : OpenClaim := { program := "ytodohdhbnihdbaa", sum := "c2289c472f48e533e86e34584340222874797ba9acce407e983cac6411aa6131", func := "paxtar/paxtarlaw05.SinkWriteAllSplits", spec := "sinkWriteAllSplits", apart := false, narrowed := true }
def SinkWriteAllSplitsUptoSaid : Prop := sinkWriteAllSplitsUptoRow.holds Try.pinned (OpenSpec.upto sinkWriteAllSplitsSpec)

/-- 'paxtarlaw05.SinkChunkSizes', WHERE WHAT IT READS IS OF BULK AT MOST 1048576: true; the input reads as it did. -/
def sinkChunkSizesUptoRow : OpenClaim := { program := "ytodohdhbnihdbaa", sum := "c2289c472f48e533e86e34584340222874797ba9acce407e983cac6411aa6131", func := "paxtar/paxtarlaw05.SinkChunkSizes", spec := "sinkChunkSizes", apart := false, narrowed := true }
def SinkChunkSizesUptoSaid : Prop := sinkChunkSizesUptoRow.holds Try.pinned (OpenSpec.upto sinkChunkSizesSpec)

end Rows
end Go.Proofs.Ytodohdhbnihdbaa
