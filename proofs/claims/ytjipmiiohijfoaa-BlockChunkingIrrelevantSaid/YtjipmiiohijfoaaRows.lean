/-
  No cell of these rows narrows 'for every input' (looked for: loops, veiled, ifaces, maps, wideKeys, modest, calm, conditions, laid).
  DERIVED. THE GIVEN ROWS OF THIS SEAT. 6 by the template 'for every input the law returns true; each argument reads behind the call as it read before'; 0 by the template 'total and deterministic' (their statements: YtjipmiiohijfoaaTotals.lean).
  GIVEN WITH THE SEED: the statements are not yours to turn. If you find one false, say at which input.
  Laid BY PROGRAM, IN A SANDBOX (cutbox-rows.mjs): the forced cells as the released guide's own fill.sh prints them over the translation 0130748d8dd0f0d9… (all of the seat's roots in one cut). By AI agents, Wed Nov 11 2026. No macro, syntax, notation, axiom, sorry.
-/
import Derived.Test.YtjipmiiohijfoaaChecked
import GoSem.Claim
import GoSem.ClaimJoined
import GoSem.ClaimMapViews
import Derived.JoinedTies
import Derived.KernelRfl
namespace Go.Proofs.Ytjipmiiohijfoaa
/- THE CELL 'sum', in the pinned program and in every row, IS THE sha256 OF THE DUMP (.gsa) THAT YtjipmiiohijfoaaProg.lean LOADS. Nothing in Lean hashes anything: it is a label: what it is worth is what the hold of that sum in a sandbox is worth. -/
noncomputable def Try.pinned : Pinned := { name := "ytjipmiiohijfoaa", sum := "0130748d8dd0f0d94c7e7f70bf269d2dfc4c5622546673e9ed3c0b4aaed90575", checked := Try.checked }
namespace Rows
def none {H : Type} : Left H := { results := [], args := [] }

/-- 'paxtarlaw06.BlockReaderMatchesReference': WHATEVER THE INPUT: true; the input reads as it did. -/
def blockReaderMatchesReferenceSpec : ChangeSpec := { name := "blockReaderMatchesReference", fn := fun _ => fun
  | [d1, d2] => { results := [.lit (.bool true)], args := [d1, d2] }
  | _ => none }
def blockReaderMatchesReferenceRow : OpenClaim := { program := "ytjipmiiohijfoaa", sum := "0130748d8dd0f0d94c7e7f70bf269d2dfc4c5622546673e9ed3c0b4aaed90575", func := "paxtar/paxtarlaw06.BlockReaderMatchesReference", spec := "blockReaderMatchesReference", unfollowed := true, recurses := true, apart := false }
def BlockReaderMatchesReferenceSaid : Prop := blockReaderMatchesReferenceRow.holds Try.pinned (OpenSpec.ofChange blockReaderMatchesReferenceSpec)

/-- ITS FALSE NEIGHBOUR: 'it returns false'. Refute it at one input. -/
def blockReaderMatchesReferenceWrong : ChangeSpec := { name := "blockReaderMatchesReference", fn := fun _ => fun
  | [d1, d2] => { results := [.lit (.bool false)], args := [d1, d2] }
  | _ => none }
def BlockReaderMatchesReferenceWrongFalsely : Prop := blockReaderMatchesReferenceRow.holds Try.pinned (OpenSpec.ofChange blockReaderMatchesReferenceWrong)

/-- 'paxtarlaw06.BlockWriterMatchesReference': WHATEVER THE INPUT: true; the input reads as it did. -/
def blockWriterMatchesReferenceSpec : ChangeSpec := { name := "blockWriterMatchesReference", fn := fun _ => fun
  | [d1, d2] => { results := [.lit (.bool true)], args := [d1, d2] }
  | _ => none }
def blockWriterMatchesReferenceRow : OpenClaim := { program := "ytjipmiiohijfoaa", sum := "0130748d8dd0f0d94c7e7f70bf269d2dfc4c5622546673e9ed3c0b4aaed90575", func := "paxtar/paxtarlaw06.BlockWriterMatchesReference", spec := "blockWriterMatchesReference", unfollowed := true, recurses := true, apart := false }
def BlockWriterMatchesReferenceSaid : Prop := blockWriterMatchesReferenceRow.holds Try.pinned (OpenSpec.ofChange blockWriterMatchesReferenceSpec)

/-- ITS FALSE NEIGHBOUR: 'it returns false'. Refute it at one input. -/
def blockWriterMatchesReferenceWrong : ChangeSpec := { name := "blockWriterMatchesReference", fn := fun _ => fun
  | [d1, d2] => { results := [.lit (.bool false)], args := [d1, d2] }
  | _ => none }
def BlockWriterMatchesReferenceWrongFalsely : Prop := blockWriterMatchesReferenceRow.holds Try.pinned (OpenSpec.ofChange blockWriterMatchesReferenceWrong)

/-- 'paxtarlaw06.BlockNilReceivers': WHATEVER THE INPUT: true; the input reads as it did. -/
def blockNilReceiversSpec : ChangeSpec := { name := "blockNilReceivers", fn := fun _ => fun
  | [d1, d2] => { results := [.lit (.bool true)], args := [d1, d2] }
  | _ => none }
def blockNilReceiversRow : OpenClaim := { program := "ytjipmiiohijfoaa", sum := "0130748d8dd0f0d94c7e7f70bf269d2dfc4c5622546673e9ed3c0b4aaed90575", func := "paxtar/paxtarlaw06.BlockNilReceivers", spec := "blockNilReceivers", unfollowed := true, recurses := true, apart := false }
def BlockNilReceiversSaid : Prop := blockNilReceiversRow.holds Try.pinned (OpenSpec.ofChange blockNilReceiversSpec)

/-- ITS FALSE NEIGHBOUR: 'it returns false'. Refute it at one input. -/
def blockNilReceiversWrong : ChangeSpec := { name := "blockNilReceivers", fn := fun _ => fun
  | [d1, d2] => { results := [.lit (.bool false)], args := [d1, d2] }
  | _ => none }
def BlockNilReceiversWrongFalsely : Prop := blockNilReceiversRow.holds Try.pinned (OpenSpec.ofChange blockNilReceiversWrong)

/-- 'paxtarlaw06.BlockChunkingIrrelevant': WHATEVER THE INPUT: true; the input reads as it did. -/
def blockChunkingIrrelevantSpec : ChangeSpec := { name := "blockChunkingIrrelevant", fn := fun _ => fun
  | [d1, d2, d3] => { results := [.lit (.bool true)], args := [d1, d2, d3] }
  | _ => none }
def blockChunkingIrrelevantRow : OpenClaim := { program := "ytjipmiiohijfoaa", sum := "0130748d8dd0f0d94c7e7f70bf269d2dfc4c5622546673e9ed3c0b4aaed90575", func := "paxtar/paxtarlaw06.BlockChunkingIrrelevant", spec := "blockChunkingIrrelevant", unfollowed := true, recurses := true, apart := false }
def BlockChunkingIrrelevantSaid : Prop := blockChunkingIrrelevantRow.holds Try.pinned (OpenSpec.ofChange blockChunkingIrrelevantSpec)

/-- ITS FALSE NEIGHBOUR: 'it returns false'. Refute it at one input. -/
def blockChunkingIrrelevantWrong : ChangeSpec := { name := "blockChunkingIrrelevant", fn := fun _ => fun
  | [d1, d2, d3] => { results := [.lit (.bool false)], args := [d1, d2, d3] }
  | _ => none }
def BlockChunkingIrrelevantWrongFalsely : Prop := blockChunkingIrrelevantRow.holds Try.pinned (OpenSpec.ofChange blockChunkingIrrelevantWrong)

/-- 'paxtarlaw06.BlockPadAligns': WHATEVER THE INPUT: true; the input reads as it did. -/
def blockPadAlignsSpec : ChangeSpec := { name := "blockPadAligns", fn := fun _ => fun
  | [d1, d2] => { results := [.lit (.bool true)], args := [d1, d2] }
  | _ => none }
def blockPadAlignsRow : OpenClaim := { program := "ytjipmiiohijfoaa", sum := "0130748d8dd0f0d94c7e7f70bf269d2dfc4c5622546673e9ed3c0b4aaed90575", func := "paxtar/paxtarlaw06.BlockPadAligns", spec := "blockPadAligns", unfollowed := true, recurses := true, apart := false }
def BlockPadAlignsSaid : Prop := blockPadAlignsRow.holds Try.pinned (OpenSpec.ofChange blockPadAlignsSpec)

/-- ITS FALSE NEIGHBOUR: 'it returns false'. Refute it at one input. -/
def blockPadAlignsWrong : ChangeSpec := { name := "blockPadAligns", fn := fun _ => fun
  | [d1, d2] => { results := [.lit (.bool false)], args := [d1, d2] }
  | _ => none }
def BlockPadAlignsWrongFalsely : Prop := blockPadAlignsRow.holds Try.pinned (OpenSpec.ofChange blockPadAlignsWrong)

/-- 'paxtarlaw06.BlockErrorsAreSticky': WHATEVER THE INPUT: true; the input reads as it did. -/
def blockErrorsAreStickySpec : ChangeSpec := { name := "blockErrorsAreSticky", fn := fun _ => fun
  | [d1, d2, d3] => { results := [.lit (.bool true)], args := [d1, d2, d3] }
  | _ => none }
def blockErrorsAreStickyRow : OpenClaim := { program := "ytjipmiiohijfoaa", sum := "0130748d8dd0f0d94c7e7f70bf269d2dfc4c5622546673e9ed3c0b4aaed90575", func := "paxtar/paxtarlaw06.BlockErrorsAreSticky", spec := "blockErrorsAreSticky", unfollowed := true, recurses := true, apart := false }
def BlockErrorsAreStickySaid : Prop := blockErrorsAreStickyRow.holds Try.pinned (OpenSpec.ofChange blockErrorsAreStickySpec)

/-- ITS FALSE NEIGHBOUR: 'it returns false'. Refute it at one input. -/
def blockErrorsAreStickyWrong : ChangeSpec := { name := "blockErrorsAreSticky", fn := fun _ => fun
  | [d1, d2, d3] => { results := [.lit (.bool false)], args := [d1, d2, d3] }
  | _ => none }
def BlockErrorsAreStickyWrongFalsely : Prop := blockErrorsAreStickyRow.holds Try.pinned (OpenSpec.ofChange blockErrorsAreStickyWrong)

/- THE SECOND FORM. 'bulk': how many values and letters a reading holds, each counted each time it is reached (what is shared counts as often as it is met; a slice's spare places count too). A statement '..UptoSaid' is the law's where the arguments, and the package variables that the reading takes, are together of bulk at most 1048576: NARROWER than '..Said'. Prove '..Said' where nothing that the law and all that it calls make is longer than what came in: it says more and counts as full. Else prove '..UptoSaid'. A law counts once. -/
mutual
def uptoBulk {H : Type} : DataW H → Nat
  | .lit (.string bytes) => bytes.length + 1
  | .lit _ => 1
  | .nil => 1
  | .ptr d => uptoBulk d + 1
  | .slice elems spare => uptoBulkAll elems + uptoBulkAll spare + 1
  | .agg parts => uptoBulkAll parts + 1
  | .iface _ d => uptoBulk d + 1
  | .map entries => uptoBulkEntries entries + 1
  | .held _ => 1
def uptoBulkAll {H : Type} : List (DataW H) → Nat
  | [] => 0
  | d :: r => uptoBulk d + uptoBulkAll r
def uptoBulkEntries {H : Type} : List (Lit × DataW H) → Nat
  | [] => 0
  | x :: r => uptoBulkEntry x + uptoBulkEntries r
def uptoBulkEntry {H : Type} : Lit × DataW H → Nat
  | (.string bytes, d) => bytes.length + uptoBulk d + 1
  | (_, d) => uptoBulk d + 1
 end
def uptoSmall : (H : Type) → List (DataW H) → Bool := fun _ ds => decide (uptoBulkAll ds ≤ 1048576)
def OpenSpec.upto (s : _root_.Go.ChangeSpec) : _root_.Go.OpenSpec := { _root_.Go.OpenSpec.ofChange s with cond := some uptoSmall }

/-- 'paxtarlaw06.BlockReaderMatchesReference', WHERE WHAT IT READS IS OF BULK AT MOST 1048576: true; the input reads as it did. -/
def blockReaderMatchesReferenceUptoRow : OpenClaim := { program := "ytjipmiiohijfoaa", sum := "0130748d8dd0f0d94c7e7f70bf269d2dfc4c5622546673e9ed3c0b4aaed90575", func := "paxtar/paxtarlaw06.BlockReaderMatchesReference", spec := "blockReaderMatchesReference", unfollowed := true, recurses := true, apart := false, narrowed := true }
def BlockReaderMatchesReferenceUptoSaid : Prop := blockReaderMatchesReferenceUptoRow.holds Try.pinned (OpenSpec.upto blockReaderMatchesReferenceSpec)

/-- 'paxtarlaw06.BlockWriterMatchesReference', WHERE WHAT IT READS IS OF BULK AT MOST 1048576: true; the input reads as it did. -/
def blockWriterMatchesReferenceUptoRow : OpenClaim := { program := "ytjipmiiohijfoaa", sum := "0130748d8dd0f0d94c7e7f70bf269d2dfc4c5622546673e9ed3c0b4aaed90575", func := "paxtar/paxtarlaw06.BlockWriterMatchesReference", spec := "blockWriterMatchesReference", unfollowed := true, recurses := true, apart := false, narrowed := true }
def BlockWriterMatchesReferenceUptoSaid : Prop := blockWriterMatchesReferenceUptoRow.holds Try.pinned (OpenSpec.upto blockWriterMatchesReferenceSpec)

/-- 'paxtarlaw06.BlockNilReceivers', WHERE WHAT IT READS IS OF BULK AT MOST 1048576: true; the input reads as it did. -/
def blockNilReceiversUptoRow : OpenClaim := { program := "ytjipmiiohijfoaa", sum := "0130748d8dd0f0d94c7e7f70bf269d2dfc4c5622546673e9ed3c0b4aaed90575", func := "paxtar/paxtarlaw06.BlockNilReceivers", spec := "blockNilReceivers", unfollowed := true, recurses := true, apart := false, narrowed := true }
def BlockNilReceiversUptoSaid : Prop := blockNilReceiversUptoRow.holds Try.pinned (OpenSpec.upto blockNilReceiversSpec)

/-- 'paxtarlaw06.BlockChunkingIrrelevant', WHERE WHAT IT READS IS OF BULK AT MOST 1048576: true; the input reads as it did. -/
def blockChunkingIrrelevantUptoRow : OpenClaim := { program := "ytjipmiiohijfoaa", sum := "0130748d8dd0f0d94c7e7f70bf269d2dfc4c5622546673e9ed3c0b4aaed90575", func := "paxtar/paxtarlaw06.BlockChunkingIrrelevant", spec := "blockChunkingIrrelevant", unfollowed := true, recurses := true, apart := false, narrowed := true }
def BlockChunkingIrrelevantUptoSaid : Prop := blockChunkingIrrelevantUptoRow.holds Try.pinned (OpenSpec.upto blockChunkingIrrelevantSpec)

/-- 'paxtarlaw06.BlockPadAligns', WHERE WHAT IT READS IS OF BULK AT MOST 1048576: true; the input reads as it did. -/
def blockPadAlignsUptoRow : OpenClaim := { program := "ytjipmiiohijfoaa", sum := "0130748d8dd0f0d94c7e7f70bf269d2dfc4c5622546673e9ed3c0b4aaed90575", func := "paxtar/paxtarlaw06.BlockPadAligns", spec := "blockPadAligns", unfollowed := true, recurses := true, apart := false, narrowed := true }
def BlockPadAlignsUptoSaid : Prop := blockPadAlignsUptoRow.holds Try.pinned (OpenSpec.upto blockPadAlignsSpec)

/-- 'paxtarlaw06.BlockErrorsAreSticky', WHERE WHAT IT READS IS OF BULK AT MOST 1048576: true; the input reads as it did. -/
def blockErrorsAreStickyUptoRow : OpenClaim := { program := "ytjipmiiohijfoaa", sum := "0130748d8dd0f0d94c7e7f70bf269d2dfc4c5622546673e9ed3c0b4aaed90575", func := "paxtar/paxtarlaw06.BlockErrorsAreSticky", spec := "blockErrorsAreSticky", unfollowed := true, recurses := true, apart := false, narrowed := true }
def BlockErrorsAreStickyUptoSaid : Prop := blockErrorsAreStickyUptoRow.holds Try.pinned (OpenSpec.upto blockErrorsAreStickySpec)

end Rows
end Go.Proofs.Ytjipmiiohijfoaa
