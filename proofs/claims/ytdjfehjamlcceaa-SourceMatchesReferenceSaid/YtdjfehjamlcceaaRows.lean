/-
  No cell of these rows narrows 'for every input' (looked for: loops, veiled, ifaces, maps, wideKeys, modest, calm, conditions, laid).
  DERIVED. THE GIVEN ROWS OF THIS SEAT. 4 by the template 'for every input the law returns true; each argument reads behind the call as it read before'; 0 by the template 'total and deterministic' (their statements: YtdjfehjamlcceaaTotals.lean).
  GIVEN WITH THE SEED: the statements are not yours to turn. If you find one false, say at which input.
  Laid BY PROGRAM, IN A SANDBOX (cutbox-rows.mjs): the forced cells as the released guide's own fill.sh prints them over the translation 1ad4de99a02ea81e… (all of the seat's roots in one cut). By AI agents, Wed Nov 11 2026. No macro, syntax, notation, axiom, sorry.
-/
import Derived.Test.YtdjfehjamlcceaaChecked
import GoSem.Claim
import GoSem.ClaimJoined
import GoSem.ClaimMapViews
import Derived.JoinedTies
import Derived.KernelRfl
namespace Go.Proofs.Ytdjfehjamlcceaa
/- THE CELL 'sum', in the pinned program and in every row, IS THE sha256 OF THE DUMP (.gsa) THAT YtdjfehjamlcceaaProg.lean LOADS. Nothing in Lean hashes anything: it is a label: what it is worth is what the hold of that sum in a sandbox is worth. -/
noncomputable def Try.pinned : Pinned := { name := "ytdjfehjamlcceaa", sum := "1ad4de99a02ea81e17af3aab8c04d3e8ca89b2f0f03a3ca2a83362a523609257", checked := Try.checked }
namespace Rows
def none {H : Type} : Left H := { results := [], args := [] }

/-- 'paxtarlaw04.SourceMatchesReference': WHATEVER THE INPUT: true; the input reads as it did. -/
def sourceMatchesReferenceSpec : ChangeSpec := { name := "sourceMatchesReference", fn := fun _ => fun
  | [d1, d2, d3] => { results := [.lit (.bool true)], args := [d1, d2, d3] }
  | _ => none }
def sourceMatchesReferenceRow : OpenClaim := { program := "ytdjfehjamlcceaa", sum := "1ad4de99a02ea81e17af3aab8c04d3e8ca89b2f0f03a3ca2a83362a523609257", func := "paxtar/paxtarlaw04.SourceMatchesReference", spec := "sourceMatchesReference", unfollowed := true, recurses := true, apart := false }
def SourceMatchesReferenceSaid : Prop := sourceMatchesReferenceRow.holds Try.pinned (OpenSpec.ofChange sourceMatchesReferenceSpec)

/-- ITS FALSE NEIGHBOUR: 'it returns false'. Refute it at one input. -/
def sourceMatchesReferenceWrong : ChangeSpec := { name := "sourceMatchesReference", fn := fun _ => fun
  | [d1, d2, d3] => { results := [.lit (.bool false)], args := [d1, d2, d3] }
  | _ => none }
def SourceMatchesReferenceWrongFalsely : Prop := sourceMatchesReferenceRow.holds Try.pinned (OpenSpec.ofChange sourceMatchesReferenceWrong)

/-- 'paxtarlaw04.SourceDeliversPrefix': WHATEVER THE INPUT: true; the input reads as it did. -/
def sourceDeliversPrefixSpec : ChangeSpec := { name := "sourceDeliversPrefix", fn := fun _ => fun
  | [d1, d2, d3] => { results := [.lit (.bool true)], args := [d1, d2, d3] }
  | _ => none }
def sourceDeliversPrefixRow : OpenClaim := { program := "ytdjfehjamlcceaa", sum := "1ad4de99a02ea81e17af3aab8c04d3e8ca89b2f0f03a3ca2a83362a523609257", func := "paxtar/paxtarlaw04.SourceDeliversPrefix", spec := "sourceDeliversPrefix", unfollowed := true, recurses := true, apart := false }
def SourceDeliversPrefixSaid : Prop := sourceDeliversPrefixRow.holds Try.pinned (OpenSpec.ofChange sourceDeliversPrefixSpec)

/-- ITS FALSE NEIGHBOUR: 'it returns false'. Refute it at one input. -/
def sourceDeliversPrefixWrong : ChangeSpec := { name := "sourceDeliversPrefix", fn := fun _ => fun
  | [d1, d2, d3] => { results := [.lit (.bool false)], args := [d1, d2, d3] }
  | _ => none }
def SourceDeliversPrefixWrongFalsely : Prop := sourceDeliversPrefixRow.holds Try.pinned (OpenSpec.ofChange sourceDeliversPrefixWrong)

/-- 'paxtarlaw04.SourceIsolated': WHATEVER THE INPUT: true; the input reads as it did. -/
def sourceIsolatedSpec : ChangeSpec := { name := "sourceIsolated", fn := fun _ => fun
  | [d1, d2] => { results := [.lit (.bool true)], args := [d1, d2] }
  | _ => none }
def sourceIsolatedRow : OpenClaim := { program := "ytdjfehjamlcceaa", sum := "1ad4de99a02ea81e17af3aab8c04d3e8ca89b2f0f03a3ca2a83362a523609257", func := "paxtar/paxtarlaw04.SourceIsolated", spec := "sourceIsolated", unfollowed := true, recurses := true, apart := false }
def SourceIsolatedSaid : Prop := sourceIsolatedRow.holds Try.pinned (OpenSpec.ofChange sourceIsolatedSpec)

/-- ITS FALSE NEIGHBOUR: 'it returns false'. Refute it at one input. -/
def sourceIsolatedWrong : ChangeSpec := { name := "sourceIsolated", fn := fun _ => fun
  | [d1, d2] => { results := [.lit (.bool false)], args := [d1, d2] }
  | _ => none }
def SourceIsolatedWrongFalsely : Prop := sourceIsolatedRow.holds Try.pinned (OpenSpec.ofChange sourceIsolatedWrong)

/-- 'paxtarlaw04.SourceChunkSizes': WHATEVER THE INPUT: true; the input reads as it did. -/
def sourceChunkSizesSpec : ChangeSpec := { name := "sourceChunkSizes", fn := fun _ => fun
  | [d1, d2] => { results := [.lit (.bool true)], args := [d1, d2] }
  | _ => none }
def sourceChunkSizesRow : OpenClaim := { program := "ytdjfehjamlcceaa", sum := "1ad4de99a02ea81e17af3aab8c04d3e8ca89b2f0f03a3ca2a83362a523609257", func := "paxtar/paxtarlaw04.SourceChunkSizes", spec := "sourceChunkSizes", unfollowed := true, recurses := true, apart := false }
def SourceChunkSizesSaid : Prop := sourceChunkSizesRow.holds Try.pinned (OpenSpec.ofChange sourceChunkSizesSpec)

/-- ITS FALSE NEIGHBOUR: 'it returns false'. Refute it at one input. -/
def sourceChunkSizesWrong : ChangeSpec := { name := "sourceChunkSizes", fn := fun _ => fun
  | [d1, d2] => { results := [.lit (.bool false)], args := [d1, d2] }
  | _ => none }
def SourceChunkSizesWrongFalsely : Prop := sourceChunkSizesRow.holds Try.pinned (OpenSpec.ofChange sourceChunkSizesWrong)

/- THE SECOND FORM. 'bulk': how many values and letters a reading holds, each counted each time it is reached (what is shared counts as often as it is met; a slice's spare places count too). A statement '..UptoSaid' is the law's where the arguments, and the package variables that the reading takes, are together of bulk at most 1048576: NARROWER than '..Said'. Prove '..Said' where nothing that the law and all that it calls make is longer than what came in: it says more and counts as full. Else prove '..UptoSaid'. A law counts once. -/
mutual
def uptoBulk {H : Type} : DataW H → Nat
  | .lit (.string bytes) => bytes.length + 1
  | .lit _ => 1
  | .nil => 1
  | .ptr d => uptoBulk d + 1
  | .slice elems spare => uptoBulkAll elems + uptoBulkAll spare + 1
  | .agg parts => uptoBulkAll parts + 1
  | .iface _ d => uptoBulk d + 1
  | .map entries => uptoBulkEntries entries + 1
  | .held _ => 1
def uptoBulkAll {H : Type} : List (DataW H) → Nat
  | [] => 0
  | d :: r => uptoBulk d + uptoBulkAll r
def uptoBulkEntries {H : Type} : List (Lit × DataW H) → Nat
  | [] => 0
  | x :: r => uptoBulkEntry x + uptoBulkEntries r
def uptoBulkEntry {H : Type} : Lit × DataW H → Nat
  | (.string bytes, d) => bytes.length + uptoBulk d + 1
  | (_, d) => uptoBulk d + 1
 end
def uptoSmall : (H : Type) → List (DataW H) → Bool := fun _ ds => decide (uptoBulkAll ds ≤ 1048576)
def OpenSpec.upto (s : _root_.Go.ChangeSpec) : _root_.Go.OpenSpec := { _root_.Go.OpenSpec.ofChange s with cond := some uptoSmall }

/-- 'paxtarlaw04.SourceMatchesReference', WHERE WHAT IT READS IS OF BULK AT MOST 1048576: true; the input reads as it did. -/
def sourceMatchesReferenceUptoRow : OpenClaim := { program := "ytdjfehjamlcceaa", sum := "1ad4de99a02ea81e17af3aab8c04d3e8ca89b2f0f03a3ca2a83362a523609257", func := "paxtar/paxtarlaw04.SourceMatchesReference", spec := "sourceMatchesReference", unfollowed := true, recurses := true, apart := false, narrowed := true }
def SourceMatchesReferenceUptoSaid : Prop := sourceMatchesReferenceUptoRow.holds Try.pinned (OpenSpec.upto sourceMatchesReferenceSpec)

/-- 'paxtarlaw04.SourceDeliversPrefix', WHERE WHAT IT READS IS OF BULK AT MOST 1048576: true; the input reads as it did. -/
def sourceDeliversPrefixUptoRow : OpenClaim := { program := "ytdjfehjamlcceaa", sum := "1ad4de99a02ea81e17af3aab8c04d3e8ca89b2f0f03a3ca2a83362a523609257", func := "paxtar/paxtarlaw04.SourceDeliversPrefix", spec := "sourceDeliversPrefix", unfollowed := true, recurses := true, apart := false, narrowed := true }
def SourceDeliversPrefixUptoSaid : Prop := sourceDeliversPrefixUptoRow.holds Try.pinned (OpenSpec.upto sourceDeliversPrefixSpec)

/-- 'paxtarlaw04.SourceIsolated', WHERE WHAT IT READS IS OF BULK AT MOST 1048576: true; the input reads as it did. -/
def sourceIsolatedUptoRow : OpenClaim := { program := "ytdjfehjamlcceaa", sum := "1ad4de99a02ea81e17af3aab8c04d3e8ca89b2f0f03a3ca2a83362a523609257", func := "paxtar/paxtarlaw04.SourceIsolated", spec := "sourceIsolated", unfollowed := true, recurses := true, apart := false, narrowed := true }
def SourceIsolatedUptoSaid : Prop := sourceIsolatedUptoRow.holds Try.pinned (OpenSpec.upto sourceIsolatedSpec)

/-- 'paxtarlaw04.SourceChunkSizes', WHERE WHAT IT READS IS OF BULK AT MOST 1048576: true; the input reads as it did. -/
def sourceChunkSizesUptoRow : OpenClaim := { program := "ytdjfehjamlcceaa", sum := "1ad4de99a02ea81e17af3aab8c04d3e8ca89b2f0f03a3ca2a83362a523609257", func := "paxtar/paxtarlaw04.SourceChunkSizes", spec := "sourceChunkSizes", unfollowed := true, recurses := true, apart := false, narrowed := true }
def SourceChunkSizesUptoSaid : Prop := sourceChunkSizesUptoRow.holds Try.pinned (OpenSpec.upto sourceChunkSizesSpec)

end Rows
end Go.Proofs.Ytdjfehjamlcceaa
