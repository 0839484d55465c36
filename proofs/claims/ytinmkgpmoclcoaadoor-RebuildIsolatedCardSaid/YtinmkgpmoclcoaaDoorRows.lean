/-
  NARROWER THAN 'FOR EVERY INPUT', by the rows' own cells (each row's printed sentence says how): RebuildMatchesReference: laid · RebuildInvertsFlatten: laid · RebuildIsStrict: laid · RebuildIsolated: laid · RebuildCheckIsPure: laid · RebuildPrefixIsValid: laid.
  DERIVED. THE GIVEN ROWS OF THIS SEAT. 6 by the template 'for every input the law returns true; each argument reads behind the call as it read before'; 0 by the template 'total and deterministic' (their statements: YtinmkgpmoclcoaaDoorTotals.lean).
  GIVEN WITH THE SEED: the statements are not yours to turn. If you find one false, say at which input.
  Laid BY PROGRAM, IN A SANDBOX (cutbox-rows.mjs): the forced cells as the released guide's own fill.sh prints them over the translation 99a08d6c70b4c685… (all of the seat's roots in one cut). By AI agents, Wed Nov 11 2026. No macro, syntax, notation, axiom, sorry.
-/
import Derived.Test.YtinmkgpmoclcoaaDoorChecked
import GoSem.Claim
import GoSem.ClaimJoined
import GoSem.ClaimMapViews
import Derived.JoinedTies
import Derived.KernelRfl
namespace Go.Proofs.YtinmkgpmoclcoaaDoor
/- THE CELL 'sum', in the pinned program and in every row, IS THE sha256 OF THE DUMP (.gsa) THAT YtinmkgpmoclcoaaDoorProg.lean LOADS. Nothing in Lean hashes anything: it is a label: what it is worth is what the hold of that sum in a sandbox is worth. -/
noncomputable def Tryd.pinned : Pinned := { name := "ytinmkgpmoclcoaadoor", sum := "99a08d6c70b4c68592e04f0f3e0c4bcbf495561634c2e44ca948423c441c6e82", checked := Tryd.checked }
namespace Rows
def none {H : Type} : Left H := { results := [], args := [] }

/- WHAT THE LISTED PACKAGE-LEVEL VARIABLES READ AS WHEN THE CALL BEGINS. Each datum BY PROGRAM (the guide's laid-datum.mjs) off the statement by which the dump's own 'gosem.cut.vars' lays the variable. In a bare row this is a premise. The card (YtinmkgpmoclcoaaDoorCards.lean) ties it to the program's text. -/
def laid_paxtar_paxrec_keys {H : Type} : DataW H := .agg [.lit (.string [108, 105, 110, 107, 112, 97, 116, 104]), .lit (.string [112, 97, 116, 104]), .lit (.string [115, 105, 122, 101])]

/-- 'paxtarlaw15.RebuildMatchesReference': WHATEVER THE INPUT: true; the input reads as it did. -/
def rebuildMatchesReferenceSpec : ChangeSpec := { name := "rebuildMatchesReference", fn := fun _ => fun
  | [d] => { results := [.lit (.bool true)], args := [d] }
  | _ => none }
def rebuildMatchesReferenceRow : OpenClaim := { program := "ytinmkgpmoclcoaadoor", sum := "99a08d6c70b4c68592e04f0f3e0c4bcbf495561634c2e44ca948423c441c6e82", func := "paxtar/paxtarlaw15.RebuildMatchesReference", spec := "rebuildMatchesReference", inPlace := ["internal/bytealg.IndexByteString", "internal/bytealg.abigen_runtime_cmpstring"], unfollowed := true, recurses := true, named := ["paxtar/paxrec.keys"], apart := false, laid := [("paxtar/paxrec.keys", laid_paxtar_paxrec_keys)] }
def RebuildMatchesReferenceSaid : Prop := rebuildMatchesReferenceRow.holds Tryd.pinned (OpenSpec.ofChange rebuildMatchesReferenceSpec)

/-- ITS FALSE NEIGHBOUR: 'it returns false'. Refute it at one input. -/
def rebuildMatchesReferenceWrong : ChangeSpec := { name := "rebuildMatchesReference", fn := fun _ => fun
  | [d] => { results := [.lit (.bool false)], args := [d] }
  | _ => none }
def RebuildMatchesReferenceWrongFalsely : Prop := rebuildMatchesReferenceRow.holds Tryd.pinned (OpenSpec.ofChange rebuildMatchesReferenceWrong)

/-- 'paxtarlaw15.RebuildInvertsFlatten': WHATEVER THE INPUT: true; the input reads as it did. -/
def rebuildInvertsFlattenSpec : ChangeSpec := { name := "rebuildInvertsFlatten", fn := fun _ => fun
  | [d] => { results := [.lit (.bool true)], args := [d] }
  | _ => none }
def rebuildInvertsFlattenRow : OpenClaim := { program := "ytinmkgpmoclcoaadoor", sum := "99a08d6c70b4c68592e04f0f3e0c4bcbf495561634c2e44ca948423c441c6e82", func := "paxtar/paxtarlaw15.RebuildInvertsFlatten", spec := "rebuildInvertsFlatten", inPlace := ["internal/bytealg.IndexByteString", "internal/bytealg.abigen_runtime_cmpstring"], unfollowed := true, recurses := true, named := ["paxtar/paxrec.keys"], apart := false, laid := [("paxtar/paxrec.keys", laid_paxtar_paxrec_keys)] }
def RebuildInvertsFlattenSaid : Prop := rebuildInvertsFlattenRow.holds Tryd.pinned (OpenSpec.ofChange rebuildInvertsFlattenSpec)

/-- ITS FALSE NEIGHBOUR: 'it returns false'. Refute it at one input. -/
def rebuildInvertsFlattenWrong : ChangeSpec := { name := "rebuildInvertsFlatten", fn := fun _ => fun
  | [d] => { results := [.lit (.bool false)], args := [d] }
  | _ => none }
def RebuildInvertsFlattenWrongFalsely : Prop := rebuildInvertsFlattenRow.holds Tryd.pinned (OpenSpec.ofChange rebuildInvertsFlattenWrong)

/-- 'paxtarlaw15.RebuildIsStrict': WHATEVER THE INPUT: true; the input reads as it did. -/
def rebuildIsStrictSpec : ChangeSpec := { name := "rebuildIsStrict", fn := fun _ => fun
  | [d] => { results := [.lit (.bool true)], args := [d] }
  | _ => none }
def rebuildIsStrictRow : OpenClaim := { program := "ytinmkgpmoclcoaadoor", sum := "99a08d6c70b4c68592e04f0f3e0c4bcbf495561634c2e44ca948423c441c6e82", func := "paxtar/paxtarlaw15.RebuildIsStrict", spec := "rebuildIsStrict", inPlace := ["internal/bytealg.IndexByteString", "internal/bytealg.abigen_runtime_cmpstring"], unfollowed := true, recurses := true, named := ["paxtar/paxrec.keys"], apart := false, laid := [("paxtar/paxrec.keys", laid_paxtar_paxrec_keys)] }
def RebuildIsStrictSaid : Prop := rebuildIsStrictRow.holds Tryd.pinned (OpenSpec.ofChange rebuildIsStrictSpec)

/-- ITS FALSE NEIGHBOUR: 'it returns false'. Refute it at one input. -/
def rebuildIsStrictWrong : ChangeSpec := { name := "rebuildIsStrict", fn := fun _ => fun
  | [d] => { results := [.lit (.bool false)], args := [d] }
  | _ => none }
def RebuildIsStrictWrongFalsely : Prop := rebuildIsStrictRow.holds Tryd.pinned (OpenSpec.ofChange rebuildIsStrictWrong)

/-- 'paxtarlaw15.RebuildIsolated': WHATEVER THE INPUT: true; the input reads as it did. -/
def rebuildIsolatedSpec : ChangeSpec := { name := "rebuildIsolated", fn := fun _ => fun
  | [d] => { results := [.lit (.bool true)], args := [d] }
  | _ => none }
def rebuildIsolatedRow : OpenClaim := { program := "ytinmkgpmoclcoaadoor", sum := "99a08d6c70b4c68592e04f0f3e0c4bcbf495561634c2e44ca948423c441c6e82", func := "paxtar/paxtarlaw15.RebuildIsolated", spec := "rebuildIsolated", inPlace := ["internal/bytealg.IndexByteString", "internal/bytealg.abigen_runtime_cmpstring"], unfollowed := true, recurses := true, named := ["paxtar/paxrec.keys"], apart := false, laid := [("paxtar/paxrec.keys", laid_paxtar_paxrec_keys)] }
def RebuildIsolatedSaid : Prop := rebuildIsolatedRow.holds Tryd.pinned (OpenSpec.ofChange rebuildIsolatedSpec)

/-- ITS FALSE NEIGHBOUR: 'it returns false'. Refute it at one input. -/
def rebuildIsolatedWrong : ChangeSpec := { name := "rebuildIsolated", fn := fun _ => fun
  | [d] => { results := [.lit (.bool false)], args := [d] }
  | _ => none }
def RebuildIsolatedWrongFalsely : Prop := rebuildIsolatedRow.holds Tryd.pinned (OpenSpec.ofChange rebuildIsolatedWrong)

/-- 'paxtarlaw15.RebuildCheckIsPure': WHATEVER THE INPUT: true; the input reads as it did. -/
def rebuildCheckIsPureSpec : ChangeSpec := { name := "rebuildCheckIsPure", fn := fun _ => fun
  | [d] => { results := [.lit (.bool true)], args := [d] }
  | _ => none }
def rebuildCheckIsPureRow : OpenClaim := { program := "ytinmkgpmoclcoaadoor", sum := "99a08d6c70b4c68592e04f0f3e0c4bcbf495561634c2e44ca948423c441c6e82", func := "paxtar/paxtarlaw15.RebuildCheckIsPure", spec := "rebuildCheckIsPure", inPlace := ["internal/bytealg.IndexByteString", "internal/bytealg.abigen_runtime_cmpstring"], unfollowed := true, recurses := true, named := ["paxtar/paxrec.keys"], apart := false, laid := [("paxtar/paxrec.keys", laid_paxtar_paxrec_keys)] }
def RebuildCheckIsPureSaid : Prop := rebuildCheckIsPureRow.holds Tryd.pinned (OpenSpec.ofChange rebuildCheckIsPureSpec)

/-- ITS FALSE NEIGHBOUR: 'it returns false'. Refute it at one input. -/
def rebuildCheckIsPureWrong : ChangeSpec := { name := "rebuildCheckIsPure", fn := fun _ => fun
  | [d] => { results := [.lit (.bool false)], args := [d] }
  | _ => none }
def RebuildCheckIsPureWrongFalsely : Prop := rebuildCheckIsPureRow.holds Tryd.pinned (OpenSpec.ofChange rebuildCheckIsPureWrong)

/-- 'paxtarlaw15.RebuildPrefixIsValid': WHATEVER THE INPUT: true; the input reads as it did. -/
def rebuildPrefixIsValidSpec : ChangeSpec := { name := "rebuildPrefixIsValid", fn := fun _ => fun
  | [d1, d2] => { results := [.lit (.bool true)], args := [d1, d2] }
  | _ => none }
def rebuildPrefixIsValidRow : OpenClaim := { program := "ytinmkgpmoclcoaadoor", sum := "99a08d6c70b4c68592e04f0f3e0c4bcbf495561634c2e44ca948423c441c6e82", func := "paxtar/paxtarlaw15.RebuildPrefixIsValid", spec := "rebuildPrefixIsValid", inPlace := ["internal/bytealg.IndexByteString", "internal/bytealg.abigen_runtime_cmpstring"], unfollowed := true, recurses := true, named := ["paxtar/paxrec.keys"], apart := false, laid := [("paxtar/paxrec.keys", laid_paxtar_paxrec_keys)] }
def RebuildPrefixIsValidSaid : Prop := rebuildPrefixIsValidRow.holds Tryd.pinned (OpenSpec.ofChange rebuildPrefixIsValidSpec)

/-- ITS FALSE NEIGHBOUR: 'it returns false'. Refute it at one input. -/
def rebuildPrefixIsValidWrong : ChangeSpec := { name := "rebuildPrefixIsValid", fn := fun _ => fun
  | [d1, d2] => { results := [.lit (.bool false)], args := [d1, d2] }
  | _ => none }
def RebuildPrefixIsValidWrongFalsely : Prop := rebuildPrefixIsValidRow.holds Tryd.pinned (OpenSpec.ofChange rebuildPrefixIsValidWrong)

/- THE SECOND FORM. 'bulk': how many values and letters a reading holds, each counted each time it is reached (what is shared counts as often as it is met; a slice's spare places count too). A statement '..UptoSaid' is the law's where the arguments, and the package variables that the reading takes, are together of bulk at most 1048576: NARROWER than '..Said'. Prove '..Said' where nothing that the law and all that it calls make is longer than what came in: it says more and counts as full. Else prove '..UptoSaid'. A law counts once. -/
mutual
def uptoBulk {H : Type} : DataW H → Nat
  | .lit (.string bytes) => bytes.length + 1
  | .lit _ => 1
  | .nil => 1
  | .ptr d => uptoBulk d + 1
  | .slice elems spare => uptoBulkAll elems + uptoBulkAll spare + 1
  | .agg parts => uptoBulkAll parts + 1
  | .iface _ d => uptoBulk d + 1
  | .map entries => uptoBulkEntries entries + 1
  | .held _ => 1
def uptoBulkAll {H : Type} : List (DataW H) → Nat
  | [] => 0
  | d :: r => uptoBulk d + uptoBulkAll r
def uptoBulkEntries {H : Type} : List (Lit × DataW H) → Nat
  | [] => 0
  | x :: r => uptoBulkEntry x + uptoBulkEntries r
def uptoBulkEntry {H : Type} : Lit × DataW H → Nat
  | (.string bytes, d) => bytes.length + uptoBulk d + 1
  | (_, d) => uptoBulk d + 1
 end
def uptoSmall : (H : Type) → List (DataW H) → Bool := fun _ ds => decide (uptoBulkAll ds ≤ 1048576)
def OpenSpec.upto (s : _root_.Go.ChangeSpec) : _root_.Go.OpenSpec := { _root_.Go.OpenSpec.ofChange s with cond := some uptoSmall }

/-- 'paxtarlaw15.RebuildMatchesReference', WHERE WHAT IT READS IS OF BULK AT MOST 1048576: true; the input reads as it did. -/
def rebuildMatchesReferenceUptoRow : OpenClaim := { program := "ytinmkgpmoclcoaadoor", sum := "99a08d6c70b4c68592e04f0f3e0c4bcbf495561634c2e44ca948423c441c6e82", func := "paxtar/paxtarlaw15.RebuildMatchesReference", spec := "rebuildMatchesReference", inPlace := ["internal/bytealg.IndexByteString", "internal/bytealg.abigen_runtime_cmpstring"], unfollowed := true, recurses := true, named := ["paxtar/paxrec.keys"], apart := false, laid := [("paxtar/paxrec.keys", laid_paxtar_paxrec_keys)], narrowed := true }
def RebuildMatchesReferenceUptoSaid : Prop := rebuildMatchesReferenceUptoRow.holds Tryd.pinned (OpenSpec.upto rebuildMatchesReferenceSpec)

/-- 'paxtarlaw15.RebuildInvertsFlatten', WHERE WHAT IT READS IS OF BULK AT MOST 1048576: true; the input reads as it did. -/
def rebuildInvertsFlattenUptoRow : OpenClaim := { program := "ytinmkgpmoclcoaadoor", sum := "99a08d6c70b4c68592e04f0f3e0c4bcbf495561634c2e44ca948423c441c6e82", func := "paxtar/paxtarlaw15.RebuildInvertsFlatten", spec := "rebuildInvertsFlatten", inPlace := ["internal/bytealg.IndexByteString", "internal/bytealg.abigen_runtime_cmpstring"], unfollowed := true, recurses := true, named := ["paxtar/paxrec.keys"], apart := false, laid := [("paxtar/paxrec.keys", laid_paxtar_paxrec_keys)], narrowed := true }
def RebuildInvertsFlattenUptoSaid : Prop := rebuildInvertsFlattenUptoRow.holds Tryd.pinned (OpenSpec.upto rebuildInvertsFlattenSpec)

/-- 'paxtarlaw15.RebuildIsStrict', WHERE WHAT IT READS IS OF BULK AT MOST 1048576: true; the input reads as it did. -/
def rebuildIsStrictUptoRow : OpenClaim := { program := "ytinmkgpmoclcoaadoor", sum := "99a08d6c70b4c68592e04f0f3e0c4bcbf495561634c2e44ca948423c441c6e82", func := "paxtar/paxtarlaw15.RebuildIsStrict", spec := "rebuildIsStrict", inPlace := ["internal/bytealg.IndexByteString", "internal/bytealg.abigen_runtime_cmpstring"], unfollowed := true, recurses := true, named := ["paxtar/paxrec.keys"], apart := false, laid := [("paxtar/paxrec.keys", laid_paxtar_paxrec_keys)], narrowed := true }
def RebuildIsStrictUptoSaid : Prop := rebuildIsStrictUptoRow.holds Tryd.pinned (OpenSpec.upto rebuildIsStrictSpec)

/-- 'paxtarlaw15.RebuildIsolated', WHERE WHAT IT READS IS OF BULK AT MOST 1048576: true; the input reads as it did. -/
def rebuildIsolatedUptoRow : OpenClaim := { program := "ytinmkgpmoclcoaadoor", sum := "99a08d6c70b4c68592e04f0f3e0c4bcbf495561634c2e44ca948423c441c6e82", func := "paxtar/paxtarlaw15.RebuildIsolated", spec := "rebuildIsolated", inPlace := ["internal/bytealg.IndexByteString", "internal/bytealg.abigen_runtime_cmpstring"], unfollowed := true, recurses := true, named := ["paxtar/paxrec.keys"], apart := false, laid := [("paxtar/paxrec.keys", laid_paxtar_paxrec_keys)], narrowed := true }
def RebuildIsolatedUptoSaid : Prop := rebuildIsolatedUptoRow.holds Tryd.pinned (OpenSpec.upto rebuildIsolatedSpec)

/-- 'paxtarlaw15.RebuildCheckIsPure', WHERE WHAT IT READS IS OF BULK AT MOST 1048576: true; the input reads as it did. -/
def rebuildCheckIsPureUptoRow : OpenClaim := { program := "ytinmkgpmoclcoaadoor", sum := "99a08d6c70b4c68592e04f0f3e0c4bcbf495561634c2e44ca948423c441c6e82", func := "paxtar/paxtarlaw15.RebuildCheckIsPure", spec := "rebuildCheckIsPure", inPlace := ["internal/bytealg.IndexByteString", "internal/bytealg.abigen_runtime_cmpstring"], unfollowed := true, recurses := true, named := ["paxtar/paxrec.keys"], apart := false, laid := [("paxtar/paxrec.keys", laid_paxtar_paxrec_keys)], narrowed := true }
def RebuildCheckIsPureUptoSaid : Prop := rebuildCheckIsPureUptoRow.holds Tryd.pinned (OpenSpec.upto rebuildCheckIsPureSpec)

/-- 'paxtarlaw15.RebuildPrefixIsValid', WHERE WHAT IT READS IS OF BULK AT MOST 1048576: true; the input reads as it did. -/
def rebuildPrefixIsValidUptoRow : OpenClaim := { program := "ytinmkgpmoclcoaadoor", sum := "99a08d6c70b4c68592e04f0f3e0c4bcbf495561634c2e44ca948423c441c6e82", func := "paxtar/paxtarlaw15.RebuildPrefixIsValid", spec := "rebuildPrefixIsValid", inPlace := ["internal/bytealg.IndexByteString", "internal/bytealg.abigen_runtime_cmpstring"], unfollowed := true, recurses := true, named := ["paxtar/paxrec.keys"], apart := false, laid := [("paxtar/paxrec.keys", laid_paxtar_paxrec_keys)], narrowed := true }
def RebuildPrefixIsValidUptoSaid : Prop := rebuildPrefixIsValidUptoRow.holds Tryd.pinned (OpenSpec.upto rebuildPrefixIsValidSpec)

end Rows
end Go.Proofs.YtinmkgpmoclcoaaDoor
