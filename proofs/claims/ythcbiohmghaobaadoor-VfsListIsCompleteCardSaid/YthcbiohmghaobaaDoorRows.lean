/-
  NARROWER THAN 'FOR EVERY INPUT', by the rows' own cells (each row's printed sentence says how): VfsMatchesReference: laid · VfsOptions: laid · VfsListIsComplete: laid · VfsLinksShareFiles: laid · VfsCreateRules: laid · VfsInodesAreDistinct: laid.
  DERIVED. THE GIVEN ROWS OF THIS SEAT. 6 by the template 'for every input the law returns true; each argument reads behind the call as it read before'; 0 by the template 'total and deterministic' (their statements: YthcbiohmghaobaaDoorTotals.lean).
  GIVEN WITH THE SEED: the statements are not yours to turn. If you find one false, say at which input.
  Laid BY PROGRAM, IN A SANDBOX (cutbox-rows.mjs): the forced cells as the released guide's own fill.sh prints them over the translation 27ea943b0465f129… (all of the seat's roots in one cut). By AI agents, Wed Nov 11 2026. No macro, syntax, notation, axiom, sorry.
-/
import Derived.Test.YthcbiohmghaobaaDoorChecked
import GoSem.Claim
import GoSem.ClaimJoined
import GoSem.ClaimMapViews
import Derived.JoinedTies
import Derived.KernelRfl
namespace Go.Proofs.YthcbiohmghaobaaDoor
/- THE CELL 'sum', in the pinned program and in every row, IS THE sha256 OF THE DUMP (.gsa) THAT YthcbiohmghaobaaDoorProg.lean LOADS. Nothing in Lean hashes anything: it is a label: what it is worth is what the hold of that sum in a sandbox is worth. -/
noncomputable def Tryd.pinned : Pinned := { name := "ythcbiohmghaobaadoor", sum := "27ea943b0465f129674f9465353bc6359ccae64b59912579cb2d1656193e3d73", checked := Tryd.checked }
namespace Rows
def none {H : Type} : Left H := { results := [], args := [] }

/- WHAT THE LISTED PACKAGE-LEVEL VARIABLES READ AS WHEN THE CALL BEGINS. Each datum BY PROGRAM (the guide's laid-datum.mjs) off the statement by which the dump's own 'gosem.cut.vars' lays the variable. In a bare row this is a premise. The card (YthcbiohmghaobaaDoorCards.lean) ties it to the program's text. -/
def laid_paxtar_paxrec_keys {H : Type} : DataW H := .agg [.lit (.string [108, 105, 110, 107, 112, 97, 116, 104]), .lit (.string [112, 97, 116, 104]), .lit (.string [115, 105, 122, 101])]

/-- 'paxtarlaw19.VfsMatchesReference': WHATEVER THE INPUT: true; the input reads as it did. -/
def vfsMatchesReferenceSpec : ChangeSpec := { name := "vfsMatchesReference", fn := fun _ => fun
  | [d1, d2, d3] => { results := [.lit (.bool true)], args := [d1, d2, d3] }
  | _ => none }
def vfsMatchesReferenceRow : OpenClaim := { program := "ythcbiohmghaobaadoor", sum := "27ea943b0465f129674f9465353bc6359ccae64b59912579cb2d1656193e3d73", func := "paxtar/paxtarlaw19.VfsMatchesReference", spec := "vfsMatchesReference", inPlace := ["internal/bytealg.IndexByteString"], unfollowed := true, recurses := true, named := ["paxtar/paxrec.keys"], apart := false, laid := [("paxtar/paxrec.keys", laid_paxtar_paxrec_keys)] }
def VfsMatchesReferenceSaid : Prop := vfsMatchesReferenceRow.holds Tryd.pinned (OpenSpec.ofChange vfsMatchesReferenceSpec)

/-- ITS FALSE NEIGHBOUR: 'it returns false'. Refute it at one input. -/
def vfsMatchesReferenceWrong : ChangeSpec := { name := "vfsMatchesReference", fn := fun _ => fun
  | [d1, d2, d3] => { results := [.lit (.bool false)], args := [d1, d2, d3] }
  | _ => none }
def VfsMatchesReferenceWrongFalsely : Prop := vfsMatchesReferenceRow.holds Tryd.pinned (OpenSpec.ofChange vfsMatchesReferenceWrong)

/-- 'paxtarlaw19.VfsOptions': WHATEVER THE INPUT: true; the input reads as it did. -/
def vfsOptionsSpec : ChangeSpec := { name := "vfsOptions", fn := fun _ => fun
  | [d1, d2, d3] => { results := [.lit (.bool true)], args := [d1, d2, d3] }
  | _ => none }
def vfsOptionsRow : OpenClaim := { program := "ythcbiohmghaobaadoor", sum := "27ea943b0465f129674f9465353bc6359ccae64b59912579cb2d1656193e3d73", func := "paxtar/paxtarlaw19.VfsOptions", spec := "vfsOptions", inPlace := ["internal/bytealg.IndexByteString"], unfollowed := true, recurses := true, named := ["paxtar/paxrec.keys"], apart := false, laid := [("paxtar/paxrec.keys", laid_paxtar_paxrec_keys)] }
def VfsOptionsSaid : Prop := vfsOptionsRow.holds Tryd.pinned (OpenSpec.ofChange vfsOptionsSpec)

/-- ITS FALSE NEIGHBOUR: 'it returns false'. Refute it at one input. -/
def vfsOptionsWrong : ChangeSpec := { name := "vfsOptions", fn := fun _ => fun
  | [d1, d2, d3] => { results := [.lit (.bool false)], args := [d1, d2, d3] }
  | _ => none }
def VfsOptionsWrongFalsely : Prop := vfsOptionsRow.holds Tryd.pinned (OpenSpec.ofChange vfsOptionsWrong)

/-- 'paxtarlaw19.VfsListIsComplete': WHATEVER THE INPUT: true; the input reads as it did. -/
def vfsListIsCompleteSpec : ChangeSpec := { name := "vfsListIsComplete", fn := fun _ => fun
  | [d1, d2] => { results := [.lit (.bool true)], args := [d1, d2] }
  | _ => none }
def vfsListIsCompleteRow : OpenClaim := { program := "ythcbiohmghaobaadoor", sum := "27ea943b0465f129674f9465353bc6359ccae64b59912579cb2d1656193e3d73", func := "paxtar/paxtarlaw19.VfsListIsComplete", spec := "vfsListIsComplete", inPlace := ["internal/bytealg.IndexByteString", "internal/bytealg.IndexString"], unfollowed := true, recurses := true, named := ["paxtar/paxrec.keys", "internal/bytealg.MaxLen"], apart := false, laid := [("paxtar/paxrec.keys", laid_paxtar_paxrec_keys)] }
def VfsListIsCompleteSaid : Prop := vfsListIsCompleteRow.holds Tryd.pinned (OpenSpec.ofChange vfsListIsCompleteSpec)

/-- ITS FALSE NEIGHBOUR: 'it returns false'. Refute it at one input. -/
def vfsListIsCompleteWrong : ChangeSpec := { name := "vfsListIsComplete", fn := fun _ => fun
  | [d1, d2] => { results := [.lit (.bool false)], args := [d1, d2] }
  | _ => none }
def VfsListIsCompleteWrongFalsely : Prop := vfsListIsCompleteRow.holds Tryd.pinned (OpenSpec.ofChange vfsListIsCompleteWrong)

/-- 'paxtarlaw19.VfsLinksShareFiles': WHATEVER THE INPUT: true; the input reads as it did. -/
def vfsLinksShareFilesSpec : ChangeSpec := { name := "vfsLinksShareFiles", fn := fun _ => fun
  | [d1, d2, d3] => { results := [.lit (.bool true)], args := [d1, d2, d3] }
  | _ => none }
def vfsLinksShareFilesRow : OpenClaim := { program := "ythcbiohmghaobaadoor", sum := "27ea943b0465f129674f9465353bc6359ccae64b59912579cb2d1656193e3d73", func := "paxtar/paxtarlaw19.VfsLinksShareFiles", spec := "vfsLinksShareFiles", inPlace := ["internal/bytealg.IndexByteString"], unfollowed := true, recurses := true, named := ["paxtar/paxrec.keys"], apart := false, laid := [("paxtar/paxrec.keys", laid_paxtar_paxrec_keys)] }
def VfsLinksShareFilesSaid : Prop := vfsLinksShareFilesRow.holds Tryd.pinned (OpenSpec.ofChange vfsLinksShareFilesSpec)

/-- ITS FALSE NEIGHBOUR: 'it returns false'. Refute it at one input. -/
def vfsLinksShareFilesWrong : ChangeSpec := { name := "vfsLinksShareFiles", fn := fun _ => fun
  | [d1, d2, d3] => { results := [.lit (.bool false)], args := [d1, d2, d3] }
  | _ => none }
def VfsLinksShareFilesWrongFalsely : Prop := vfsLinksShareFilesRow.holds Tryd.pinned (OpenSpec.ofChange vfsLinksShareFilesWrong)

/-- 'paxtarlaw19.VfsCreateRules': WHATEVER THE INPUT: true; the input reads as it did. -/
def vfsCreateRulesSpec : ChangeSpec := { name := "vfsCreateRules", fn := fun _ => fun
  | [d1, d2] => { results := [.lit (.bool true)], args := [d1, d2] }
  | _ => none }
def vfsCreateRulesRow : OpenClaim := { program := "ythcbiohmghaobaadoor", sum := "27ea943b0465f129674f9465353bc6359ccae64b59912579cb2d1656193e3d73", func := "paxtar/paxtarlaw19.VfsCreateRules", spec := "vfsCreateRules", inPlace := ["internal/bytealg.IndexByteString"], unfollowed := true, recurses := true, named := ["paxtar/paxrec.keys"], apart := false, laid := [("paxtar/paxrec.keys", laid_paxtar_paxrec_keys)] }
def VfsCreateRulesSaid : Prop := vfsCreateRulesRow.holds Tryd.pinned (OpenSpec.ofChange vfsCreateRulesSpec)

/-- ITS FALSE NEIGHBOUR: 'it returns false'. Refute it at one input. -/
def vfsCreateRulesWrong : ChangeSpec := { name := "vfsCreateRules", fn := fun _ => fun
  | [d1, d2] => { results := [.lit (.bool false)], args := [d1, d2] }
  | _ => none }
def VfsCreateRulesWrongFalsely : Prop := vfsCreateRulesRow.holds Tryd.pinned (OpenSpec.ofChange vfsCreateRulesWrong)

/-- 'paxtarlaw19.VfsInodesAreDistinct': WHATEVER THE INPUT: true; the input reads as it did. -/
def vfsInodesAreDistinctSpec : ChangeSpec := { name := "vfsInodesAreDistinct", fn := fun _ => fun
  | [d1, d2] => { results := [.lit (.bool true)], args := [d1, d2] }
  | _ => none }
def vfsInodesAreDistinctRow : OpenClaim := { program := "ythcbiohmghaobaadoor", sum := "27ea943b0465f129674f9465353bc6359ccae64b59912579cb2d1656193e3d73", func := "paxtar/paxtarlaw19.VfsInodesAreDistinct", spec := "vfsInodesAreDistinct", inPlace := ["internal/bytealg.IndexByteString"], unfollowed := true, recurses := true, named := ["paxtar/paxrec.keys"], apart := false, laid := [("paxtar/paxrec.keys", laid_paxtar_paxrec_keys)] }
def VfsInodesAreDistinctSaid : Prop := vfsInodesAreDistinctRow.holds Tryd.pinned (OpenSpec.ofChange vfsInodesAreDistinctSpec)

/-- ITS FALSE NEIGHBOUR: 'it returns false'. Refute it at one input. -/
def vfsInodesAreDistinctWrong : ChangeSpec := { name := "vfsInodesAreDistinct", fn := fun _ => fun
  | [d1, d2] => { results := [.lit (.bool false)], args := [d1, d2] }
  | _ => none }
def VfsInodesAreDistinctWrongFalsely : Prop := vfsInodesAreDistinctRow.holds Tryd.pinned (OpenSpec.ofChange vfsInodesAreDistinctWrong)

/- THE SECOND FORM. 'bulk': how many values and letters a reading holds, each counted each time it is reached (what is shared counts as often as it is met; a slice's spare places count too). A statement '..UptoSaid' is the law's where the arguments, and the package variables that the reading takes, are together of bulk at most 1048576: NARROWER than '..Said'. Prove '..Said' where nothing that the law and all that it calls make is longer than what came in: it says more and counts as full. Else prove '..UptoSaid'. A law counts once. -/
mutual
def uptoBulk {H : Type} : DataW H → Nat
  | .lit (.string bytes) => bytes.length + 1
  | .lit _ => 1
  | .nil => 1
  | .ptr d => uptoBulk d + 1
  | .slice elems spare => uptoBulkAll elems + uptoBulkAll spare + 1
  | .agg parts => uptoBulkAll parts + 1
  | .iface _ d => uptoBulk d + 1
  | .map entries => uptoBulkEntries entries + 1
  | .held _ => 1
def uptoBulkAll {H : Type} : List (DataW H) → Nat
  | [] => 0
  | d :: r => uptoBulk d + uptoBulkAll r
def uptoBulkEntries {H : Type} : List (Lit × DataW H) → Nat
  | [] => 0
  | x :: r => uptoBulkEntry x + uptoBulkEntries r
def uptoBulkEntry {H : Type} : Lit × DataW H → Nat
  | (.string bytes, d) => bytes.length + uptoBulk d + 1
  | (_, d) => uptoBulk d + 1
 end
def uptoSmall : (H : Type) → List (DataW H) → Bool := fun _ ds => decide (uptoBulkAll ds ≤ 1048576)
def OpenSpec.upto (s : _root_.Go.ChangeSpec) : _root_.Go.OpenSpec := { _root_.Go.OpenSpec.ofChange s with cond := some uptoSmall }

/-- 'paxtarlaw19.VfsMatchesReference', WHERE WHAT IT READS IS OF BULK AT MOST 1048576: true; the input reads as it did. -/
def vfsMatchesReferenceUptoRow : OpenClaim := { program := "ythcbiohmghaobaadoor", sum := "27ea943b0465f129674f9465353bc6359ccae64b59912579cb2d1656193e3d73", func := "paxtar/paxtarlaw19.VfsMatchesReference", spec := "vfsMatchesReference", inPlace := ["internal/bytealg.IndexByteString"], unfollowed := true, recurses := true, named := ["paxtar/paxrec.keys"], apart := false, laid := [("paxtar/paxrec.keys", laid_paxtar_paxrec_keys)], narrowed := true }
def VfsMatchesReferenceUptoSaid : Prop := vfsMatchesReferenceUptoRow.holds Tryd.pinned (OpenSpec.upto vfsMatchesReferenceSpec)

/-- 'paxtarlaw19.VfsOptions', WHERE WHAT IT READS IS OF BULK AT MOST 1048576: true; the input reads as it did. -/
def vfsOptionsUptoRow : OpenClaim := { program := "ythcbiohmghaobaadoor", sum := "27ea943b0465f129674f9465353bc6359ccae64b59912579cb2d1656193e3d73", func := "paxtar/paxtarlaw19.VfsOptions", spec := "vfsOptions", inPlace := ["internal/bytealg.IndexByteString"], unfollowed := true, recurses := true, named := ["paxtar/paxrec.keys"], apart := false, laid := [("paxtar/paxrec.keys", laid_paxtar_paxrec_keys)], narrowed := true }
def VfsOptionsUptoSaid : Prop := vfsOptionsUptoRow.holds Tryd.pinned (OpenSpec.upto vfsOptionsSpec)

/-- 'paxtarlaw19.VfsListIsComplete', WHERE WHAT IT READS IS OF BULK AT MOST 1048576: true; the input reads as it did. -/
def vfsListIsCompleteUptoRow : OpenClaim := { program := "ythcbiohmghaobaadoor", sum := "27ea943b0465f129674f9465353bc6359ccae64b59912579cb2d1656193e3d73", func := "paxtar/paxtarlaw19.VfsListIsComplete", spec := "vfsListIsComplete", inPlace := ["internal/bytealg.IndexByteString", "internal/bytealg.IndexString"], unfollowed := true, recurses := true, named := ["paxtar/paxrec.keys", "internal/bytealg.MaxLen"], apart := false, laid := [("paxtar/paxrec.keys", laid_paxtar_paxrec_keys)], narrowed := true }
def VfsListIsCompleteUptoSaid : Prop := vfsListIsCompleteUptoRow.holds Tryd.pinned (OpenSpec.upto vfsListIsCompleteSpec)

/-- 'paxtarlaw19.VfsLinksShareFiles', WHERE WHAT IT READS IS OF BULK AT MOST 1048576: true; the input reads as it did. -/
def vfsLinksShareFilesUptoRow : OpenClaim := { program := "ythcbiohmghaobaadoor", sum := "27ea943b0465f129674f9465353bc6359ccae64b59912579cb2d1656193e3d73", func := "paxtar/paxtarlaw19.VfsLinksShareFiles", spec := "vfsLinksShareFiles", inPlace := ["internal/bytealg.IndexByteString"], unfollowed := true, recurses := true, named := ["paxtar/paxrec.keys"], apart := false, laid := [("paxtar/paxrec.keys", laid_paxtar_paxrec_keys)], narrowed := true }
def VfsLinksShareFilesUptoSaid : Prop := vfsLinksShareFilesUptoRow.holds Tryd.pinned (OpenSpec.upto vfsLinksShareFilesSpec)

/-- 'paxtarlaw19.VfsCreateRules', WHERE WHAT IT READS IS OF BULK AT MOST 1048576: true; the input reads as it did. -/
def vfsCreateRulesUptoRow : OpenClaim := { program := "ythcbiohmghaobaadoor", sum := "27ea943b0465f129674f9465353bc6359ccae64b59912579cb2d1656193e3d73", func := "paxtar/paxtarlaw19.VfsCreateRules", spec := "vfsCreateRules", inPlace := ["internal/bytealg.IndexByteString"], unfollowed := true, recurses := true, named := ["paxtar/paxrec.keys"], apart := false, laid := [("paxtar/paxrec.keys", laid_paxtar_paxrec_keys)], narrowed := true }
def VfsCreateRulesUptoSaid : Prop := vfsCreateRulesUptoRow.holds Tryd.pinned (OpenSpec.upto vfsCreateRulesSpec)

/-- 'paxtarlaw19.VfsInodesAreDistinct', WHERE WHAT IT READS IS OF BULK AT MOST 1048576: true; the input reads as it did. -/
def vfsInodesAreDistinctUptoRow : OpenClaim := { program := "ythcbiohmghaobaadoor", sum := "27ea943b0465f129674f9465353bc6359ccae64b59912579cb2d1656193e3d73", func := "paxtar/paxtarlaw19.VfsInodesAreDistinct", spec := "vfsInodesAreDistinct", inPlace := ["internal/bytealg.IndexByteString"], unfollowed := true, recurses := true, named := ["paxtar/paxrec.keys"], apart := false, laid := [("paxtar/paxrec.keys", laid_paxtar_paxrec_keys)], narrowed := true }
def VfsInodesAreDistinctUptoSaid : Prop := vfsInodesAreDistinctUptoRow.holds Tryd.pinned (OpenSpec.upto vfsInodesAreDistinctSpec)

end Rows
end Go.Proofs.YthcbiohmghaobaaDoor
