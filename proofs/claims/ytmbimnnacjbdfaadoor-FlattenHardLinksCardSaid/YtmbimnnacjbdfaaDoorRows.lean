/-
  NARROWER THAN 'FOR EVERY INPUT', by the rows' own cells (each row's printed sentence says how): TreeCanonIsCanonical: laid · TreeIsolated: laid · FlattenMembersMatchReference: laid · FlattenDependsOnTree: laid · FlattenHardLinks: laid.
  DERIVED. THE GIVEN ROWS OF THIS SEAT. 5 by the template 'for every input the law returns true; each argument reads behind the call as it read before'; 0 by the template 'total and deterministic' (their statements: YtmbimnnacjbdfaaDoorTotals.lean).
  GIVEN WITH THE SEED: the statements are not yours to turn. If you find one false, say at which input.
  Laid BY PROGRAM, IN A SANDBOX (cutbox-rows.mjs): the forced cells as the released guide's own fill.sh prints them over the translation bacd43702b9e858e… (all of the seat's roots in one cut). By AI agents, Wed Nov 11 2026. No macro, syntax, notation, axiom, sorry.
-/
import Derived.Test.YtmbimnnacjbdfaaDoorChecked
import GoSem.Claim
import GoSem.ClaimJoined
import GoSem.ClaimMapViews
import Derived.JoinedTies
import Derived.KernelRfl
namespace Go.Proofs.YtmbimnnacjbdfaaDoor
/- THE CELL 'sum', in the pinned program and in every row, IS THE sha256 OF THE DUMP (.gsa) THAT YtmbimnnacjbdfaaDoorProg.lean LOADS. Nothing in Lean hashes anything: it is a label: what it is worth is what the hold of that sum in a sandbox is worth. -/
noncomputable def Tryd.pinned : Pinned := { name := "ytmbimnnacjbdfaadoor", sum := "bacd43702b9e858ec5b22366ce6434f25a6f4291f9b714077a9f2da7b66bfc91", checked := Tryd.checked }
namespace Rows
def none {H : Type} : Left H := { results := [], args := [] }

/- WHAT THE LISTED PACKAGE-LEVEL VARIABLES READ AS WHEN THE CALL BEGINS. Each datum BY PROGRAM (the guide's laid-datum.mjs) off the statement by which the dump's own 'gosem.cut.vars' lays the variable. In a bare row this is a premise. The card (YtmbimnnacjbdfaaDoorCards.lean) ties it to the program's text. -/
def laid_paxtar_paxrec_keys {H : Type} : DataW H := .agg [.lit (.string [108, 105, 110, 107, 112, 97, 116, 104]), .lit (.string [112, 97, 116, 104]), .lit (.string [115, 105, 122, 101])]

/-- 'paxtarlaw13.TreeCanonIsCanonical': WHATEVER THE INPUT: true; the input reads as it did. -/
def treeCanonIsCanonicalSpec : ChangeSpec := { name := "treeCanonIsCanonical", fn := fun _ => fun
  | [d1, d2, d3] => { results := [.lit (.bool true)], args := [d1, d2, d3] }
  | _ => none }
def treeCanonIsCanonicalRow : OpenClaim := { program := "ytmbimnnacjbdfaadoor", sum := "bacd43702b9e858ec5b22366ce6434f25a6f4291f9b714077a9f2da7b66bfc91", func := "paxtar/paxtarlaw13.TreeCanonIsCanonical", spec := "treeCanonIsCanonical", inPlace := ["internal/bytealg.IndexByteString", "internal/bytealg.abigen_runtime_cmpstring"], unfollowed := true, recurses := true, named := ["paxtar/paxrec.keys"], apart := false, laid := [("paxtar/paxrec.keys", laid_paxtar_paxrec_keys)] }
def TreeCanonIsCanonicalSaid : Prop := treeCanonIsCanonicalRow.holds Tryd.pinned (OpenSpec.ofChange treeCanonIsCanonicalSpec)

/-- ITS FALSE NEIGHBOUR: 'it returns false'. Refute it at one input. -/
def treeCanonIsCanonicalWrong : ChangeSpec := { name := "treeCanonIsCanonical", fn := fun _ => fun
  | [d1, d2, d3] => { results := [.lit (.bool false)], args := [d1, d2, d3] }
  | _ => none }
def TreeCanonIsCanonicalWrongFalsely : Prop := treeCanonIsCanonicalRow.holds Tryd.pinned (OpenSpec.ofChange treeCanonIsCanonicalWrong)

/-- 'paxtarlaw13.TreeIsolated': WHATEVER THE INPUT: true; the input reads as it did. -/
def treeIsolatedSpec : ChangeSpec := { name := "treeIsolated", fn := fun _ => fun
  | [d] => { results := [.lit (.bool true)], args := [d] }
  | _ => none }
def treeIsolatedRow : OpenClaim := { program := "ytmbimnnacjbdfaadoor", sum := "bacd43702b9e858ec5b22366ce6434f25a6f4291f9b714077a9f2da7b66bfc91", func := "paxtar/paxtarlaw13.TreeIsolated", spec := "treeIsolated", inPlace := ["internal/bytealg.IndexByteString", "internal/bytealg.abigen_runtime_cmpstring"], unfollowed := true, recurses := true, named := ["paxtar/paxrec.keys"], apart := false, laid := [("paxtar/paxrec.keys", laid_paxtar_paxrec_keys)] }
def TreeIsolatedSaid : Prop := treeIsolatedRow.holds Tryd.pinned (OpenSpec.ofChange treeIsolatedSpec)

/-- ITS FALSE NEIGHBOUR: 'it returns false'. Refute it at one input. -/
def treeIsolatedWrong : ChangeSpec := { name := "treeIsolated", fn := fun _ => fun
  | [d] => { results := [.lit (.bool false)], args := [d] }
  | _ => none }
def TreeIsolatedWrongFalsely : Prop := treeIsolatedRow.holds Tryd.pinned (OpenSpec.ofChange treeIsolatedWrong)

/-- 'paxtarlaw14.FlattenMembersMatchReference': WHATEVER THE INPUT: true; the input reads as it did. -/
def flattenMembersMatchReferenceSpec : ChangeSpec := { name := "flattenMembersMatchReference", fn := fun _ => fun
  | [d] => { results := [.lit (.bool true)], args := [d] }
  | _ => none }
def flattenMembersMatchReferenceRow : OpenClaim := { program := "ytmbimnnacjbdfaadoor", sum := "bacd43702b9e858ec5b22366ce6434f25a6f4291f9b714077a9f2da7b66bfc91", func := "paxtar/paxtarlaw14.FlattenMembersMatchReference", spec := "flattenMembersMatchReference", inPlace := ["internal/bytealg.IndexByteString", "internal/bytealg.abigen_runtime_cmpstring"], unfollowed := true, recurses := true, named := ["paxtar/paxrec.keys"], apart := false, laid := [("paxtar/paxrec.keys", laid_paxtar_paxrec_keys)] }
def FlattenMembersMatchReferenceSaid : Prop := flattenMembersMatchReferenceRow.holds Tryd.pinned (OpenSpec.ofChange flattenMembersMatchReferenceSpec)

/-- ITS FALSE NEIGHBOUR: 'it returns false'. Refute it at one input. -/
def flattenMembersMatchReferenceWrong : ChangeSpec := { name := "flattenMembersMatchReference", fn := fun _ => fun
  | [d] => { results := [.lit (.bool false)], args := [d] }
  | _ => none }
def FlattenMembersMatchReferenceWrongFalsely : Prop := flattenMembersMatchReferenceRow.holds Tryd.pinned (OpenSpec.ofChange flattenMembersMatchReferenceWrong)

/-- 'paxtarlaw14.FlattenDependsOnTree': WHATEVER THE INPUT: true; the input reads as it did. -/
def flattenDependsOnTreeSpec : ChangeSpec := { name := "flattenDependsOnTree", fn := fun _ => fun
  | [d1, d2] => { results := [.lit (.bool true)], args := [d1, d2] }
  | _ => none }
def flattenDependsOnTreeRow : OpenClaim := { program := "ytmbimnnacjbdfaadoor", sum := "bacd43702b9e858ec5b22366ce6434f25a6f4291f9b714077a9f2da7b66bfc91", func := "paxtar/paxtarlaw14.FlattenDependsOnTree", spec := "flattenDependsOnTree", inPlace := ["internal/bytealg.IndexByteString", "internal/bytealg.abigen_runtime_cmpstring"], unfollowed := true, recurses := true, named := ["paxtar/paxrec.keys"], apart := false, laid := [("paxtar/paxrec.keys", laid_paxtar_paxrec_keys)] }
def FlattenDependsOnTreeSaid : Prop := flattenDependsOnTreeRow.holds Tryd.pinned (OpenSpec.ofChange flattenDependsOnTreeSpec)

/-- ITS FALSE NEIGHBOUR: 'it returns false'. Refute it at one input. -/
def flattenDependsOnTreeWrong : ChangeSpec := { name := "flattenDependsOnTree", fn := fun _ => fun
  | [d1, d2] => { results := [.lit (.bool false)], args := [d1, d2] }
  | _ => none }
def FlattenDependsOnTreeWrongFalsely : Prop := flattenDependsOnTreeRow.holds Tryd.pinned (OpenSpec.ofChange flattenDependsOnTreeWrong)

/-- 'paxtarlaw14.FlattenHardLinks': WHATEVER THE INPUT: true; the input reads as it did. -/
def flattenHardLinksSpec : ChangeSpec := { name := "flattenHardLinks", fn := fun _ => fun
  | [d] => { results := [.lit (.bool true)], args := [d] }
  | _ => none }
def flattenHardLinksRow : OpenClaim := { program := "ytmbimnnacjbdfaadoor", sum := "bacd43702b9e858ec5b22366ce6434f25a6f4291f9b714077a9f2da7b66bfc91", func := "paxtar/paxtarlaw14.FlattenHardLinks", spec := "flattenHardLinks", inPlace := ["internal/bytealg.IndexByteString", "internal/bytealg.abigen_runtime_cmpstring"], unfollowed := true, recurses := true, named := ["paxtar/paxrec.keys"], apart := false, laid := [("paxtar/paxrec.keys", laid_paxtar_paxrec_keys)] }
def FlattenHardLinksSaid : Prop := flattenHardLinksRow.holds Tryd.pinned (OpenSpec.ofChange flattenHardLinksSpec)

/-- ITS FALSE NEIGHBOUR: 'it returns false'. Refute it at one input. -/
def flattenHardLinksWrong : ChangeSpec := { name := "flattenHardLinks", fn := fun _ => fun
  | [d] => { results := [.lit (.bool false)], args := [d] }
  | _ => none }
def FlattenHardLinksWrongFalsely : Prop := flattenHardLinksRow.holds Tryd.pinned (OpenSpec.ofChange flattenHardLinksWrong)

/- THE SECOND FORM. 'bulk': how many values and letters a reading holds, each counted each time it is reached (what is shared counts as often as it is met; a slice's spare places count too). A statement '..UptoSaid' is the law's where the arguments, and the package variables that the reading takes, are together of bulk at most 1048576: NARROWER than '..Said'. Prove '..Said' where nothing that the law and all that it calls make is longer than what came in: it says more and counts as full. Else prove '..UptoSaid'. A law counts once. -/
mutual
def uptoBulk {H : Type} : DataW H → Nat
  | .lit (.string bytes) => bytes.length + 1
  | .lit _ => 1
  | .nil => 1
  | .ptr d => uptoBulk d + 1
  | .slice elems spare => uptoBulkAll elems + uptoBulkAll spare + 1
  | .agg parts => uptoBulkAll parts + 1
  | .iface _ d => uptoBulk d + 1
  | .map entries => uptoBulkEntries entries + 1
  | .held _ => 1
def uptoBulkAll {H : Type} : List (DataW H) → Nat
  | [] => 0
  | d :: r => uptoBulk d + uptoBulkAll r
def uptoBulkEntries {H : Type} : List (Lit × DataW H) → Nat
  | [] => 0
  | x :: r => uptoBulkEntry x + uptoBulkEntries r
def uptoBulkEntry {H : Type} : Lit × DataW H → Nat
  | (.string bytes, d) => bytes.length + uptoBulk d + 1
  | (_, d) => uptoBulk d + 1
 end
def uptoSmall : (H : Type) → List (DataW H) → Bool := fun _ ds => decide (uptoBulkAll ds ≤ 1048576)
def OpenSpec.upto (s : _root_.Go.ChangeSpec) : _root_.Go.OpenSpec := { _root_.Go.OpenSpec.ofChange s with cond := some uptoSmall }

/-- 'paxtarlaw13.TreeCanonIsCanonical', WHERE WHAT IT READS IS OF BULK AT MOST 1048576: true; the input reads as it did. -/
def treeCanonIsCanonicalUptoRow : OpenClaim := { program := "ytmbimnnacjbdfaadoor", sum := "bacd43702b9e858ec5b22366ce6434f25a6f4291f9b714077a9f2da7b66bfc91", func := "paxtar/paxtarlaw13.TreeCanonIsCanonical", spec := "treeCanonIsCanonical", inPlace := ["internal/bytealg.IndexByteString", "internal/bytealg.abigen_runtime_cmpstring"], unfollowed := true, recurses := true, named := ["paxtar/paxrec.keys"], apart := false, laid := [("paxtar/paxrec.keys", laid_paxtar_paxrec_keys)], narrowed := true }
def TreeCanonIsCanonicalUptoSaid : Prop := treeCanonIsCanonicalUptoRow.holds Tryd.pinned (OpenSpec.upto treeCanonIsCanonicalSpec)

/-- 'paxtarlaw13.TreeIsolated', WHERE WHAT IT READS IS OF BULK AT MOST 1048576: true; the input reads as it did. -/
def treeIsolatedUptoRow : OpenClaim := { program := "ytmbimnnacjbdfaadoor", sum := "bacd43702b9e858ec5b22366ce6434f25a6f4291f9b714077a9f2da7b66bfc91", func := "paxtar/paxtarlaw13.TreeIsolated", spec := "treeIsolated", inPlace := ["internal/bytealg.IndexByteString", "internal/bytealg.abigen_runtime_cmpstring"], unfollowed := true, recurses := true, named := ["paxtar/paxrec.keys"], apart := false, laid := [("paxtar/paxrec.keys", laid_paxtar_paxrec_keys)], narrowed := true }
def TreeIsolatedUptoSaid : Prop := treeIsolatedUptoRow.holds Tryd.pinned (OpenSpec.upto treeIsolatedSpec)

/-- 'paxtarlaw14.FlattenMembersMatchReference', WHERE WHAT IT READS IS OF BULK AT MOST 1048576: true; the input reads as it did. -/
def flattenMembersMatchReferenceUptoRow : OpenClaim := { program := "ytmbimnnacjbdfaadoor", sum := "bacd43702b9e858ec5b22366ce6434f25a6f4291f9b714077a9f2da7b66bfc91", func := "paxtar/paxtarlaw14.FlattenMembersMatchReference", spec := "flattenMembersMatchReference", inPlace := ["internal/bytealg.IndexByteString", "internal/bytealg.abigen_runtime_cmpstring"], unfollowed := true, recurses := true, named := ["paxtar/paxrec.keys"], apart := false, laid := [("paxtar/paxrec.keys", laid_paxtar_paxrec_keys)], narrowed := true }
def FlattenMembersMatchReferenceUptoSaid : Prop := flattenMembersMatchReferenceUptoRow.holds Tryd.pinned (OpenSpec.upto flattenMembersMatchReferenceSpec)

/-- 'paxtarlaw14.FlattenDependsOnTree', WHERE WHAT IT READS IS OF BULK AT MOST 1048576: true; the input reads as it did. -/
def flattenDependsOnTreeUptoRow : OpenClaim := { program := "ytmbimnnacjbdfaadoor", sum := "bacd43702b9e858ec5b22366ce6434f25a6f4291f9b714077a9f2da7b66bfc91", func := "paxtar/paxtarlaw14.FlattenDependsOnTree", spec := "flattenDependsOnTree", inPlace := ["internal/bytealg.IndexByteString", "internal/bytealg.abigen_runtime_cmpstring"], unfollowed := true, recurses := true, named := ["paxtar/paxrec.keys"], apart := false, laid := [("paxtar/paxrec.keys", laid_paxtar_paxrec_keys)], narrowed := true }
def FlattenDependsOnTreeUptoSaid : Prop := flattenDependsOnTreeUptoRow.holds Tryd.pinned (OpenSpec.upto flattenDependsOnTreeSpec)

/-- 'paxtarlaw14.FlattenHardLinks', WHERE WHAT IT READS IS OF BULK AT MOST 1048576: true; the input reads as it did. -/
def flattenHardLinksUptoRow : OpenClaim := { program := "ytmbimnnacjbdfaadoor", sum := "bacd43702b9e858ec5b22366ce6434f25a6f4291f9b714077a9f2da7b66bfc91", func := "paxtar/paxtarlaw14.FlattenHardLinks", spec := "flattenHardLinks", inPlace := ["internal/bytealg.IndexByteString", "internal/bytealg.abigen_runtime_cmpstring"], unfollowed := true, recurses := true, named := ["paxtar/paxrec.keys"], apart := false, laid := [("paxtar/paxrec.keys", laid_paxtar_paxrec_keys)], narrowed := true }
def FlattenHardLinksUptoSaid : Prop := flattenHardLinksUptoRow.holds Tryd.pinned (OpenSpec.upto flattenHardLinksSpec)

end Rows
end Go.Proofs.YtmbimnnacjbdfaaDoor
