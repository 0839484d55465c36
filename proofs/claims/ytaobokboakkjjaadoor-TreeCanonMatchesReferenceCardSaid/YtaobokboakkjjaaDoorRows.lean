/-
  NARROWER THAN 'FOR EVERY INPUT', by the rows' own cells (each row's printed sentence says how): TreeCheckMatchesReference: laid · TreeCanonMatchesReference: laid · TreeCanonIsCanonical: laid · TreeRemoveNode: laid · TreeIsolated: laid · TreeAddNode: laid · TreeClassesMustAgree: laid.
  DERIVED. THE GIVEN ROWS OF THIS SEAT. 7 by the template 'for every input the law returns true; each argument reads behind the call as it read before'; 0 by the template 'total and deterministic' (their statements: YtaobokboakkjjaaDoorTotals.lean).
  GIVEN WITH THE SEED: the statements are not yours to turn. If you find one false, say at which input.
  Laid BY PROGRAM, IN A SANDBOX (cutbox-rows.mjs): the forced cells as the released guide's own fill.sh prints them over the translation a307f10ab994c68f… (all of the seat's roots in one cut). By AI agents, Wed Nov 11 2026. No macro, syntax, notation, axiom, sorry.
-/
import Derived.Test.YtaobokboakkjjaaDoorChecked
import GoSem.Claim
import GoSem.ClaimJoined
import GoSem.ClaimMapViews
import Derived.JoinedTies
import Derived.KernelRfl
namespace Go.Proofs.YtaobokboakkjjaaDoor
/- THE CELL 'sum', in the pinned program and in every row, IS THE sha256 OF THE DUMP (.gsa) THAT YtaobokboakkjjaaDoorProg.lean LOADS. Nothing in Lean hashes anything: it is a label: what it is worth is what the hold of that sum in a sandbox is worth. -/
noncomputable def Tryd.pinned : Pinned := { name := "ytaobokboakkjjaadoor", sum := "a307f10ab994c68fb128dd169b5ae44936b2bf5fd84e42257c48126240e1b142", checked := Tryd.checked }
namespace Rows
def none {H : Type} : Left H := { results := [], args := [] }

/- WHAT THE LISTED PACKAGE-LEVEL VARIABLES READ AS WHEN THE CALL BEGINS. Each datum BY PROGRAM (the guide's laid-datum.mjs) off the statement by which the dump's own 'gosem.cut.vars' lays the variable. In a bare row this is a premise. The card (YtaobokboakkjjaaDoorCards.lean) ties it to the program's text. -/
def laid_paxtar_paxrec_keys {H : Type} : DataW H := .agg [.lit (.string [108, 105, 110, 107, 112, 97, 116, 104]), .lit (.string [112, 97, 116, 104]), .lit (.string [115, 105, 122, 101])]

/-- 'paxtarlaw13.TreeCheckMatchesReference': WHATEVER THE INPUT: true; the input reads as it did. -/
def treeCheckMatchesReferenceSpec : ChangeSpec := { name := "treeCheckMatchesReference", fn := fun _ => fun
  | [d1, d2] => { results := [.lit (.bool true)], args := [d1, d2] }
  | _ => none }
def treeCheckMatchesReferenceRow : OpenClaim := { program := "ytaobokboakkjjaadoor", sum := "a307f10ab994c68fb128dd169b5ae44936b2bf5fd84e42257c48126240e1b142", func := "paxtar/paxtarlaw13.TreeCheckMatchesReference", spec := "treeCheckMatchesReference", inPlace := ["internal/bytealg.IndexByteString"], unfollowed := true, recurses := true, named := ["paxtar/paxrec.keys"], apart := false, laid := [("paxtar/paxrec.keys", laid_paxtar_paxrec_keys)] }
def TreeCheckMatchesReferenceSaid : Prop := treeCheckMatchesReferenceRow.holds Tryd.pinned (OpenSpec.ofChange treeCheckMatchesReferenceSpec)

/-- ITS FALSE NEIGHBOUR: 'it returns false'. Refute it at one input. -/
def treeCheckMatchesReferenceWrong : ChangeSpec := { name := "treeCheckMatchesReference", fn := fun _ => fun
  | [d1, d2] => { results := [.lit (.bool false)], args := [d1, d2] }
  | _ => none }
def TreeCheckMatchesReferenceWrongFalsely : Prop := treeCheckMatchesReferenceRow.holds Tryd.pinned (OpenSpec.ofChange treeCheckMatchesReferenceWrong)

/-- 'paxtarlaw13.TreeCanonMatchesReference': WHATEVER THE INPUT: true; the input reads as it did. -/
def treeCanonMatchesReferenceSpec : ChangeSpec := { name := "treeCanonMatchesReference", fn := fun _ => fun
  | [d1, d2] => { results := [.lit (.bool true)], args := [d1, d2] }
  | _ => none }
def treeCanonMatchesReferenceRow : OpenClaim := { program := "ytaobokboakkjjaadoor", sum := "a307f10ab994c68fb128dd169b5ae44936b2bf5fd84e42257c48126240e1b142", func := "paxtar/paxtarlaw13.TreeCanonMatchesReference", spec := "treeCanonMatchesReference", inPlace := ["internal/bytealg.IndexByteString", "internal/bytealg.abigen_runtime_cmpstring"], unfollowed := true, recurses := true, named := ["paxtar/paxrec.keys"], apart := false, laid := [("paxtar/paxrec.keys", laid_paxtar_paxrec_keys)] }
def TreeCanonMatchesReferenceSaid : Prop := treeCanonMatchesReferenceRow.holds Tryd.pinned (OpenSpec.ofChange treeCanonMatchesReferenceSpec)

/-- ITS FALSE NEIGHBOUR: 'it returns false'. Refute it at one input. -/
def treeCanonMatchesReferenceWrong : ChangeSpec := { name := "treeCanonMatchesReference", fn := fun _ => fun
  | [d1, d2] => { results := [.lit (.bool false)], args := [d1, d2] }
  | _ => none }
def TreeCanonMatchesReferenceWrongFalsely : Prop := treeCanonMatchesReferenceRow.holds Tryd.pinned (OpenSpec.ofChange treeCanonMatchesReferenceWrong)

/-- 'paxtarlaw13.TreeCanonIsCanonical': WHATEVER THE INPUT: true; the input reads as it did. -/
def treeCanonIsCanonicalSpec : ChangeSpec := { name := "treeCanonIsCanonical", fn := fun _ => fun
  | [d1, d2, d3] => { results := [.lit (.bool true)], args := [d1, d2, d3] }
  | _ => none }
def treeCanonIsCanonicalRow : OpenClaim := { program := "ytaobokboakkjjaadoor", sum := "a307f10ab994c68fb128dd169b5ae44936b2bf5fd84e42257c48126240e1b142", func := "paxtar/paxtarlaw13.TreeCanonIsCanonical", spec := "treeCanonIsCanonical", inPlace := ["internal/bytealg.IndexByteString", "internal/bytealg.abigen_runtime_cmpstring"], unfollowed := true, recurses := true, named := ["paxtar/paxrec.keys"], apart := false, laid := [("paxtar/paxrec.keys", laid_paxtar_paxrec_keys)] }
def TreeCanonIsCanonicalSaid : Prop := treeCanonIsCanonicalRow.holds Tryd.pinned (OpenSpec.ofChange treeCanonIsCanonicalSpec)

/-- ITS FALSE NEIGHBOUR: 'it returns false'. Refute it at one input. -/
def treeCanonIsCanonicalWrong : ChangeSpec := { name := "treeCanonIsCanonical", fn := fun _ => fun
  | [d1, d2, d3] => { results := [.lit (.bool false)], args := [d1, d2, d3] }
  | _ => none }
def TreeCanonIsCanonicalWrongFalsely : Prop := treeCanonIsCanonicalRow.holds Tryd.pinned (OpenSpec.ofChange treeCanonIsCanonicalWrong)

/-- 'paxtarlaw13.TreeRemoveNode': WHATEVER THE INPUT: true; the input reads as it did. -/
def treeRemoveNodeSpec : ChangeSpec := { name := "treeRemoveNode", fn := fun _ => fun
  | [d1, d2] => { results := [.lit (.bool true)], args := [d1, d2] }
  | _ => none }
def treeRemoveNodeRow : OpenClaim := { program := "ytaobokboakkjjaadoor", sum := "a307f10ab994c68fb128dd169b5ae44936b2bf5fd84e42257c48126240e1b142", func := "paxtar/paxtarlaw13.TreeRemoveNode", spec := "treeRemoveNode", inPlace := ["internal/bytealg.IndexByteString"], unfollowed := true, recurses := true, named := ["paxtar/paxrec.keys"], apart := false, laid := [("paxtar/paxrec.keys", laid_paxtar_paxrec_keys)] }
def TreeRemoveNodeSaid : Prop := treeRemoveNodeRow.holds Tryd.pinned (OpenSpec.ofChange treeRemoveNodeSpec)

/-- ITS FALSE NEIGHBOUR: 'it returns false'. Refute it at one input. -/
def treeRemoveNodeWrong : ChangeSpec := { name := "treeRemoveNode", fn := fun _ => fun
  | [d1, d2] => { results := [.lit (.bool false)], args := [d1, d2] }
  | _ => none }
def TreeRemoveNodeWrongFalsely : Prop := treeRemoveNodeRow.holds Tryd.pinned (OpenSpec.ofChange treeRemoveNodeWrong)

/-- 'paxtarlaw13.TreeIsolated': WHATEVER THE INPUT: true; the input reads as it did. -/
def treeIsolatedSpec : ChangeSpec := { name := "treeIsolated", fn := fun _ => fun
  | [d] => { results := [.lit (.bool true)], args := [d] }
  | _ => none }
def treeIsolatedRow : OpenClaim := { program := "ytaobokboakkjjaadoor", sum := "a307f10ab994c68fb128dd169b5ae44936b2bf5fd84e42257c48126240e1b142", func := "paxtar/paxtarlaw13.TreeIsolated", spec := "treeIsolated", inPlace := ["internal/bytealg.IndexByteString", "internal/bytealg.abigen_runtime_cmpstring"], unfollowed := true, recurses := true, named := ["paxtar/paxrec.keys"], apart := false, laid := [("paxtar/paxrec.keys", laid_paxtar_paxrec_keys)] }
def TreeIsolatedSaid : Prop := treeIsolatedRow.holds Tryd.pinned (OpenSpec.ofChange treeIsolatedSpec)

/-- ITS FALSE NEIGHBOUR: 'it returns false'. Refute it at one input. -/
def treeIsolatedWrong : ChangeSpec := { name := "treeIsolated", fn := fun _ => fun
  | [d] => { results := [.lit (.bool false)], args := [d] }
  | _ => none }
def TreeIsolatedWrongFalsely : Prop := treeIsolatedRow.holds Tryd.pinned (OpenSpec.ofChange treeIsolatedWrong)

/-- 'paxtarlaw13.TreeAddNode': WHATEVER THE INPUT: true; the input reads as it did. -/
def treeAddNodeSpec : ChangeSpec := { name := "treeAddNode", fn := fun _ => fun
  | [d1, d2] => { results := [.lit (.bool true)], args := [d1, d2] }
  | _ => none }
def treeAddNodeRow : OpenClaim := { program := "ytaobokboakkjjaadoor", sum := "a307f10ab994c68fb128dd169b5ae44936b2bf5fd84e42257c48126240e1b142", func := "paxtar/paxtarlaw13.TreeAddNode", spec := "treeAddNode", inPlace := ["internal/bytealg.IndexByteString"], unfollowed := true, recurses := true, named := ["paxtar/paxrec.keys"], apart := false, laid := [("paxtar/paxrec.keys", laid_paxtar_paxrec_keys)] }
def TreeAddNodeSaid : Prop := treeAddNodeRow.holds Tryd.pinned (OpenSpec.ofChange treeAddNodeSpec)

/-- ITS FALSE NEIGHBOUR: 'it returns false'. Refute it at one input. -/
def treeAddNodeWrong : ChangeSpec := { name := "treeAddNode", fn := fun _ => fun
  | [d1, d2] => { results := [.lit (.bool false)], args := [d1, d2] }
  | _ => none }
def TreeAddNodeWrongFalsely : Prop := treeAddNodeRow.holds Tryd.pinned (OpenSpec.ofChange treeAddNodeWrong)

/-- 'paxtarlaw13.TreeClassesMustAgree': WHATEVER THE INPUT: true; the input reads as it did. -/
def treeClassesMustAgreeSpec : ChangeSpec := { name := "treeClassesMustAgree", fn := fun _ => fun
  | [d1, d2, d3] => { results := [.lit (.bool true)], args := [d1, d2, d3] }
  | _ => none }
def treeClassesMustAgreeRow : OpenClaim := { program := "ytaobokboakkjjaadoor", sum := "a307f10ab994c68fb128dd169b5ae44936b2bf5fd84e42257c48126240e1b142", func := "paxtar/paxtarlaw13.TreeClassesMustAgree", spec := "treeClassesMustAgree", inPlace := ["internal/bytealg.IndexByteString"], unfollowed := true, recurses := true, named := ["paxtar/paxrec.keys"], apart := false, laid := [("paxtar/paxrec.keys", laid_paxtar_paxrec_keys)] }
def TreeClassesMustAgreeSaid : Prop := treeClassesMustAgreeRow.holds Tryd.pinned (OpenSpec.ofChange treeClassesMustAgreeSpec)

/-- ITS FALSE NEIGHBOUR: 'it returns false'. Refute it at one input. -/
def treeClassesMustAgreeWrong : ChangeSpec := { name := "treeClassesMustAgree", fn := fun _ => fun
  | [d1, d2, d3] => { results := [.lit (.bool false)], args := [d1, d2, d3] }
  | _ => none }
def TreeClassesMustAgreeWrongFalsely : Prop := treeClassesMustAgreeRow.holds Tryd.pinned (OpenSpec.ofChange treeClassesMustAgreeWrong)

/- THE SECOND FORM. 'bulk': how many values and letters a reading holds, each counted each time it is reached (what is shared counts as often as it is met; a slice's spare places count too). A statement '..UptoSaid' is the law's where the arguments, and the package variables that the reading takes, are together of bulk at most 1048576: NARROWER than '..Said'. Prove '..Said' where nothing that the law and all that it calls make is longer than what came in: it says more and counts as full. Else prove '..UptoSaid'. A law counts once. -/
mutual
def uptoBulk {H : Type} : DataW H → Nat
  | .lit (.string bytes) => bytes.length + 1
  | .lit _ => 1
  | .nil => 1
  | .ptr d => uptoBulk d + 1
  | .slice elems spare => uptoBulkAll elems + uptoBulkAll spare + 1
  | .agg parts => uptoBulkAll parts + 1
  | .iface _ d => uptoBulk d + 1
  | .map entries => uptoBulkEntries entries + 1
  | .held _ => 1
def uptoBulkAll {H : Type} : List (DataW H) → Nat
  | [] => 0
  | d :: r => uptoBulk d + uptoBulkAll r
def uptoBulkEntries {H : Type} : List (Lit × DataW H) → Nat
  | [] => 0
  | x :: r => uptoBulkEntry x + uptoBulkEntries r
def uptoBulkEntry {H : Type} : Lit × DataW H → Nat
  | (.string bytes, d) => bytes.length + uptoBulk d + 1
  | (_, d) => uptoBulk d + 1
 end
def uptoSmall : (H : Type) → List (DataW H) → Bool := fun _ ds => decide (uptoBulkAll ds ≤ 1048576)
def OpenSpec.upto (s : _root_.Go.ChangeSpec) : _root_.Go.OpenSpec := { _root_.Go.OpenSpec.ofChange s with cond := some uptoSmall }

/-- 'paxtarlaw13.TreeCheckMatchesReference', WHERE WHAT IT READS IS OF BULK AT MOST 1048576: true; the input reads as it did. -/
def treeCheckMatchesReferenceUptoRow : OpenClaim := { program := "ytaobokboakkjjaadoor", sum := "a307f10ab994c68fb128dd169b5ae44936b2bf5fd84e42257c48126240e1b142", func := "paxtar/paxtarlaw13.TreeCheckMatchesReference", spec := "treeCheckMatchesReference", inPlace := ["internal/bytealg.IndexByteString"], unfollowed := true, recurses := true, named := ["paxtar/paxrec.keys"], apart := false, laid := [("paxtar/paxrec.keys", laid_paxtar_paxrec_keys)], narrowed := true }
def TreeCheckMatchesReferenceUptoSaid : Prop := treeCheckMatchesReferenceUptoRow.holds Tryd.pinned (OpenSpec.upto treeCheckMatchesReferenceSpec)

/-- 'paxtarlaw13.TreeCanonMatchesReference', WHERE WHAT IT READS IS OF BULK AT MOST 1048576: true; the input reads as it did. -/
def treeCanonMatchesReferenceUptoRow : OpenClaim := { program := "ytaobokboakkjjaadoor", sum := "a307f10ab994c68fb128dd169b5ae44936b2bf5fd84e42257c48126240e1b142", func := "paxtar/paxtarlaw13.TreeCanonMatchesReference", spec := "treeCanonMatchesReference", inPlace := ["internal/bytealg.IndexByteString", "internal/bytealg.abigen_runtime_cmpstring"], unfollowed := true, recurses := true, named := ["paxtar/paxrec.keys"], apart := false, laid := [("paxtar/paxrec.keys", laid_paxtar_paxrec_keys)], narrowed := true }
def TreeCanonMatchesReferenceUptoSaid : Prop := treeCanonMatchesReferenceUptoRow.holds Tryd.pinned (OpenSpec.upto treeCanonMatchesReferenceSpec)

/-- 'paxtarlaw13.TreeCanonIsCanonical', WHERE WHAT IT READS IS OF BULK AT MOST 1048576: true; the input reads as it did. -/
def treeCanonIsCanonicalUptoRow : OpenClaim := { program := "ytaobokboakkjjaadoor", sum := "a307f10ab994c68fb128dd169b5ae44936b2bf5fd84e42257c48126240e1b142", func := "paxtar/paxtarlaw13.TreeCanonIsCanonical", spec := "treeCanonIsCanonical", inPlace := ["internal/bytealg.IndexByteString", "internal/bytealg.abigen_runtime_cmpstring"], unfollowed := true, recurses := true, named := ["paxtar/paxrec.keys"], apart := false, laid := [("paxtar/paxrec.keys", laid_paxtar_paxrec_keys)], narrowed := true }
def TreeCanonIsCanonicalUptoSaid : Prop := treeCanonIsCanonicalUptoRow.holds Tryd.pinned (OpenSpec.upto treeCanonIsCanonicalSpec)

/-- 'paxtarlaw13.TreeRemoveNode', WHERE WHAT IT READS IS OF BULK AT MOST 1048576: true; the input reads as it did. -/
def treeRemoveNodeUptoRow : OpenClaim := { program := "ytaobokboakkjjaadoor", sum := "a307f10ab994c68fb128dd169b5ae44936b2bf5fd84e42257c48126240e1b142", func := "paxtar/paxtarlaw13.TreeRemoveNode", spec := "treeRemoveNode", inPlace := ["internal/bytealg.IndexByteString"], unfollowed := true, recurses := true, named := ["paxtar/paxrec.keys"], apart := false, laid := [("paxtar/paxrec.keys", laid_paxtar_paxrec_keys)], narrowed := true }
def TreeRemoveNodeUptoSaid : Prop := treeRemoveNodeUptoRow.holds Tryd.pinned (OpenSpec.upto treeRemoveNodeSpec)

/-- 'paxtarlaw13.TreeIsolated', WHERE WHAT IT READS IS OF BULK AT MOST 1048576: true; the input reads as it did. -/
def treeIsolatedUptoRow : OpenClaim := { program := "ytaobokboakkjjaadoor", sum := "a307f10ab994c68fb128dd169b5ae44936b2bf5fd84e42257c48126240e1b142", func := "paxtar/paxtarlaw13.TreeIsolated", spec := "treeIsolated", inPlace := ["internal/bytealg.IndexByteString", "internal/bytealg.abigen_runtime_cmpstring"], unfollowed := true, recurses := true, named := ["paxtar/paxrec.keys"], apart := false, laid := [("paxtar/paxrec.keys", laid_paxtar_paxrec_keys)], narrowed := true }
def TreeIsolatedUptoSaid : Prop := treeIsolatedUptoRow.holds Tryd.pinned (OpenSpec.upto treeIsolatedSpec)

/-- 'paxtarlaw13.TreeAddNode', WHERE WHAT IT READS IS OF BULK AT MOST 1048576: true; the input reads as it did. -/
def treeAddNodeUptoRow : OpenClaim := { program := "ytaobokboakkjjaadoor", sum := "a307f10ab994c68fb128dd169b5ae44936b2bf5fd84e42257c48126240e1b142", func := "paxtar/paxtarlaw13.TreeAddNode", spec := "treeAddNode", inPlace := ["internal/bytealg.IndexByteString"], unfollowed := true, recurses := true, named := ["paxtar/paxrec.keys"], apart := false, laid := [("paxtar/paxrec.keys", laid_paxtar_paxrec_keys)], narrowed := true }
def TreeAddNodeUptoSaid : Prop := treeAddNodeUptoRow.holds Tryd.pinned (OpenSpec.upto treeAddNodeSpec)

/-- 'paxtarlaw13.TreeClassesMustAgree', WHERE WHAT IT READS IS OF BULK AT MOST 1048576: true; the input reads as it did. -/
def treeClassesMustAgreeUptoRow : OpenClaim := { program := "ytaobokboakkjjaadoor", sum := "a307f10ab994c68fb128dd169b5ae44936b2bf5fd84e42257c48126240e1b142", func := "paxtar/paxtarlaw13.TreeClassesMustAgree", spec := "treeClassesMustAgree", inPlace := ["internal/bytealg.IndexByteString"], unfollowed := true, recurses := true, named := ["paxtar/paxrec.keys"], apart := false, laid := [("paxtar/paxrec.keys", laid_paxtar_paxrec_keys)], narrowed := true }
def TreeClassesMustAgreeUptoSaid : Prop := treeClassesMustAgreeUptoRow.holds Tryd.pinned (OpenSpec.upto treeClassesMustAgreeSpec)

end Rows
end Go.Proofs.YtaobokboakkjjaaDoor
