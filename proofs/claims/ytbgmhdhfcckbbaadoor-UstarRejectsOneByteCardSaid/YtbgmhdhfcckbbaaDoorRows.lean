/-
  NARROWER THAN 'FOR EVERY INPUT', by the rows' own cells (each row's printed sentence says how): UstarEncodeMatchesReference: laid · UstarDecodeMatchesReference: laid · UstarRoundTrip: laid · UstarRejectsOneByte: laid · UstarFields: laid · UstarLimits: laid.
  DERIVED. THE GIVEN ROWS OF THIS SEAT. 6 by the template 'for every input the law returns true; each argument reads behind the call as it read before'; 0 by the template 'total and deterministic' (their statements: YtbgmhdhfcckbbaaDoorTotals.lean).
  GIVEN WITH THE SEED: the statements are not yours to turn. If you find one false, say at which input.
  Laid BY PROGRAM, IN A SANDBOX (cutbox-rows.mjs): the forced cells as the released guide's own fill.sh prints them over the translation e7f9952cdc16ebe3… (all of the seat's roots in one cut). By AI agents, Wed Nov 11 2026. No macro, syntax, notation, axiom, sorry.
-/
import Derived.Test.YtbgmhdhfcckbbaaDoorChecked
import GoSem.PinnedTables
import GoSem.Claim
import GoSem.ClaimJoined
import GoSem.ClaimMapViews
import Derived.JoinedTies
import Derived.KernelRfl
namespace Go.Proofs.YtbgmhdhfcckbbaaDoor
/- THE CELL 'sum', in the pinned program and in every row, IS THE sha256 OF THE DUMP (.gsa) THAT YtbgmhdhfcckbbaaDoorProg.lean LOADS. Nothing in Lean hashes anything: it is a label: what it is worth is what the hold of that sum in a sandbox is worth. -/
noncomputable def Tryd.pinned : Pinned := { name := "ytbgmhdhfcckbbaadoor", sum := "e7f9952cdc16ebe3ae4f8b5ae7515f1ca0d08b4a584a79311a6e31a6aa5729b1", checked := Tryd.checked }
namespace Rows
def none {H : Type} : Left H := { results := [], args := [] }

/- WHAT THE LISTED PACKAGE-LEVEL VARIABLES READ AS WHEN THE CALL BEGINS. Each datum BY PROGRAM (the guide's laid-datum.mjs) off the statement by which the dump's own 'gosem.cut.vars' lays the variable. In a bare row this is a premise. The card (YtbgmhdhfcckbbaaDoorCards.lean) ties it to the program's text. -/
def laid_unicode_utf8_acceptRanges {H : Type} : DataW H := .agg [.agg [.lit (.int .u8 128), .lit (.int .u8 191)], .agg [.lit (.int .u8 160), .lit (.int .u8 191)], .agg [.lit (.int .u8 128), .lit (.int .u8 159)], .agg [.lit (.int .u8 144), .lit (.int .u8 191)], .agg [.lit (.int .u8 128), .lit (.int .u8 143)], .agg [.lit (.int .u8 0), .lit (.int .u8 0)], .agg [.lit (.int .u8 0), .lit (.int .u8 0)], .agg [.lit (.int .u8 0), .lit (.int .u8 0)], .agg [.lit (.int .u8 0), .lit (.int .u8 0)], .agg [.lit (.int .u8 0), .lit (.int .u8 0)], .agg [.lit (.int .u8 0), .lit (.int .u8 0)], .agg [.lit (.int .u8 0), .lit (.int .u8 0)], .agg [.lit (.int .u8 0), .lit (.int .u8 0)], .agg [.lit (.int .u8 0), .lit (.int .u8 0)], .agg [.lit (.int .u8 0), .lit (.int .u8 0)], .agg [.lit (.int .u8 0), .lit (.int .u8 0)]]
/-- One of Go's own tables, pinned by name: the form's constant. -/
def laid_unicode_utf8_first : DataW Unit := Go.Pinned.utf8First

/-- 'paxtarlaw07.UstarEncodeMatchesReference': WHATEVER THE INPUT: true; the input reads as it did. -/
def ustarEncodeMatchesReferenceSpec : ChangeSpec := { name := "ustarEncodeMatchesReference", fn := fun _ => fun
  | [d] => { results := [.lit (.bool true)], args := [d] }
  | _ => none }
def ustarEncodeMatchesReferenceRow : OpenClaim := { program := "ytbgmhdhfcckbbaadoor", sum := "e7f9952cdc16ebe3ae4f8b5ae7515f1ca0d08b4a584a79311a6e31a6aa5729b1", func := "paxtar/paxtarlaw07.UstarEncodeMatchesReference", spec := "ustarEncodeMatchesReference", inPlace := ["internal/bytealg.IndexByteString", "internal/bytealg.IndexByte"], unfollowed := true, recurses := true, named := ["unicode/utf8.first", "unicode/utf8.acceptRanges"], apart := false, laid := [("unicode/utf8.acceptRanges", laid_unicode_utf8_acceptRanges), ("unicode/utf8.first", laid_unicode_utf8_first)] }
def UstarEncodeMatchesReferenceSaid : Prop := ustarEncodeMatchesReferenceRow.holds Tryd.pinned (OpenSpec.ofChange ustarEncodeMatchesReferenceSpec)

/-- ITS FALSE NEIGHBOUR: 'it returns false'. Refute it at one input. -/
def ustarEncodeMatchesReferenceWrong : ChangeSpec := { name := "ustarEncodeMatchesReference", fn := fun _ => fun
  | [d] => { results := [.lit (.bool false)], args := [d] }
  | _ => none }
def UstarEncodeMatchesReferenceWrongFalsely : Prop := ustarEncodeMatchesReferenceRow.holds Tryd.pinned (OpenSpec.ofChange ustarEncodeMatchesReferenceWrong)

/-- 'paxtarlaw07.UstarDecodeMatchesReference': WHATEVER THE INPUT: true; the input reads as it did. -/
def ustarDecodeMatchesReferenceSpec : ChangeSpec := { name := "ustarDecodeMatchesReference", fn := fun _ => fun
  | [d] => { results := [.lit (.bool true)], args := [d] }
  | _ => none }
def ustarDecodeMatchesReferenceRow : OpenClaim := { program := "ytbgmhdhfcckbbaadoor", sum := "e7f9952cdc16ebe3ae4f8b5ae7515f1ca0d08b4a584a79311a6e31a6aa5729b1", func := "paxtar/paxtarlaw07.UstarDecodeMatchesReference", spec := "ustarDecodeMatchesReference", inPlace := ["internal/bytealg.IndexByteString", "internal/bytealg.IndexByte"], unfollowed := true, recurses := true, named := ["unicode/utf8.first", "unicode/utf8.acceptRanges"], apart := false, laid := [("unicode/utf8.acceptRanges", laid_unicode_utf8_acceptRanges), ("unicode/utf8.first", laid_unicode_utf8_first)] }
def UstarDecodeMatchesReferenceSaid : Prop := ustarDecodeMatchesReferenceRow.holds Tryd.pinned (OpenSpec.ofChange ustarDecodeMatchesReferenceSpec)

/-- ITS FALSE NEIGHBOUR: 'it returns false'. Refute it at one input. -/
def ustarDecodeMatchesReferenceWrong : ChangeSpec := { name := "ustarDecodeMatchesReference", fn := fun _ => fun
  | [d] => { results := [.lit (.bool false)], args := [d] }
  | _ => none }
def UstarDecodeMatchesReferenceWrongFalsely : Prop := ustarDecodeMatchesReferenceRow.holds Tryd.pinned (OpenSpec.ofChange ustarDecodeMatchesReferenceWrong)

/-- 'paxtarlaw07.UstarRoundTrip': WHATEVER THE INPUT: true; the input reads as it did. -/
def ustarRoundTripSpec : ChangeSpec := { name := "ustarRoundTrip", fn := fun _ => fun
  | [d1, d2] => { results := [.lit (.bool true)], args := [d1, d2] }
  | _ => none }
def ustarRoundTripRow : OpenClaim := { program := "ytbgmhdhfcckbbaadoor", sum := "e7f9952cdc16ebe3ae4f8b5ae7515f1ca0d08b4a584a79311a6e31a6aa5729b1", func := "paxtar/paxtarlaw07.UstarRoundTrip", spec := "ustarRoundTrip", inPlace := ["internal/bytealg.IndexByteString", "internal/bytealg.IndexByte"], unfollowed := true, recurses := true, named := ["unicode/utf8.first", "unicode/utf8.acceptRanges"], apart := false, laid := [("unicode/utf8.acceptRanges", laid_unicode_utf8_acceptRanges), ("unicode/utf8.first", laid_unicode_utf8_first)] }
def UstarRoundTripSaid : Prop := ustarRoundTripRow.holds Tryd.pinned (OpenSpec.ofChange ustarRoundTripSpec)

/-- ITS FALSE NEIGHBOUR: 'it returns false'. Refute it at one input. -/
def ustarRoundTripWrong : ChangeSpec := { name := "ustarRoundTrip", fn := fun _ => fun
  | [d1, d2] => { results := [.lit (.bool false)], args := [d1, d2] }
  | _ => none }
def UstarRoundTripWrongFalsely : Prop := ustarRoundTripRow.holds Tryd.pinned (OpenSpec.ofChange ustarRoundTripWrong)

/-- 'paxtarlaw07.UstarRejectsOneByte': WHATEVER THE INPUT: true; the input reads as it did. -/
def ustarRejectsOneByteSpec : ChangeSpec := { name := "ustarRejectsOneByte", fn := fun _ => fun
  | [d1, d2, d3] => { results := [.lit (.bool true)], args := [d1, d2, d3] }
  | _ => none }
def ustarRejectsOneByteRow : OpenClaim := { program := "ytbgmhdhfcckbbaadoor", sum := "e7f9952cdc16ebe3ae4f8b5ae7515f1ca0d08b4a584a79311a6e31a6aa5729b1", func := "paxtar/paxtarlaw07.UstarRejectsOneByte", spec := "ustarRejectsOneByte", inPlace := ["internal/bytealg.IndexByteString", "internal/bytealg.IndexByte"], unfollowed := true, recurses := true, named := ["unicode/utf8.first", "unicode/utf8.acceptRanges"], apart := false, laid := [("unicode/utf8.acceptRanges", laid_unicode_utf8_acceptRanges), ("unicode/utf8.first", laid_unicode_utf8_first)] }
def UstarRejectsOneByteSaid : Prop := ustarRejectsOneByteRow.holds Tryd.pinned (OpenSpec.ofChange ustarRejectsOneByteSpec)

/-- ITS FALSE NEIGHBOUR: 'it returns false'. Refute it at one input. -/
def ustarRejectsOneByteWrong : ChangeSpec := { name := "ustarRejectsOneByte", fn := fun _ => fun
  | [d1, d2, d3] => { results := [.lit (.bool false)], args := [d1, d2, d3] }
  | _ => none }
def UstarRejectsOneByteWrongFalsely : Prop := ustarRejectsOneByteRow.holds Tryd.pinned (OpenSpec.ofChange ustarRejectsOneByteWrong)

/-- 'paxtarlaw07.UstarFields': WHATEVER THE INPUT: true; the input reads as it did. -/
def ustarFieldsSpec : ChangeSpec := { name := "ustarFields", fn := fun _ => fun
  | [d] => { results := [.lit (.bool true)], args := [d] }
  | _ => none }
def ustarFieldsRow : OpenClaim := { program := "ytbgmhdhfcckbbaadoor", sum := "e7f9952cdc16ebe3ae4f8b5ae7515f1ca0d08b4a584a79311a6e31a6aa5729b1", func := "paxtar/paxtarlaw07.UstarFields", spec := "ustarFields", inPlace := ["internal/bytealg.IndexByteString", "internal/bytealg.IndexByte"], unfollowed := true, recurses := true, named := ["unicode/utf8.first", "unicode/utf8.acceptRanges"], apart := false, laid := [("unicode/utf8.acceptRanges", laid_unicode_utf8_acceptRanges), ("unicode/utf8.first", laid_unicode_utf8_first)] }
def UstarFieldsSaid : Prop := ustarFieldsRow.holds Tryd.pinned (OpenSpec.ofChange ustarFieldsSpec)

/-- ITS FALSE NEIGHBOUR: 'it returns false'. Refute it at one input. -/
def ustarFieldsWrong : ChangeSpec := { name := "ustarFields", fn := fun _ => fun
  | [d] => { results := [.lit (.bool false)], args := [d] }
  | _ => none }
def UstarFieldsWrongFalsely : Prop := ustarFieldsRow.holds Tryd.pinned (OpenSpec.ofChange ustarFieldsWrong)

/-- 'paxtarlaw07.UstarLimits': WHATEVER THE INPUT: true; the input reads as it did. -/
def ustarLimitsSpec : ChangeSpec := { name := "ustarLimits", fn := fun _ => fun
  | [d1, d2] => { results := [.lit (.bool true)], args := [d1, d2] }
  | _ => none }
def ustarLimitsRow : OpenClaim := { program := "ytbgmhdhfcckbbaadoor", sum := "e7f9952cdc16ebe3ae4f8b5ae7515f1ca0d08b4a584a79311a6e31a6aa5729b1", func := "paxtar/paxtarlaw07.UstarLimits", spec := "ustarLimits", inPlace := ["internal/abi.NoEscape", "internal/bytealg.MakeNoZero", "internal/bytealg.IndexByteString", "internal/bytealg.IndexByte"], unfollowed := true, recurses := true, named := ["unicode/utf8.first", "unicode/utf8.acceptRanges"], apart := false, laid := [("unicode/utf8.acceptRanges", laid_unicode_utf8_acceptRanges), ("unicode/utf8.first", laid_unicode_utf8_first)] }
def UstarLimitsSaid : Prop := ustarLimitsRow.holds Tryd.pinned (OpenSpec.ofChange ustarLimitsSpec)

/-- ITS FALSE NEIGHBOUR: 'it returns false'. Refute it at one input. -/
def ustarLimitsWrong : ChangeSpec := { name := "ustarLimits", fn := fun _ => fun
  | [d1, d2] => { results := [.lit (.bool false)], args := [d1, d2] }
  | _ => none }
def UstarLimitsWrongFalsely : Prop := ustarLimitsRow.holds Tryd.pinned (OpenSpec.ofChange ustarLimitsWrong)

/- THE SECOND FORM. 'bulk': how many values and letters a reading holds, each counted each time it is reached (what is shared counts as often as it is met; a slice's spare places count too). A statement '..UptoSaid' is the law's where the arguments, and the package variables that the reading takes, are together of bulk at most 1048576: NARROWER than '..Said'. Prove '..Said' where nothing that the law and all that it calls make is longer than what came in: it says more and counts as full. Else prove '..UptoSaid'. A law counts once. -/
mutual
def uptoBulk {H : Type} : DataW H → Nat
  | .lit (.string bytes) => bytes.length + 1
  | .lit _ => 1
  | .nil => 1
  | .ptr d => uptoBulk d + 1
  | .slice elems spare => uptoBulkAll elems + uptoBulkAll spare + 1
  | .agg parts => uptoBulkAll parts + 1
  | .iface _ d => uptoBulk d + 1
  | .map entries => uptoBulkEntries entries + 1
  | .held _ => 1
def uptoBulkAll {H : Type} : List (DataW H) → Nat
  | [] => 0
  | d :: r => uptoBulk d + uptoBulkAll r
def uptoBulkEntries {H : Type} : List (Lit × DataW H) → Nat
  | [] => 0
  | x :: r => uptoBulkEntry x + uptoBulkEntries r
def uptoBulkEntry {H : Type} : Lit × DataW H → Nat
  | (.string bytes, d) => bytes.length + uptoBulk d + 1
  | (_, d) => uptoBulk d + 1
 end
def uptoSmall : (H : Type) → List (DataW H) → Bool := fun _ ds => decide (uptoBulkAll ds ≤ 1048576)
def OpenSpec.upto (s : _root_.Go.ChangeSpec) : _root_.Go.OpenSpec := { _root_.Go.OpenSpec.ofChange s with cond := some uptoSmall }

/-- 'paxtarlaw07.UstarEncodeMatchesReference', WHERE WHAT IT READS IS OF BULK AT MOST 1048576: true; the input reads as it did. -/
def ustarEncodeMatchesReferenceUptoRow : OpenClaim := { program := "ytbgmhdhfcckbbaadoor", sum := "e7f9952cdc16ebe3ae4f8b5ae7515f1ca0d08b4a584a79311a6e31a6aa5729b1", func := "paxtar/paxtarlaw07.UstarEncodeMatchesReference", spec := "ustarEncodeMatchesReference", inPlace := ["internal/bytealg.IndexByteString", "internal/bytealg.IndexByte"], unfollowed := true, recurses := true, named := ["unicode/utf8.first", "unicode/utf8.acceptRanges"], apart := false, laid := [("unicode/utf8.acceptRanges", laid_unicode_utf8_acceptRanges), ("unicode/utf8.first", laid_unicode_utf8_first)], narrowed := true }
def UstarEncodeMatchesReferenceUptoSaid : Prop := ustarEncodeMatchesReferenceUptoRow.holds Tryd.pinned (OpenSpec.upto ustarEncodeMatchesReferenceSpec)

/-- 'paxtarlaw07.UstarDecodeMatchesReference', WHERE WHAT IT READS IS OF BULK AT MOST 1048576: true; the input reads as it did. -/
def ustarDecodeMatchesReferenceUptoRow : OpenClaim := { program := "ytbgmhdhfcckbbaadoor", sum := "e7f9952cdc16ebe3ae4f8b5ae7515f1ca0d08b4a584a79311a6e31a6aa5729b1", func := "paxtar/paxtarlaw07.UstarDecodeMatchesReference", spec := "ustarDecodeMatchesReference", inPlace := ["internal/bytealg.IndexByteString", "internal/bytealg.IndexByte"], unfollowed := true, recurses := true, named := ["unicode/utf8.first", "unicode/utf8.acceptRanges"], apart := false, laid := [("unicode/utf8.acceptRanges", laid_unicode_utf8_acceptRanges), ("unicode/utf8.first", laid_unicode_utf8_first)], narrowed := true }
def UstarDecodeMatchesReferenceUptoSaid : Prop := ustarDecodeMatchesReferenceUptoRow.holds Tryd.pinned (OpenSpec.upto ustarDecodeMatchesReferenceSpec)

/-- 'paxtarlaw07.UstarRoundTrip', WHERE WHAT IT READS IS OF BULK AT MOST 1048576: true; the input reads as it did. -/
def ustarRoundTripUptoRow : OpenClaim := { program := "ytbgmhdhfcckbbaadoor", sum := "e7f9952cdc16ebe3ae4f8b5ae7515f1ca0d08b4a584a79311a6e31a6aa5729b1", func := "paxtar/paxtarlaw07.UstarRoundTrip", spec := "ustarRoundTrip", inPlace := ["internal/bytealg.IndexByteString", "internal/bytealg.IndexByte"], unfollowed := true, recurses := true, named := ["unicode/utf8.first", "unicode/utf8.acceptRanges"], apart := false, laid := [("unicode/utf8.acceptRanges", laid_unicode_utf8_acceptRanges), ("unicode/utf8.first", laid_unicode_utf8_first)], narrowed := true }
def UstarRoundTripUptoSaid : Prop := ustarRoundTripUptoRow.holds Tryd.pinned (OpenSpec.upto ustarRoundTripSpec)

/-- 'paxtarlaw07.UstarRejectsOneByte', WHERE WHAT IT READS IS OF BULK AT MOST 1048576: true; the input reads as it did. -/
def ustarRejectsOneByteUptoRow : OpenClaim := { program := "ytbgmhdhfcckbbaadoor", sum := "e7f9952cdc16ebe3ae4f8b5ae7515f1ca0d08b4a584a79311a6e31a6aa5729b1", func := "paxtar/paxtarlaw07.UstarRejectsOneByte", spec := "ustarRejectsOneByte", inPlace := ["internal/bytealg.IndexByteString", "internal/bytealg.IndexByte"], unfollowed := true, recurses := true, named := ["unicode/utf8.first", "unicode/utf8.acceptRanges"], apart := false, laid := [("unicode/utf8.acceptRanges", laid_unicode_utf8_acceptRanges), ("unicode/utf8.first", laid_unicode_utf8_first)], narrowed := true }
def UstarRejectsOneByteUptoSaid : Prop := ustarRejectsOneByteUptoRow.holds Tryd.pinned (OpenSpec.upto ustarRejectsOneByteSpec)

/-- 'paxtarlaw07.UstarFields', WHERE WHAT IT READS IS OF BULK AT MOST 1048576: true; the input reads as it did. -/
def ustarFieldsUptoRow : OpenClaim := { program := "ytbgmhdhfcckbbaadoor", sum := "e7f9952cdc16ebe3ae4f8b5ae7515f1ca0d08b4a584a79311a6e31a6aa5729b1", func := "paxtar/paxtarlaw07.UstarFields", spec := "ustarFields", inPlace := ["internal/bytealg.IndexByteString", "internal/bytealg.IndexByte"], unfollowed := true, recurses := true, named := ["unicode/utf8.first", "unicode/utf8.acceptRanges"], apart := false, laid := [("unicode/utf8.acceptRanges", laid_unicode_utf8_acceptRanges), ("unicode/utf8.first", laid_unicode_utf8_first)], narrowed := true }
def UstarFieldsUptoSaid : Prop := ustarFieldsUptoRow.holds Tryd.pinned (OpenSpec.upto ustarFieldsSpec)

/-- 'paxtarlaw07.UstarLimits', WHERE WHAT IT READS IS OF BULK AT MOST 1048576: true; the input reads as it did. -/
def ustarLimitsUptoRow : OpenClaim := { program := "ytbgmhdhfcckbbaadoor", sum := "e7f9952cdc16ebe3ae4f8b5ae7515f1ca0d08b4a584a79311a6e31a6aa5729b1", func := "paxtar/paxtarlaw07.UstarLimits", spec := "ustarLimits", inPlace := ["internal/abi.NoEscape", "internal/bytealg.MakeNoZero", "internal/bytealg.IndexByteString", "internal/bytealg.IndexByte"], unfollowed := true, recurses := true, named := ["unicode/utf8.first", "unicode/utf8.acceptRanges"], apart := false, laid := [("unicode/utf8.acceptRanges", laid_unicode_utf8_acceptRanges), ("unicode/utf8.first", laid_unicode_utf8_first)], narrowed := true }
def UstarLimitsUptoSaid : Prop := ustarLimitsUptoRow.holds Tryd.pinned (OpenSpec.upto ustarLimitsSpec)

end Rows
end Go.Proofs.YtbgmhdhfcckbbaaDoor
