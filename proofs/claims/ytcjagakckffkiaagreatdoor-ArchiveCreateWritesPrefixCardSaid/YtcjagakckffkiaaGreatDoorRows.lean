/-
  NARROWER THAN 'FOR EVERY INPUT', by the rows' own cells (each row's printed sentence says how): ArchiveEncodeMatchesReference: laid · ArchiveReadMatchesReference: laid · ArchiveCreateWritesPrefix: laid · ArchiveRoundTrip: laid · ArchivePrefixRejected: laid · ArchiveLength: laid · ArchiveChunkingIrrelevant: laid · ArchiveMembersInOrder: laid · ArchiveErrorBeforeFailure: laid.
  DERIVED. THE GIVEN ROWS OF THIS SEAT. 9 by the template 'for every input the law returns true; each argument reads behind the call as it read before'; 0 by the template 'total and deterministic' (their statements: YtcjagakckffkiaaGreatDoorTotals.lean).
  GIVEN WITH THE SEED: the statements are not yours to turn. If you find one false, say at which input.
  Laid BY PROGRAM, IN A SANDBOX (cutbox-rows.mjs): the forced cells as the released guide's own fill.sh prints them over the translation 892f8583b5c24b4f… (all of the seat's roots in one cut). By AI agents, Wed Nov 11 2026. No macro, syntax, notation, axiom, sorry.
-/
import Derived.Test.YtcjagakckffkiaaGreatDoorChecked
import GoSem.PinnedTables
import GoSem.Claim
import GoSem.ClaimJoined
import GoSem.ClaimMapViews
import Derived.JoinedTies
import Derived.KernelRfl
namespace Go.Proofs.YtcjagakckffkiaaGreatDoor
/- THE CELL 'sum', in the pinned program and in every row, IS THE sha256 OF THE DUMP (.gsa) THAT YtcjagakckffkiaaGreatDoorProg.lean LOADS. Nothing in Lean hashes anything: it is a label: what it is worth is what the hold of that sum in a sandbox is worth. -/
noncomputable def Tryz.pinned : Pinned := { name := "ytcjagakckffkiaagreatdoor", sum := "892f8583b5c24b4f1e2c569a068d24d19ed2d5a6dbf0e065ab720db990fc2285", checked := Tryz.checked }
namespace Rows
def none {H : Type} : Left H := { results := [], args := [] }

/- WHAT THE LISTED PACKAGE-LEVEL VARIABLES READ AS WHEN THE CALL BEGINS. Each datum BY PROGRAM (the guide's laid-datum.mjs) off the statement by which the dump's own 'gosem.cut.vars' lays the variable. In a bare row this is a premise. The card (YtcjagakckffkiaaGreatDoorCards.lean) ties it to the program's text. -/
def laid_math_bits_deBruijn32tab {H : Type} : DataW H := .agg [.lit (.int .u8 0), .lit (.int .u8 1), .lit (.int .u8 28), .lit (.int .u8 2), .lit (.int .u8 29), .lit (.int .u8 14), .lit (.int .u8 24), .lit (.int .u8 3), .lit (.int .u8 30), .lit (.int .u8 22), .lit (.int .u8 20), .lit (.int .u8 15), .lit (.int .u8 25), .lit (.int .u8 17), .lit (.int .u8 4), .lit (.int .u8 8), .lit (.int .u8 31), .lit (.int .u8 27), .lit (.int .u8 13), .lit (.int .u8 23), .lit (.int .u8 21), .lit (.int .u8 19), .lit (.int .u8 16), .lit (.int .u8 7), .lit (.int .u8 26), .lit (.int .u8 12), .lit (.int .u8 18), .lit (.int .u8 6), .lit (.int .u8 11), .lit (.int .u8 5), .lit (.int .u8 10), .lit (.int .u8 9)]
def laid_math_bits_deBruijn64tab {H : Type} : DataW H := .agg [.lit (.int .u8 0), .lit (.int .u8 1), .lit (.int .u8 56), .lit (.int .u8 2), .lit (.int .u8 57), .lit (.int .u8 49), .lit (.int .u8 28), .lit (.int .u8 3), .lit (.int .u8 61), .lit (.int .u8 58), .lit (.int .u8 42), .lit (.int .u8 50), .lit (.int .u8 38), .lit (.int .u8 29), .lit (.int .u8 17), .lit (.int .u8 4), .lit (.int .u8 62), .lit (.int .u8 47), .lit (.int .u8 59), .lit (.int .u8 36), .lit (.int .u8 45), .lit (.int .u8 43), .lit (.int .u8 51), .lit (.int .u8 22), .lit (.int .u8 53), .lit (.int .u8 39), .lit (.int .u8 33), .lit (.int .u8 30), .lit (.int .u8 24), .lit (.int .u8 18), .lit (.int .u8 12), .lit (.int .u8 5), .lit (.int .u8 63), .lit (.int .u8 55), .lit (.int .u8 48), .lit (.int .u8 27), .lit (.int .u8 60), .lit (.int .u8 41), .lit (.int .u8 37), .lit (.int .u8 16), .lit (.int .u8 46), .lit (.int .u8 35), .lit (.int .u8 44), .lit (.int .u8 21), .lit (.int .u8 52), .lit (.int .u8 32), .lit (.int .u8 23), .lit (.int .u8 11), .lit (.int .u8 54), .lit (.int .u8 26), .lit (.int .u8 40), .lit (.int .u8 15), .lit (.int .u8 34), .lit (.int .u8 20), .lit (.int .u8 31), .lit (.int .u8 10), .lit (.int .u8 25), .lit (.int .u8 14), .lit (.int .u8 19), .lit (.int .u8 9), .lit (.int .u8 13), .lit (.int .u8 8), .lit (.int .u8 7), .lit (.int .u8 6)]
def laid_internal_strconv_uint64pow10 {H : Type} : DataW H := .agg [.lit (.int .u64 1), .lit (.int .u64 10), .lit (.int .u64 100), .lit (.int .u64 1000), .lit (.int .u64 10000), .lit (.int .u64 100000), .lit (.int .u64 1000000), .lit (.int .u64 10000000), .lit (.int .u64 100000000), .lit (.int .u64 1000000000), .lit (.int .u64 10000000000), .lit (.int .u64 100000000000), .lit (.int .u64 1000000000000), .lit (.int .u64 10000000000000), .lit (.int .u64 100000000000000), .lit (.int .u64 1000000000000000), .lit (.int .u64 10000000000000000), .lit (.int .u64 100000000000000000), .lit (.int .u64 1000000000000000000), .lit (.int .u64 10000000000000000000)]
def laid_unicode_utf8_acceptRanges {H : Type} : DataW H := .agg [.agg [.lit (.int .u8 128), .lit (.int .u8 191)], .agg [.lit (.int .u8 160), .lit (.int .u8 191)], .agg [.lit (.int .u8 128), .lit (.int .u8 159)], .agg [.lit (.int .u8 144), .lit (.int .u8 191)], .agg [.lit (.int .u8 128), .lit (.int .u8 143)], .agg [.lit (.int .u8 0), .lit (.int .u8 0)], .agg [.lit (.int .u8 0), .lit (.int .u8 0)], .agg [.lit (.int .u8 0), .lit (.int .u8 0)], .agg [.lit (.int .u8 0), .lit (.int .u8 0)], .agg [.lit (.int .u8 0), .lit (.int .u8 0)], .agg [.lit (.int .u8 0), .lit (.int .u8 0)], .agg [.lit (.int .u8 0), .lit (.int .u8 0)], .agg [.lit (.int .u8 0), .lit (.int .u8 0)], .agg [.lit (.int .u8 0), .lit (.int .u8 0)], .agg [.lit (.int .u8 0), .lit (.int .u8 0)], .agg [.lit (.int .u8 0), .lit (.int .u8 0)]]
def laid_strconv_ErrRange {H : Type} : DataW H := .iface "*errors.errorString" (.ptr (.agg [.lit (.string [118, 97, 108, 117, 101, 32, 111, 117, 116, 32, 111, 102, 32, 114, 97, 110, 103, 101])]))
def laid_strconv_ErrSyntax {H : Type} : DataW H := .iface "*errors.errorString" (.ptr (.agg [.lit (.string [105, 110, 118, 97, 108, 105, 100, 32, 115, 121, 110, 116, 97, 120])]))
def laid_paxtar_paxrec_keys {H : Type} : DataW H := .agg [.lit (.string [108, 105, 110, 107, 112, 97, 116, 104]), .lit (.string [112, 97, 116, 104]), .lit (.string [115, 105, 122, 101])]
def laid_paxtar_fit_types {H : Type} : DataW H := .agg [.lit (.int .u8 53), .lit (.int .u8 48), .lit (.int .u8 50), .lit (.int .u8 49)]
/-- One of Go's own tables, pinned by name: the form's constant. -/
def laid_unicode_utf8_first : DataW Unit := Go.Pinned.utf8First

/-- 'paxtarlaw17.ArchiveEncodeMatchesReference': WHATEVER THE INPUT: true; the input reads as it did. -/
def archiveEncodeMatchesReferenceSpec : ChangeSpec := { name := "archiveEncodeMatchesReference", fn := fun _ => fun
  | [d] => { results := [.lit (.bool true)], args := [d] }
  | _ => none }
def archiveEncodeMatchesReferenceRow : OpenClaim := { program := "ytcjagakckffkiaagreatdoor", sum := "892f8583b5c24b4f1e2c569a068d24d19ed2d5a6dbf0e065ab720db990fc2285", func := "paxtar/paxtarlaw17.ArchiveEncodeMatchesReference", spec := "archiveEncodeMatchesReference", inPlace := ["internal/bytealg.IndexByteString", "internal/bytealg.abigen_runtime_cmpstring", "internal/bytealg.IndexByte", "internal/bytealg.IndexString"], unfollowed := true, recurses := true, named := ["paxtar/paxrec.keys", "paxtar/fit.types", "internal/strconv.uint64pow10", "math/bits.deBruijn32tab", "math/bits.deBruijn64tab", "unicode/utf8.first", "unicode/utf8.acceptRanges", "internal/bytealg.MaxLen", "strconv.ErrSyntax", "strconv.ErrRange"], apart := false, laid := [("math/bits.deBruijn32tab", laid_math_bits_deBruijn32tab), ("math/bits.deBruijn64tab", laid_math_bits_deBruijn64tab), ("internal/strconv.uint64pow10", laid_internal_strconv_uint64pow10), ("unicode/utf8.acceptRanges", laid_unicode_utf8_acceptRanges), ("strconv.ErrRange", laid_strconv_ErrRange), ("strconv.ErrSyntax", laid_strconv_ErrSyntax), ("paxtar/paxrec.keys", laid_paxtar_paxrec_keys), ("paxtar/fit.types", laid_paxtar_fit_types), ("unicode/utf8.first", laid_unicode_utf8_first)] }
def ArchiveEncodeMatchesReferenceSaid : Prop := archiveEncodeMatchesReferenceRow.holds Tryz.pinned (OpenSpec.ofChange archiveEncodeMatchesReferenceSpec)

/-- ITS FALSE NEIGHBOUR: 'it returns false'. Refute it at one input. -/
def archiveEncodeMatchesReferenceWrong : ChangeSpec := { name := "archiveEncodeMatchesReference", fn := fun _ => fun
  | [d] => { results := [.lit (.bool false)], args := [d] }
  | _ => none }
def ArchiveEncodeMatchesReferenceWrongFalsely : Prop := archiveEncodeMatchesReferenceRow.holds Tryz.pinned (OpenSpec.ofChange archiveEncodeMatchesReferenceWrong)

/-- 'paxtarlaw17.ArchiveReadMatchesReference': WHATEVER THE INPUT: true; the input reads as it did. -/
def archiveReadMatchesReferenceSpec : ChangeSpec := { name := "archiveReadMatchesReference", fn := fun _ => fun
  | [d1, d2] => { results := [.lit (.bool true)], args := [d1, d2] }
  | _ => none }
def archiveReadMatchesReferenceRow : OpenClaim := { program := "ytcjagakckffkiaagreatdoor", sum := "892f8583b5c24b4f1e2c569a068d24d19ed2d5a6dbf0e065ab720db990fc2285", func := "paxtar/paxtarlaw17.ArchiveReadMatchesReference", spec := "archiveReadMatchesReference", inPlace := ["internal/bytealg.IndexByteString", "internal/bytealg.abigen_runtime_cmpstring", "internal/bytealg.IndexByte", "internal/bytealg.IndexString"], unfollowed := true, recurses := true, named := ["paxtar/paxrec.keys", "paxtar/fit.types", "internal/strconv.uint64pow10", "math/bits.deBruijn32tab", "math/bits.deBruijn64tab", "unicode/utf8.first", "unicode/utf8.acceptRanges", "internal/bytealg.MaxLen", "strconv.ErrSyntax", "strconv.ErrRange"], apart := false, laid := [("math/bits.deBruijn32tab", laid_math_bits_deBruijn32tab), ("math/bits.deBruijn64tab", laid_math_bits_deBruijn64tab), ("internal/strconv.uint64pow10", laid_internal_strconv_uint64pow10), ("unicode/utf8.acceptRanges", laid_unicode_utf8_acceptRanges), ("strconv.ErrRange", laid_strconv_ErrRange), ("strconv.ErrSyntax", laid_strconv_ErrSyntax), ("paxtar/paxrec.keys", laid_paxtar_paxrec_keys), ("paxtar/fit.types", laid_paxtar_fit_types), ("unicode/utf8.first", laid_unicode_utf8_first)] }
def ArchiveReadMatchesReferenceSaid : Prop := archiveReadMatchesReferenceRow.holds Tryz.pinned (OpenSpec.ofChange archiveReadMatchesReferenceSpec)

/-- ITS FALSE NEIGHBOUR: 'it returns false'. Refute it at one input. -/
def archiveReadMatchesReferenceWrong : ChangeSpec := { name := "archiveReadMatchesReference", fn := fun _ => fun
  | [d1, d2] => { results := [.lit (.bool false)], args := [d1, d2] }
  | _ => none }
def ArchiveReadMatchesReferenceWrongFalsely : Prop := archiveReadMatchesReferenceRow.holds Tryz.pinned (OpenSpec.ofChange archiveReadMatchesReferenceWrong)

/-- 'paxtarlaw17.ArchiveCreateWritesPrefix': WHATEVER THE INPUT: true; the input reads as it did. -/
def archiveCreateWritesPrefixSpec : ChangeSpec := { name := "archiveCreateWritesPrefix", fn := fun _ => fun
  | [d1, d2] => { results := [.lit (.bool true)], args := [d1, d2] }
  | _ => none }
def archiveCreateWritesPrefixRow : OpenClaim := { program := "ytcjagakckffkiaagreatdoor", sum := "892f8583b5c24b4f1e2c569a068d24d19ed2d5a6dbf0e065ab720db990fc2285", func := "paxtar/paxtarlaw17.ArchiveCreateWritesPrefix", spec := "archiveCreateWritesPrefix", inPlace := ["internal/bytealg.IndexByteString", "internal/bytealg.abigen_runtime_cmpstring", "internal/bytealg.IndexByte", "internal/bytealg.IndexString"], unfollowed := true, recurses := true, named := ["paxtar/paxrec.keys", "paxtar/fit.types", "internal/strconv.uint64pow10", "math/bits.deBruijn32tab", "math/bits.deBruijn64tab", "unicode/utf8.first", "unicode/utf8.acceptRanges", "internal/bytealg.MaxLen", "strconv.ErrSyntax", "strconv.ErrRange"], apart := false, laid := [("math/bits.deBruijn32tab", laid_math_bits_deBruijn32tab), ("math/bits.deBruijn64tab", laid_math_bits_deBruijn64tab), ("internal/strconv.uint64pow10", laid_internal_strconv_uint64pow10), ("unicode/utf8.acceptRanges", laid_unicode_utf8_acceptRanges), ("strconv.ErrRange", laid_strconv_ErrRange), ("strconv.ErrSyntax", laid_strconv_ErrSyntax), ("paxtar/paxrec.keys", laid_paxtar_paxrec_keys), ("paxtar/fit.types", laid_paxtar_fit_types), ("unicode/utf8.first", laid_unicode_utf8_first)] }
def ArchiveCreateWritesPrefixSaid : Prop := archiveCreateWritesPrefixRow.holds Tryz.pinned (OpenSpec.ofChange archiveCreateWritesPrefixSpec)

/-- ITS FALSE NEIGHBOUR: 'it returns false'. Refute it at one input. -/
def archiveCreateWritesPrefixWrong : ChangeSpec := { name := "archiveCreateWritesPrefix", fn := fun _ => fun
  | [d1, d2] => { results := [.lit (.bool false)], args := [d1, d2] }
  | _ => none }
def ArchiveCreateWritesPrefixWrongFalsely : Prop := archiveCreateWritesPrefixRow.holds Tryz.pinned (OpenSpec.ofChange archiveCreateWritesPrefixWrong)

/-- 'paxtarlaw17.ArchiveRoundTrip': WHATEVER THE INPUT: true; the input reads as it did. -/
def archiveRoundTripSpec : ChangeSpec := { name := "archiveRoundTrip", fn := fun _ => fun
  | [d1, d2] => { results := [.lit (.bool true)], args := [d1, d2] }
  | _ => none }
def archiveRoundTripRow : OpenClaim := { program := "ytcjagakckffkiaagreatdoor", sum := "892f8583b5c24b4f1e2c569a068d24d19ed2d5a6dbf0e065ab720db990fc2285", func := "paxtar/paxtarlaw17.ArchiveRoundTrip", spec := "archiveRoundTrip", inPlace := ["internal/bytealg.IndexByteString", "internal/bytealg.abigen_runtime_cmpstring", "internal/bytealg.IndexByte", "internal/bytealg.IndexString"], unfollowed := true, recurses := true, named := ["paxtar/paxrec.keys", "paxtar/fit.types", "internal/strconv.uint64pow10", "math/bits.deBruijn32tab", "math/bits.deBruijn64tab", "unicode/utf8.first", "unicode/utf8.acceptRanges", "internal/bytealg.MaxLen", "strconv.ErrSyntax", "strconv.ErrRange"], apart := false, laid := [("math/bits.deBruijn32tab", laid_math_bits_deBruijn32tab), ("math/bits.deBruijn64tab", laid_math_bits_deBruijn64tab), ("internal/strconv.uint64pow10", laid_internal_strconv_uint64pow10), ("unicode/utf8.acceptRanges", laid_unicode_utf8_acceptRanges), ("strconv.ErrRange", laid_strconv_ErrRange), ("strconv.ErrSyntax", laid_strconv_ErrSyntax), ("paxtar/paxrec.keys", laid_paxtar_paxrec_keys), ("paxtar/fit.types", laid_paxtar_fit_types), ("unicode/utf8.first", laid_unicode_utf8_first)] }
def ArchiveRoundTripSaid : Prop := archiveRoundTripRow.holds Tryz.pinned (OpenSpec.ofChange archiveRoundTripSpec)

/-- ITS FALSE NEIGHBOUR: 'it returns false'. Refute it at one input. -/
def archiveRoundTripWrong : ChangeSpec := { name := "archiveRoundTrip", fn := fun _ => fun
  | [d1, d2] => { results := [.lit (.bool false)], args := [d1, d2] }
  | _ => none }
def ArchiveRoundTripWrongFalsely : Prop := archiveRoundTripRow.holds Tryz.pinned (OpenSpec.ofChange archiveRoundTripWrong)

/-- 'paxtarlaw17.ArchivePrefixRejected': WHATEVER THE INPUT: true; the input reads as it did. -/
def archivePrefixRejectedSpec : ChangeSpec := { name := "archivePrefixRejected", fn := fun _ => fun
  | [d1, d2, d3] => { results := [.lit (.bool true)], args := [d1, d2, d3] }
  | _ => none }
def archivePrefixRejectedRow : OpenClaim := { program := "ytcjagakckffkiaagreatdoor", sum := "892f8583b5c24b4f1e2c569a068d24d19ed2d5a6dbf0e065ab720db990fc2285", func := "paxtar/paxtarlaw17.ArchivePrefixRejected", spec := "archivePrefixRejected", inPlace := ["internal/bytealg.IndexByteString", "internal/bytealg.abigen_runtime_cmpstring", "internal/bytealg.IndexByte", "internal/bytealg.IndexString"], unfollowed := true, recurses := true, named := ["paxtar/paxrec.keys", "paxtar/fit.types", "internal/strconv.uint64pow10", "math/bits.deBruijn32tab", "math/bits.deBruijn64tab", "unicode/utf8.first", "unicode/utf8.acceptRanges", "internal/bytealg.MaxLen", "strconv.ErrSyntax", "strconv.ErrRange"], apart := false, laid := [("math/bits.deBruijn32tab", laid_math_bits_deBruijn32tab), ("math/bits.deBruijn64tab", laid_math_bits_deBruijn64tab), ("internal/strconv.uint64pow10", laid_internal_strconv_uint64pow10), ("unicode/utf8.acceptRanges", laid_unicode_utf8_acceptRanges), ("strconv.ErrRange", laid_strconv_ErrRange), ("strconv.ErrSyntax", laid_strconv_ErrSyntax), ("paxtar/paxrec.keys", laid_paxtar_paxrec_keys), ("paxtar/fit.types", laid_paxtar_fit_types), ("unicode/utf8.first", laid_unicode_utf8_first)] }
def ArchivePrefixRejectedSaid : Prop := archivePrefixRejectedRow.holds Tryz.pinned (OpenSpec.ofChange archivePrefixRejectedSpec)

/-- ITS FALSE NEIGHBOUR: 'it returns false'. Refute it at one input. -/
def archivePrefixRejectedWrong : ChangeSpec := { name := "archivePrefixRejected", fn := fun _ => fun
  | [d1, d2, d3] => { results := [.lit (.bool false)], args := [d1, d2, d3] }
  | _ => none }
def ArchivePrefixRejectedWrongFalsely : Prop := archivePrefixRejectedRow.holds Tryz.pinned (OpenSpec.ofChange archivePrefixRejectedWrong)

/-- 'paxtarlaw17.ArchiveLength': WHATEVER THE INPUT: true; the input reads as it did. -/
def archiveLengthSpec : ChangeSpec := { name := "archiveLength", fn := fun _ => fun
  | [d] => { results := [.lit (.bool true)], args := [d] }
  | _ => none }
def archiveLengthRow : OpenClaim := { program := "ytcjagakckffkiaagreatdoor", sum := "892f8583b5c24b4f1e2c569a068d24d19ed2d5a6dbf0e065ab720db990fc2285", func := "paxtar/paxtarlaw17.ArchiveLength", spec := "archiveLength", inPlace := ["internal/bytealg.IndexByteString", "internal/bytealg.abigen_runtime_cmpstring", "internal/bytealg.IndexByte", "internal/bytealg.IndexString"], unfollowed := true, recurses := true, named := ["paxtar/paxrec.keys", "paxtar/fit.types", "internal/strconv.uint64pow10", "math/bits.deBruijn32tab", "math/bits.deBruijn64tab", "unicode/utf8.first", "unicode/utf8.acceptRanges", "internal/bytealg.MaxLen", "strconv.ErrSyntax", "strconv.ErrRange"], apart := false, laid := [("math/bits.deBruijn32tab", laid_math_bits_deBruijn32tab), ("math/bits.deBruijn64tab", laid_math_bits_deBruijn64tab), ("internal/strconv.uint64pow10", laid_internal_strconv_uint64pow10), ("unicode/utf8.acceptRanges", laid_unicode_utf8_acceptRanges), ("strconv.ErrRange", laid_strconv_ErrRange), ("strconv.ErrSyntax", laid_strconv_ErrSyntax), ("paxtar/paxrec.keys", laid_paxtar_paxrec_keys), ("paxtar/fit.types", laid_paxtar_fit_types), ("unicode/utf8.first", laid_unicode_utf8_first)] }
def ArchiveLengthSaid : Prop := archiveLengthRow.holds Tryz.pinned (OpenSpec.ofChange archiveLengthSpec)

/-- ITS FALSE NEIGHBOUR: 'it returns false'. Refute it at one input. -/
def archiveLengthWrong : ChangeSpec := { name := "archiveLength", fn := fun _ => fun
  | [d] => { results := [.lit (.bool false)], args := [d] }
  | _ => none }
def ArchiveLengthWrongFalsely : Prop := archiveLengthRow.holds Tryz.pinned (OpenSpec.ofChange archiveLengthWrong)

/-- 'paxtarlaw17.ArchiveChunkingIrrelevant': WHATEVER THE INPUT: true; the input reads as it did. -/
def archiveChunkingIrrelevantSpec : ChangeSpec := { name := "archiveChunkingIrrelevant", fn := fun _ => fun
  | [d1, d2, d3] => { results := [.lit (.bool true)], args := [d1, d2, d3] }
  | _ => none }
def archiveChunkingIrrelevantRow : OpenClaim := { program := "ytcjagakckffkiaagreatdoor", sum := "892f8583b5c24b4f1e2c569a068d24d19ed2d5a6dbf0e065ab720db990fc2285", func := "paxtar/paxtarlaw17.ArchiveChunkingIrrelevant", spec := "archiveChunkingIrrelevant", inPlace := ["internal/bytealg.IndexByteString", "internal/bytealg.abigen_runtime_cmpstring", "internal/bytealg.IndexByte", "internal/bytealg.IndexString"], unfollowed := true, recurses := true, named := ["paxtar/paxrec.keys", "paxtar/fit.types", "internal/strconv.uint64pow10", "math/bits.deBruijn32tab", "math/bits.deBruijn64tab", "unicode/utf8.first", "unicode/utf8.acceptRanges", "internal/bytealg.MaxLen", "strconv.ErrSyntax", "strconv.ErrRange"], apart := false, laid := [("math/bits.deBruijn32tab", laid_math_bits_deBruijn32tab), ("math/bits.deBruijn64tab", laid_math_bits_deBruijn64tab), ("internal/strconv.uint64pow10", laid_internal_strconv_uint64pow10), ("unicode/utf8.acceptRanges", laid_unicode_utf8_acceptRanges), ("strconv.ErrRange", laid_strconv_ErrRange), ("strconv.ErrSyntax", laid_strconv_ErrSyntax), ("paxtar/paxrec.keys", laid_paxtar_paxrec_keys), ("paxtar/fit.types", laid_paxtar_fit_types), ("unicode/utf8.first", laid_unicode_utf8_first)] }
def ArchiveChunkingIrrelevantSaid : Prop := archiveChunkingIrrelevantRow.holds Tryz.pinned (OpenSpec.ofChange archiveChunkingIrrelevantSpec)

/-- ITS FALSE NEIGHBOUR: 'it returns false'. Refute it at one input. -/
def archiveChunkingIrrelevantWrong : ChangeSpec := { name := "archiveChunkingIrrelevant", fn := fun _ => fun
  | [d1, d2, d3] => { results := [.lit (.bool false)], args := [d1, d2, d3] }
  | _ => none }
def ArchiveChunkingIrrelevantWrongFalsely : Prop := archiveChunkingIrrelevantRow.holds Tryz.pinned (OpenSpec.ofChange archiveChunkingIrrelevantWrong)

/-- 'paxtarlaw17.ArchiveMembersInOrder': WHATEVER THE INPUT: true; the input reads as it did. -/
def archiveMembersInOrderSpec : ChangeSpec := { name := "archiveMembersInOrder", fn := fun _ => fun
  | [d] => { results := [.lit (.bool true)], args := [d] }
  | _ => none }
def archiveMembersInOrderRow : OpenClaim := { program := "ytcjagakckffkiaagreatdoor", sum := "892f8583b5c24b4f1e2c569a068d24d19ed2d5a6dbf0e065ab720db990fc2285", func := "paxtar/paxtarlaw17.ArchiveMembersInOrder", spec := "archiveMembersInOrder", inPlace := ["internal/bytealg.IndexByteString", "internal/bytealg.abigen_runtime_cmpstring", "internal/bytealg.IndexByte", "internal/bytealg.IndexString"], unfollowed := true, recurses := true, named := ["paxtar/paxrec.keys", "paxtar/fit.types", "internal/strconv.uint64pow10", "math/bits.deBruijn32tab", "math/bits.deBruijn64tab", "unicode/utf8.first", "unicode/utf8.acceptRanges", "internal/bytealg.MaxLen", "strconv.ErrSyntax", "strconv.ErrRange"], apart := false, laid := [("math/bits.deBruijn32tab", laid_math_bits_deBruijn32tab), ("math/bits.deBruijn64tab", laid_math_bits_deBruijn64tab), ("internal/strconv.uint64pow10", laid_internal_strconv_uint64pow10), ("unicode/utf8.acceptRanges", laid_unicode_utf8_acceptRanges), ("strconv.ErrRange", laid_strconv_ErrRange), ("strconv.ErrSyntax", laid_strconv_ErrSyntax), ("paxtar/paxrec.keys", laid_paxtar_paxrec_keys), ("paxtar/fit.types", laid_paxtar_fit_types), ("unicode/utf8.first", laid_unicode_utf8_first)] }
def ArchiveMembersInOrderSaid : Prop := archiveMembersInOrderRow.holds Tryz.pinned (OpenSpec.ofChange archiveMembersInOrderSpec)

/-- ITS FALSE NEIGHBOUR: 'it returns false'. Refute it at one input. -/
def archiveMembersInOrderWrong : ChangeSpec := { name := "archiveMembersInOrder", fn := fun _ => fun
  | [d] => { results := [.lit (.bool false)], args := [d] }
  | _ => none }
def ArchiveMembersInOrderWrongFalsely : Prop := archiveMembersInOrderRow.holds Tryz.pinned (OpenSpec.ofChange archiveMembersInOrderWrong)

/-- 'paxtarlaw17.ArchiveErrorBeforeFailure': WHATEVER THE INPUT: true; the input reads as it did. -/
def archiveErrorBeforeFailureSpec : ChangeSpec := { name := "archiveErrorBeforeFailure", fn := fun _ => fun
  | [d1, d2] => { results := [.lit (.bool true)], args := [d1, d2] }
  | _ => none }
def archiveErrorBeforeFailureRow : OpenClaim := { program := "ytcjagakckffkiaagreatdoor", sum := "892f8583b5c24b4f1e2c569a068d24d19ed2d5a6dbf0e065ab720db990fc2285", func := "paxtar/paxtarlaw17.ArchiveErrorBeforeFailure", spec := "archiveErrorBeforeFailure", inPlace := ["internal/bytealg.IndexByteString", "internal/bytealg.abigen_runtime_cmpstring", "internal/bytealg.IndexByte", "internal/bytealg.IndexString"], unfollowed := true, recurses := true, named := ["paxtar/paxrec.keys", "paxtar/fit.types", "internal/strconv.uint64pow10", "math/bits.deBruijn32tab", "math/bits.deBruijn64tab", "unicode/utf8.first", "unicode/utf8.acceptRanges", "internal/bytealg.MaxLen", "strconv.ErrSyntax", "strconv.ErrRange"], apart := false, laid := [("math/bits.deBruijn32tab", laid_math_bits_deBruijn32tab), ("math/bits.deBruijn64tab", laid_math_bits_deBruijn64tab), ("internal/strconv.uint64pow10", laid_internal_strconv_uint64pow10), ("unicode/utf8.acceptRanges", laid_unicode_utf8_acceptRanges), ("strconv.ErrRange", laid_strconv_ErrRange), ("strconv.ErrSyntax", laid_strconv_ErrSyntax), ("paxtar/paxrec.keys", laid_paxtar_paxrec_keys), ("paxtar/fit.types", laid_paxtar_fit_types), ("unicode/utf8.first", laid_unicode_utf8_first)] }
def ArchiveErrorBeforeFailureSaid : Prop := archiveErrorBeforeFailureRow.holds Tryz.pinned (OpenSpec.ofChange archiveErrorBeforeFailureSpec)

/-- ITS FALSE NEIGHBOUR: 'it returns false'. Refute it at one input. -/
def archiveErrorBeforeFailureWrong : ChangeSpec := { name := "archiveErrorBeforeFailure", fn := fun _ => fun
  | [d1, d2] => { results := [.lit (.bool false)], args := [d1, d2] }
  | _ => none }
def ArchiveErrorBeforeFailureWrongFalsely : Prop := archiveErrorBeforeFailureRow.holds Tryz.pinned (OpenSpec.ofChange archiveErrorBeforeFailureWrong)

/- THE SECOND FORM. 'bulk': how many values and letters a reading holds, each counted each time it is reached (what is shared counts as often as it is met; a slice's spare places count too). A statement '..UptoSaid' is the law's where the arguments, and the package variables that the reading takes, are together of bulk at most 1048576: NARROWER than '..Said'. Prove '..Said' where nothing that the law and all that it calls make is longer than what came in: it says more and counts as full. Else prove '..UptoSaid'. A law counts once. -/
mutual
def uptoBulk {H : Type} : DataW H → Nat
  | .lit (.string bytes) => bytes.length + 1
  | .lit _ => 1
  | .nil => 1
  | .ptr d => uptoBulk d + 1
  | .slice elems spare => uptoBulkAll elems + uptoBulkAll spare + 1
  | .agg parts => uptoBulkAll parts + 1
  | .iface _ d => uptoBulk d + 1
  | .map entries => uptoBulkEntries entries + 1
  | .held _ => 1
def uptoBulkAll {H : Type} : List (DataW H) → Nat
  | [] => 0
  | d :: r => uptoBulk d + uptoBulkAll r
def uptoBulkEntries {H : Type} : List (Lit × DataW H) → Nat
  | [] => 0
  | x :: r => uptoBulkEntry x + uptoBulkEntries r
def uptoBulkEntry {H : Type} : Lit × DataW H → Nat
  | (.string bytes, d) => bytes.length + uptoBulk d + 1
  | (_, d) => uptoBulk d + 1
 end
def uptoSmall : (H : Type) → List (DataW H) → Bool := fun _ ds => decide (uptoBulkAll ds ≤ 1048576)
def OpenSpec.upto (s : _root_.Go.ChangeSpec) : _root_.Go.OpenSpec := { _root_.Go.OpenSpec.ofChange s with cond := some uptoSmall }

/-- 'paxtarlaw17.ArchiveEncodeMatchesReference', WHERE WHAT IT READS IS OF BULK AT MOST 1048576: true; the input reads as it did. -/
def archiveEncodeMatchesReferenceUptoRow : OpenClaim := { program := "ytcjagakckffkiaagreatdoor", sum := "892f8583b5c24b4f1e2c569a068d24d19ed2d5a6dbf0e065ab720db990fc2285", func := "paxtar/paxtarlaw17.ArchiveEncodeMatchesReference", spec := "archiveEncodeMatchesReference", inPlace := ["internal/bytealg.IndexByteString", "internal/bytealg.abigen_runtime_cmpstring", "internal/bytealg.IndexByte", "internal/bytealg.IndexString"], unfollowed := true, recurses := true, named := ["paxtar/paxrec.keys", "paxtar/fit.types", "internal/strconv.uint64pow10", "math/bits.deBruijn32tab", "math/bits.deBruijn64tab", "unicode/utf8.first", "unicode/utf8.acceptRanges", "internal/bytealg.MaxLen", "strconv.ErrSyntax", "strconv.ErrRange"], apart := false, laid := [("math/bits.deBruijn32tab", laid_math_bits_deBruijn32tab), ("math/bits.deBruijn64tab", laid_math_bits_deBruijn64tab), ("internal/strconv.uint64pow10", laid_internal_strconv_uint64pow10), ("unicode/utf8.acceptRanges", laid_unicode_utf8_acceptRanges), ("strconv.ErrRange", laid_strconv_ErrRange), ("strconv.ErrSyntax", laid_strconv_ErrSyntax), ("paxtar/paxrec.keys", laid_paxtar_paxrec_keys), ("paxtar/fit.types", laid_paxtar_fit_types), ("unicode/utf8.first", laid_unicode_utf8_first)], narrowed := true }
def ArchiveEncodeMatchesReferenceUptoSaid : Prop := archiveEncodeMatchesReferenceUptoRow.holds Tryz.pinned (OpenSpec.upto archiveEncodeMatchesReferenceSpec)

/-- 'paxtarlaw17.ArchiveReadMatchesReference', WHERE WHAT IT READS IS OF BULK AT MOST 1048576: true; the input reads as it did. -/
def archiveReadMatchesReferenceUptoRow : OpenClaim := { program := "ytcjagakckffkiaagreatdoor", sum := "892f8583b5c24b4f1e2c569a068d24d19ed2d5a6dbf0e065ab720db990fc2285", func := "paxtar/paxtarlaw17.ArchiveReadMatchesReference", spec := "archiveReadMatchesReference", inPlace := ["internal/bytealg.IndexByteString", "internal/bytealg.abigen_runtime_cmpstring", "internal/bytealg.IndexByte", "internal/bytealg.IndexString"], unfollowed := true, recurses := true, named := ["paxtar/paxrec.keys", "paxtar/fit.types", "internal/strconv.uint64pow10", "math/bits.deBruijn32tab", "math/bits.deBruijn64tab", "unicode/utf8.first", "unicode/utf8.acceptRanges", "internal/bytealg.MaxLen", "strconv.ErrSyntax", "strconv.ErrRange"], apart := false, laid := [("math/bits.deBruijn32tab", laid_math_bits_deBruijn32tab), ("math/bits.deBruijn64tab", laid_math_bits_deBruijn64tab), ("internal/strconv.uint64pow10", laid_internal_strconv_uint64pow10), ("unicode/utf8.acceptRanges", laid_unicode_utf8_acceptRanges), ("strconv.ErrRange", laid_strconv_ErrRange), ("strconv.ErrSyntax", laid_strconv_ErrSyntax), ("paxtar/paxrec.keys", laid_paxtar_paxrec_keys), ("paxtar/fit.types", laid_paxtar_fit_types), ("unicode/utf8.first", laid_unicode_utf8_first)], narrowed := true }
def ArchiveReadMatchesReferenceUptoSaid : Prop := archiveReadMatchesReferenceUptoRow.holds Tryz.pinned (OpenSpec.upto archiveReadMatchesReferenceSpec)

/-- 'paxtarlaw17.ArchiveCreateWritesPrefix', WHERE WHAT IT READS IS OF BULK AT MOST 1048576: true; the input reads as it did. -/
def archiveCreateWritesPrefixUptoRow : OpenClaim := { program := "ytcjagakckffkiaagreatdoor", sum := "892f8583b5c24b4f1e2c569a068d24d19ed2d5a6dbf0e065ab720db990fc2285", func := "paxtar/paxtarlaw17.ArchiveCreateWritesPrefix", spec := "archiveCreateWritesPrefix", inPlace := ["internal/bytealg.IndexByteString", "internal/bytealg.abigen_runtime_cmpstring", "internal/bytealg.IndexByte", "internal/bytealg.IndexString"], unfollowed := true, recurses := true, named := ["paxtar/paxrec.keys", "paxtar/fit.types", "internal/strconv.uint64pow10", "math/bits.deBruijn32tab", "math/bits.deBruijn64tab", "unicode/utf8.first", "unicode/utf8.acceptRanges", "internal/bytealg.MaxLen", "strconv.ErrSyntax", "strconv.ErrRange"], apart := false, laid := [("math/bits.deBruijn32tab", laid_math_bits_deBruijn32tab), ("math/bits.deBruijn64tab", laid_math_bits_deBruijn64tab), ("internal/strconv.uint64pow10", laid_internal_strconv_uint64pow10), ("unicode/utf8.acceptRanges", laid_unicode_utf8_acceptRanges), ("strconv.ErrRange", laid_strconv_ErrRange), ("strconv.ErrSyntax", laid_strconv_ErrSyntax), ("paxtar/paxrec.keys", laid_paxtar_paxrec_keys), ("paxtar/fit.types", laid_paxtar_fit_types), ("unicode/utf8.first", laid_unicode_utf8_first)], narrowed := true }
def ArchiveCreateWritesPrefixUptoSaid : Prop := archiveCreateWritesPrefixUptoRow.holds Tryz.pinned (OpenSpec.upto archiveCreateWritesPrefixSpec)

/-- 'paxtarlaw17.ArchiveRoundTrip', WHERE WHAT IT READS IS OF BULK AT MOST 1048576: true; the input reads as it did. -/
def archiveRoundTripUptoRow : OpenClaim := { program := "ytcjagakckffkiaagreatdoor", sum := "892f8583b5c24b4f1e2c569a068d24d19ed2d5a6dbf0e065ab720db990fc2285", func := "paxtar/paxtarlaw17.ArchiveRoundTrip", spec := "archiveRoundTrip", inPlace := ["internal/bytealg.IndexByteString", "internal/bytealg.abigen_runtime_cmpstring", "internal/bytealg.IndexByte", "internal/bytealg.IndexString"], unfollowed := true, recurses := true, named := ["paxtar/paxrec.keys", "paxtar/fit.types", "internal/strconv.uint64pow10", "math/bits.deBruijn32tab", "math/bits.deBruijn64tab", "unicode/utf8.first", "unicode/utf8.acceptRanges", "internal/bytealg.MaxLen", "strconv.ErrSyntax", "strconv.ErrRange"], apart := false, laid := [("math/bits.deBruijn32tab", laid_math_bits_deBruijn32tab), ("math/bits.deBruijn64tab", laid_math_bits_deBruijn64tab), ("internal/strconv.uint64pow10", laid_internal_strconv_uint64pow10), ("unicode/utf8.acceptRanges", laid_unicode_utf8_acceptRanges), ("strconv.ErrRange", laid_strconv_ErrRange), ("strconv.ErrSyntax", laid_strconv_ErrSyntax), ("paxtar/paxrec.keys", laid_paxtar_paxrec_keys), ("paxtar/fit.types", laid_paxtar_fit_types), ("unicode/utf8.first", laid_unicode_utf8_first)], narrowed := true }
def ArchiveRoundTripUptoSaid : Prop := archiveRoundTripUptoRow.holds Tryz.pinned (OpenSpec.upto archiveRoundTripSpec)

/-- 'paxtarlaw17.ArchivePrefixRejected', WHERE WHAT IT READS IS OF BULK AT MOST 1048576: true; the input reads as it did. -/
def archivePrefixRejectedUptoRow : OpenClaim := { program := "ytcjagakckffkiaagreatdoor", sum := "892f8583b5c24b4f1e2c569a068d24d19ed2d5a6dbf0e065ab720db990fc2285", func := "paxtar/paxtarlaw17.ArchivePrefixRejected", spec := "archivePrefixRejected", inPlace := ["internal/bytealg.IndexByteString", "internal/bytealg.abigen_runtime_cmpstring", "internal/bytealg.IndexByte", "internal/bytealg.IndexString"], unfollowed := true, recurses := true, named := ["paxtar/paxrec.keys", "paxtar/fit.types", "internal/strconv.uint64pow10", "math/bits.deBruijn32tab", "math/bits.deBruijn64tab", "unicode/utf8.first", "unicode/utf8.acceptRanges", "internal/bytealg.MaxLen", "strconv.ErrSyntax", "strconv.ErrRange"], apart := false, laid := [("math/bits.deBruijn32tab", laid_math_bits_deBruijn32tab), ("math/bits.deBruijn64tab", laid_math_bits_deBruijn64tab), ("internal/strconv.uint64pow10", laid_internal_strconv_uint64pow10), ("unicode/utf8.acceptRanges", laid_unicode_utf8_acceptRanges), ("strconv.ErrRange", laid_strconv_ErrRange), ("strconv.ErrSyntax", laid_strconv_ErrSyntax), ("paxtar/paxrec.keys", laid_paxtar_paxrec_keys), ("paxtar/fit.types", laid_paxtar_fit_types), ("unicode/utf8.first", laid_unicode_utf8_first)], narrowed := true }
def ArchivePrefixRejectedUptoSaid : Prop := archivePrefixRejectedUptoRow.holds Tryz.pinned (OpenSpec.upto archivePrefixRejectedSpec)

/-- 'paxtarlaw17.ArchiveLength', WHERE WHAT IT READS IS OF BULK AT MOST 1048576: true; the input reads as it did. -/
def archiveLengthUptoRow : OpenClaim := { program := "ytcjagakckffkiaagreatdoor", sum := "892f8583b5c24b4f1e2c569a068d24d19ed2d5a6dbf0e065ab720db990fc2285", func := "paxtar/paxtarlaw17.ArchiveLength", spec := "archiveLength", inPlace := ["internal/bytealg.IndexByteString", "internal/bytealg.abigen_runtime_cmpstring", "internal/bytealg.IndexByte", "internal/bytealg.IndexString"], unfollowed := true, recurses := true, named := ["paxtar/paxrec.keys", "paxtar/fit.types", "internal/strconv.uint64pow10", "math/bits.deBruijn32tab", "math/bits.deBruijn64tab", "unicode/utf8.first", "unicode/utf8.acceptRanges", "internal/bytealg.MaxLen", "strconv.ErrSyntax", "strconv.ErrRange"], apart := false, laid := [("math/bits.deBruijn32tab", laid_math_bits_deBruijn32tab), ("math/bits.deBruijn64tab", laid_math_bits_deBruijn64tab), ("internal/strconv.uint64pow10", laid_internal_strconv_uint64pow10), ("unicode/utf8.acceptRanges", laid_unicode_utf8_acceptRanges), ("strconv.ErrRange", laid_strconv_ErrRange), ("strconv.ErrSyntax", laid_strconv_ErrSyntax), ("paxtar/paxrec.keys", laid_paxtar_paxrec_keys), ("paxtar/fit.types", laid_paxtar_fit_types), ("unicode/utf8.first", laid_unicode_utf8_first)], narrowed := true }
def ArchiveLengthUptoSaid : Prop := archiveLengthUptoRow.holds Tryz.pinned (OpenSpec.upto archiveLengthSpec)

/-- 'paxtarlaw17.ArchiveChunkingIrrelevant', WHERE WHAT IT READS IS OF BULK AT MOST 1048576: true; the input reads as it did. -/
def archiveChunkingIrrelevantUptoRow : OpenClaim := { program := "ytcjagakckffkiaagreatdoor", sum := "892f8583b5c24b4f1e2c569a068d24d19ed2d5a6dbf0e065ab720db990fc2285", func := "paxtar/paxtarlaw17.ArchiveChunkingIrrelevant", spec := "archiveChunkingIrrelevant", inPlace := ["internal/bytealg.IndexByteString", "internal/bytealg.abigen_runtime_cmpstring", "internal/bytealg.IndexByte", "internal/bytealg.IndexString"], unfollowed := true, recurses := true, named := ["paxtar/paxrec.keys", "paxtar/fit.types", "internal/strconv.uint64pow10", "math/bits.deBruijn32tab", "math/bits.deBruijn64tab", "unicode/utf8.first", "unicode/utf8.acceptRanges", "internal/bytealg.MaxLen", "strconv.ErrSyntax", "strconv.ErrRange"], apart := false, laid := [("math/bits.deBruijn32tab", laid_math_bits_deBruijn32tab), ("math/bits.deBruijn64tab", laid_math_bits_deBruijn64tab), ("internal/strconv.uint64pow10", laid_internal_strconv_uint64pow10), ("unicode/utf8.acceptRanges", laid_unicode_utf8_acceptRanges), ("strconv.ErrRange", laid_strconv_ErrRange), ("strconv.ErrSyntax", laid_strconv_ErrSyntax), ("paxtar/paxrec.keys", laid_paxtar_paxrec_keys), ("paxtar/fit.types", laid_paxtar_fit_types), ("unicode/utf8.first", laid_unicode_utf8_first)], narrowed := true }
def ArchiveChunkingIrrelevantUptoSaid : Prop := archiveChunkingIrrelevantUptoRow.holds Tryz.pinned (OpenSpec.upto archiveChunkingIrrelevantSpec)

/-- 'paxtarlaw17.ArchiveMembersInOrder', WHERE WHAT IT READS IS OF BULK AT MOST 1048576: true; the input reads as it did. -/
def archiveMembersInOrderUptoRow : OpenClaim := { program := "ytcjagakckffkiaagreatdoor", sum := "892f8583b5c24b4f1e2c569a068d24d19ed2d5a6dbf0e065ab720db990fc2285", func := "paxtar/paxtarlaw17.ArchiveMembersInOrder", spec := "archiveMembersInOrder", inPlace := ["internal/bytealg.IndexByteString", "internal/bytealg.abigen_runtime_cmpstring", "internal/bytealg.IndexByte", "internal/bytealg.IndexString"], unfollowed := true, recurses := true, named := ["paxtar/paxrec.keys", "paxtar/fit.types", "internal/strconv.uint64pow10", "math/bits.deBruijn32tab", "math/bits.deBruijn64tab", "unicode/utf8.first", "unicode/utf8.acceptRanges", "internal/bytealg.MaxLen", "strconv.ErrSyntax", "strconv.ErrRange"], apart := false, laid := [("math/bits.deBruijn32tab", laid_math_bits_deBruijn32tab), ("math/bits.deBruijn64tab", laid_math_bits_deBruijn64tab), ("internal/strconv.uint64pow10", laid_internal_strconv_uint64pow10), ("unicode/utf8.acceptRanges", laid_unicode_utf8_acceptRanges), ("strconv.ErrRange", laid_strconv_ErrRange), ("strconv.ErrSyntax", laid_strconv_ErrSyntax), ("paxtar/paxrec.keys", laid_paxtar_paxrec_keys), ("paxtar/fit.types", laid_paxtar_fit_types), ("unicode/utf8.first", laid_unicode_utf8_first)], narrowed := true }
def ArchiveMembersInOrderUptoSaid : Prop := archiveMembersInOrderUptoRow.holds Tryz.pinned (OpenSpec.upto archiveMembersInOrderSpec)

/-- 'paxtarlaw17.ArchiveErrorBeforeFailure', WHERE WHAT IT READS IS OF BULK AT MOST 1048576: true; the input reads as it did. -/
def archiveErrorBeforeFailureUptoRow : OpenClaim := { program := "ytcjagakckffkiaagreatdoor", sum := "892f8583b5c24b4f1e2c569a068d24d19ed2d5a6dbf0e065ab720db990fc2285", func := "paxtar/paxtarlaw17.ArchiveErrorBeforeFailure", spec := "archiveErrorBeforeFailure", inPlace := ["internal/bytealg.IndexByteString", "internal/bytealg.abigen_runtime_cmpstring", "internal/bytealg.IndexByte", "internal/bytealg.IndexString"], unfollowed := true, recurses := true, named := ["paxtar/paxrec.keys", "paxtar/fit.types", "internal/strconv.uint64pow10", "math/bits.deBruijn32tab", "math/bits.deBruijn64tab", "unicode/utf8.first", "unicode/utf8.acceptRanges", "internal/bytealg.MaxLen", "strconv.ErrSyntax", "strconv.ErrRange"], apart := false, laid := [("math/bits.deBruijn32tab", laid_math_bits_deBruijn32tab), ("math/bits.deBruijn64tab", laid_math_bits_deBruijn64tab), ("internal/strconv.uint64pow10", laid_internal_strconv_uint64pow10), ("unicode/utf8.acceptRanges", laid_unicode_utf8_acceptRanges), ("strconv.ErrRange", laid_strconv_ErrRange), ("strconv.ErrSyntax", laid_strconv_ErrSyntax), ("paxtar/paxrec.keys", laid_paxtar_paxrec_keys), ("paxtar/fit.types", laid_paxtar_fit_types), ("unicode/utf8.first", laid_unicode_utf8_first)], narrowed := true }
def ArchiveErrorBeforeFailureUptoSaid : Prop := archiveErrorBeforeFailureUptoRow.holds Tryz.pinned (OpenSpec.upto archiveErrorBeforeFailureSpec)

end Rows
end Go.Proofs.YtcjagakckffkiaaGreatDoor
