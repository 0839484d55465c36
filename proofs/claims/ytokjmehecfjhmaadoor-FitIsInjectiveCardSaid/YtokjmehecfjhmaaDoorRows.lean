/-
  NARROWER THAN 'FOR EVERY INPUT', by the rows' own cells (each row's printed sentence says how): FitPlanMatchesReference: laid · FitMergeMatchesReference: laid · FitRoundTrip: laid · FitIsMinimal: laid · FitIsInjective: laid · FitPathPlacement: laid · FitSizeLimits: laid.
  DERIVED. THE GIVEN ROWS OF THIS SEAT. 7 by the template 'for every input the law returns true; each argument reads behind the call as it read before'; 0 by the template 'total and deterministic' (their statements: YtokjmehecfjhmaaDoorTotals.lean).
  GIVEN WITH THE SEED: the statements are not yours to turn. If you find one false, say at which input.
  Laid BY PROGRAM, IN A SANDBOX (cutbox-rows.mjs): the forced cells as the released guide's own fill.sh prints them over the translation 0384ed0ba56cd822… (all of the seat's roots in one cut). By AI agents, Wed Nov 11 2026. No macro, syntax, notation, axiom, sorry.
-/
import Derived.Test.YtokjmehecfjhmaaDoorChecked
import GoSem.Claim
import GoSem.ClaimJoined
import GoSem.ClaimMapViews
import Derived.JoinedTies
import Derived.KernelRfl
namespace Go.Proofs.YtokjmehecfjhmaaDoor
/- THE CELL 'sum', in the pinned program and in every row, IS THE sha256 OF THE DUMP (.gsa) THAT YtokjmehecfjhmaaDoorProg.lean LOADS. Nothing in Lean hashes anything: it is a label: what it is worth is what the hold of that sum in a sandbox is worth. -/
noncomputable def Tryd.pinned : Pinned := { name := "ytokjmehecfjhmaadoor", sum := "0384ed0ba56cd82274817c7bec5938356858c9db1cc96160754e21767973a34c", checked := Tryd.checked }
namespace Rows
def none {H : Type} : Left H := { results := [], args := [] }

/- WHAT THE LISTED PACKAGE-LEVEL VARIABLES READ AS WHEN THE CALL BEGINS. Each datum BY PROGRAM (the guide's laid-datum.mjs) off the statement by which the dump's own 'gosem.cut.vars' lays the variable. In a bare row this is a premise. The card (YtokjmehecfjhmaaDoorCards.lean) ties it to the program's text. -/
def laid_math_bits_deBruijn32tab {H : Type} : DataW H := .agg [.lit (.int .u8 0), .lit (.int .u8 1), .lit (.int .u8 28), .lit (.int .u8 2), .lit (.int .u8 29), .lit (.int .u8 14), .lit (.int .u8 24), .lit (.int .u8 3), .lit (.int .u8 30), .lit (.int .u8 22), .lit (.int .u8 20), .lit (.int .u8 15), .lit (.int .u8 25), .lit (.int .u8 17), .lit (.int .u8 4), .lit (.int .u8 8), .lit (.int .u8 31), .lit (.int .u8 27), .lit (.int .u8 13), .lit (.int .u8 23), .lit (.int .u8 21), .lit (.int .u8 19), .lit (.int .u8 16), .lit (.int .u8 7), .lit (.int .u8 26), .lit (.int .u8 12), .lit (.int .u8 18), .lit (.int .u8 6), .lit (.int .u8 11), .lit (.int .u8 5), .lit (.int .u8 10), .lit (.int .u8 9)]
def laid_math_bits_deBruijn64tab {H : Type} : DataW H := .agg [.lit (.int .u8 0), .lit (.int .u8 1), .lit (.int .u8 56), .lit (.int .u8 2), .lit (.int .u8 57), .lit (.int .u8 49), .lit (.int .u8 28), .lit (.int .u8 3), .lit (.int .u8 61), .lit (.int .u8 58), .lit (.int .u8 42), .lit (.int .u8 50), .lit (.int .u8 38), .lit (.int .u8 29), .lit (.int .u8 17), .lit (.int .u8 4), .lit (.int .u8 62), .lit (.int .u8 47), .lit (.int .u8 59), .lit (.int .u8 36), .lit (.int .u8 45), .lit (.int .u8 43), .lit (.int .u8 51), .lit (.int .u8 22), .lit (.int .u8 53), .lit (.int .u8 39), .lit (.int .u8 33), .lit (.int .u8 30), .lit (.int .u8 24), .lit (.int .u8 18), .lit (.int .u8 12), .lit (.int .u8 5), .lit (.int .u8 63), .lit (.int .u8 55), .lit (.int .u8 48), .lit (.int .u8 27), .lit (.int .u8 60), .lit (.int .u8 41), .lit (.int .u8 37), .lit (.int .u8 16), .lit (.int .u8 46), .lit (.int .u8 35), .lit (.int .u8 44), .lit (.int .u8 21), .lit (.int .u8 52), .lit (.int .u8 32), .lit (.int .u8 23), .lit (.int .u8 11), .lit (.int .u8 54), .lit (.int .u8 26), .lit (.int .u8 40), .lit (.int .u8 15), .lit (.int .u8 34), .lit (.int .u8 20), .lit (.int .u8 31), .lit (.int .u8 10), .lit (.int .u8 25), .lit (.int .u8 14), .lit (.int .u8 19), .lit (.int .u8 9), .lit (.int .u8 13), .lit (.int .u8 8), .lit (.int .u8 7), .lit (.int .u8 6)]
def laid_internal_strconv_uint64pow10 {H : Type} : DataW H := .agg [.lit (.int .u64 1), .lit (.int .u64 10), .lit (.int .u64 100), .lit (.int .u64 1000), .lit (.int .u64 10000), .lit (.int .u64 100000), .lit (.int .u64 1000000), .lit (.int .u64 10000000), .lit (.int .u64 100000000), .lit (.int .u64 1000000000), .lit (.int .u64 10000000000), .lit (.int .u64 100000000000), .lit (.int .u64 1000000000000), .lit (.int .u64 10000000000000), .lit (.int .u64 100000000000000), .lit (.int .u64 1000000000000000), .lit (.int .u64 10000000000000000), .lit (.int .u64 100000000000000000), .lit (.int .u64 1000000000000000000), .lit (.int .u64 10000000000000000000)]
def laid_paxtar_paxrec_keys {H : Type} : DataW H := .agg [.lit (.string [108, 105, 110, 107, 112, 97, 116, 104]), .lit (.string [112, 97, 116, 104]), .lit (.string [115, 105, 122, 101])]
def laid_paxtar_fit_types {H : Type} : DataW H := .agg [.lit (.int .u8 53), .lit (.int .u8 48), .lit (.int .u8 50), .lit (.int .u8 49)]
def laid_strconv_ErrRange {H : Type} : DataW H := .iface "*errors.errorString" (.ptr (.agg [.lit (.string [118, 97, 108, 117, 101, 32, 111, 117, 116, 32, 111, 102, 32, 114, 97, 110, 103, 101])]))
def laid_strconv_ErrSyntax {H : Type} : DataW H := .iface "*errors.errorString" (.ptr (.agg [.lit (.string [105, 110, 118, 97, 108, 105, 100, 32, 115, 121, 110, 116, 97, 120])]))

/-- 'paxtarlaw10.FitPlanMatchesReference': WHATEVER THE INPUT: true; the input reads as it did. -/
def fitPlanMatchesReferenceSpec : ChangeSpec := { name := "fitPlanMatchesReference", fn := fun _ => fun
  | [d] => { results := [.lit (.bool true)], args := [d] }
  | _ => none }
def fitPlanMatchesReferenceRow : OpenClaim := { program := "ytokjmehecfjhmaadoor", sum := "0384ed0ba56cd82274817c7bec5938356858c9db1cc96160754e21767973a34c", func := "paxtar/paxtarlaw10.FitPlanMatchesReference", spec := "fitPlanMatchesReference", inPlace := ["internal/bytealg.IndexByteString"], unfollowed := true, recurses := true, named := ["paxtar/fit.types", "paxtar/paxrec.keys", "internal/strconv.uint64pow10", "math/bits.deBruijn32tab", "math/bits.deBruijn64tab"], apart := false, laid := [("math/bits.deBruijn32tab", laid_math_bits_deBruijn32tab), ("math/bits.deBruijn64tab", laid_math_bits_deBruijn64tab), ("internal/strconv.uint64pow10", laid_internal_strconv_uint64pow10), ("paxtar/paxrec.keys", laid_paxtar_paxrec_keys), ("paxtar/fit.types", laid_paxtar_fit_types)] }
def FitPlanMatchesReferenceSaid : Prop := fitPlanMatchesReferenceRow.holds Tryd.pinned (OpenSpec.ofChange fitPlanMatchesReferenceSpec)

/-- ITS FALSE NEIGHBOUR: 'it returns false'. Refute it at one input. -/
def fitPlanMatchesReferenceWrong : ChangeSpec := { name := "fitPlanMatchesReference", fn := fun _ => fun
  | [d] => { results := [.lit (.bool false)], args := [d] }
  | _ => none }
def FitPlanMatchesReferenceWrongFalsely : Prop := fitPlanMatchesReferenceRow.holds Tryd.pinned (OpenSpec.ofChange fitPlanMatchesReferenceWrong)

/-- 'paxtarlaw10.FitMergeMatchesReference': WHATEVER THE INPUT: true; the input reads as it did. -/
def fitMergeMatchesReferenceSpec : ChangeSpec := { name := "fitMergeMatchesReference", fn := fun _ => fun
  | [d1, d2] => { results := [.lit (.bool true)], args := [d1, d2] }
  | _ => none }
def fitMergeMatchesReferenceRow : OpenClaim := { program := "ytokjmehecfjhmaadoor", sum := "0384ed0ba56cd82274817c7bec5938356858c9db1cc96160754e21767973a34c", func := "paxtar/paxtarlaw10.FitMergeMatchesReference", spec := "fitMergeMatchesReference", inPlace := ["internal/bytealg.IndexByteString"], unfollowed := true, recurses := true, named := ["paxtar/fit.types", "paxtar/paxrec.keys", "internal/strconv.uint64pow10", "math/bits.deBruijn32tab", "math/bits.deBruijn64tab", "strconv.ErrSyntax", "strconv.ErrRange"], apart := false, laid := [("math/bits.deBruijn32tab", laid_math_bits_deBruijn32tab), ("math/bits.deBruijn64tab", laid_math_bits_deBruijn64tab), ("internal/strconv.uint64pow10", laid_internal_strconv_uint64pow10), ("strconv.ErrRange", laid_strconv_ErrRange), ("strconv.ErrSyntax", laid_strconv_ErrSyntax), ("paxtar/paxrec.keys", laid_paxtar_paxrec_keys), ("paxtar/fit.types", laid_paxtar_fit_types)] }
def FitMergeMatchesReferenceSaid : Prop := fitMergeMatchesReferenceRow.holds Tryd.pinned (OpenSpec.ofChange fitMergeMatchesReferenceSpec)

/-- ITS FALSE NEIGHBOUR: 'it returns false'. Refute it at one input. -/
def fitMergeMatchesReferenceWrong : ChangeSpec := { name := "fitMergeMatchesReference", fn := fun _ => fun
  | [d1, d2] => { results := [.lit (.bool false)], args := [d1, d2] }
  | _ => none }
def FitMergeMatchesReferenceWrongFalsely : Prop := fitMergeMatchesReferenceRow.holds Tryd.pinned (OpenSpec.ofChange fitMergeMatchesReferenceWrong)

/-- 'paxtarlaw10.FitRoundTrip': WHATEVER THE INPUT: true; the input reads as it did. -/
def fitRoundTripSpec : ChangeSpec := { name := "fitRoundTrip", fn := fun _ => fun
  | [d] => { results := [.lit (.bool true)], args := [d] }
  | _ => none }
def fitRoundTripRow : OpenClaim := { program := "ytokjmehecfjhmaadoor", sum := "0384ed0ba56cd82274817c7bec5938356858c9db1cc96160754e21767973a34c", func := "paxtar/paxtarlaw10.FitRoundTrip", spec := "fitRoundTrip", inPlace := ["internal/bytealg.IndexByteString"], unfollowed := true, recurses := true, named := ["paxtar/fit.types", "paxtar/paxrec.keys", "internal/strconv.uint64pow10", "math/bits.deBruijn32tab", "math/bits.deBruijn64tab", "strconv.ErrSyntax", "strconv.ErrRange"], apart := false, laid := [("math/bits.deBruijn32tab", laid_math_bits_deBruijn32tab), ("math/bits.deBruijn64tab", laid_math_bits_deBruijn64tab), ("internal/strconv.uint64pow10", laid_internal_strconv_uint64pow10), ("strconv.ErrRange", laid_strconv_ErrRange), ("strconv.ErrSyntax", laid_strconv_ErrSyntax), ("paxtar/paxrec.keys", laid_paxtar_paxrec_keys), ("paxtar/fit.types", laid_paxtar_fit_types)] }
def FitRoundTripSaid : Prop := fitRoundTripRow.holds Tryd.pinned (OpenSpec.ofChange fitRoundTripSpec)

/-- ITS FALSE NEIGHBOUR: 'it returns false'. Refute it at one input. -/
def fitRoundTripWrong : ChangeSpec := { name := "fitRoundTrip", fn := fun _ => fun
  | [d] => { results := [.lit (.bool false)], args := [d] }
  | _ => none }
def FitRoundTripWrongFalsely : Prop := fitRoundTripRow.holds Tryd.pinned (OpenSpec.ofChange fitRoundTripWrong)

/-- 'paxtarlaw10.FitIsMinimal': WHATEVER THE INPUT: true; the input reads as it did. -/
def fitIsMinimalSpec : ChangeSpec := { name := "fitIsMinimal", fn := fun _ => fun
  | [d1, d2] => { results := [.lit (.bool true)], args := [d1, d2] }
  | _ => none }
def fitIsMinimalRow : OpenClaim := { program := "ytokjmehecfjhmaadoor", sum := "0384ed0ba56cd82274817c7bec5938356858c9db1cc96160754e21767973a34c", func := "paxtar/paxtarlaw10.FitIsMinimal", spec := "fitIsMinimal", inPlace := ["internal/bytealg.IndexByteString"], unfollowed := true, recurses := true, named := ["paxtar/fit.types", "paxtar/paxrec.keys", "internal/strconv.uint64pow10", "math/bits.deBruijn32tab", "math/bits.deBruijn64tab", "strconv.ErrSyntax", "strconv.ErrRange"], apart := false, laid := [("math/bits.deBruijn32tab", laid_math_bits_deBruijn32tab), ("math/bits.deBruijn64tab", laid_math_bits_deBruijn64tab), ("internal/strconv.uint64pow10", laid_internal_strconv_uint64pow10), ("strconv.ErrRange", laid_strconv_ErrRange), ("strconv.ErrSyntax", laid_strconv_ErrSyntax), ("paxtar/paxrec.keys", laid_paxtar_paxrec_keys), ("paxtar/fit.types", laid_paxtar_fit_types)] }
def FitIsMinimalSaid : Prop := fitIsMinimalRow.holds Tryd.pinned (OpenSpec.ofChange fitIsMinimalSpec)

/-- ITS FALSE NEIGHBOUR: 'it returns false'. Refute it at one input. -/
def fitIsMinimalWrong : ChangeSpec := { name := "fitIsMinimal", fn := fun _ => fun
  | [d1, d2] => { results := [.lit (.bool false)], args := [d1, d2] }
  | _ => none }
def FitIsMinimalWrongFalsely : Prop := fitIsMinimalRow.holds Tryd.pinned (OpenSpec.ofChange fitIsMinimalWrong)

/-- 'paxtarlaw10.FitIsInjective': WHATEVER THE INPUT: true; the input reads as it did. -/
def fitIsInjectiveSpec : ChangeSpec := { name := "fitIsInjective", fn := fun _ => fun
  | [d1, d2] => { results := [.lit (.bool true)], args := [d1, d2] }
  | _ => none }
def fitIsInjectiveRow : OpenClaim := { program := "ytokjmehecfjhmaadoor", sum := "0384ed0ba56cd82274817c7bec5938356858c9db1cc96160754e21767973a34c", func := "paxtar/paxtarlaw10.FitIsInjective", spec := "fitIsInjective", inPlace := ["internal/bytealg.IndexByteString"], unfollowed := true, recurses := true, named := ["paxtar/fit.types", "paxtar/paxrec.keys", "internal/strconv.uint64pow10", "math/bits.deBruijn32tab", "math/bits.deBruijn64tab"], apart := false, laid := [("math/bits.deBruijn32tab", laid_math_bits_deBruijn32tab), ("math/bits.deBruijn64tab", laid_math_bits_deBruijn64tab), ("internal/strconv.uint64pow10", laid_internal_strconv_uint64pow10), ("paxtar/paxrec.keys", laid_paxtar_paxrec_keys), ("paxtar/fit.types", laid_paxtar_fit_types)] }
def FitIsInjectiveSaid : Prop := fitIsInjectiveRow.holds Tryd.pinned (OpenSpec.ofChange fitIsInjectiveSpec)

/-- ITS FALSE NEIGHBOUR: 'it returns false'. Refute it at one input. -/
def fitIsInjectiveWrong : ChangeSpec := { name := "fitIsInjective", fn := fun _ => fun
  | [d1, d2] => { results := [.lit (.bool false)], args := [d1, d2] }
  | _ => none }
def FitIsInjectiveWrongFalsely : Prop := fitIsInjectiveRow.holds Tryd.pinned (OpenSpec.ofChange fitIsInjectiveWrong)

/-- 'paxtarlaw10.FitPathPlacement': WHATEVER THE INPUT: true; the input reads as it did. -/
def fitPathPlacementSpec : ChangeSpec := { name := "fitPathPlacement", fn := fun _ => fun
  | [d1, d2] => { results := [.lit (.bool true)], args := [d1, d2] }
  | _ => none }
def fitPathPlacementRow : OpenClaim := { program := "ytokjmehecfjhmaadoor", sum := "0384ed0ba56cd82274817c7bec5938356858c9db1cc96160754e21767973a34c", func := "paxtar/paxtarlaw10.FitPathPlacement", spec := "fitPathPlacement", inPlace := ["internal/bytealg.IndexByteString"], unfollowed := true, recurses := true, named := ["paxtar/fit.types", "paxtar/paxrec.keys", "internal/strconv.uint64pow10", "math/bits.deBruijn32tab", "math/bits.deBruijn64tab"], apart := false, laid := [("math/bits.deBruijn32tab", laid_math_bits_deBruijn32tab), ("math/bits.deBruijn64tab", laid_math_bits_deBruijn64tab), ("internal/strconv.uint64pow10", laid_internal_strconv_uint64pow10), ("paxtar/paxrec.keys", laid_paxtar_paxrec_keys), ("paxtar/fit.types", laid_paxtar_fit_types)] }
def FitPathPlacementSaid : Prop := fitPathPlacementRow.holds Tryd.pinned (OpenSpec.ofChange fitPathPlacementSpec)

/-- ITS FALSE NEIGHBOUR: 'it returns false'. Refute it at one input. -/
def fitPathPlacementWrong : ChangeSpec := { name := "fitPathPlacement", fn := fun _ => fun
  | [d1, d2] => { results := [.lit (.bool false)], args := [d1, d2] }
  | _ => none }
def FitPathPlacementWrongFalsely : Prop := fitPathPlacementRow.holds Tryd.pinned (OpenSpec.ofChange fitPathPlacementWrong)

/-- 'paxtarlaw10.FitSizeLimits': WHATEVER THE INPUT: true; the input reads as it did. -/
def fitSizeLimitsSpec : ChangeSpec := { name := "fitSizeLimits", fn := fun _ => fun
  | [d] => { results := [.lit (.bool true)], args := [d] }
  | _ => none }
def fitSizeLimitsRow : OpenClaim := { program := "ytokjmehecfjhmaadoor", sum := "0384ed0ba56cd82274817c7bec5938356858c9db1cc96160754e21767973a34c", func := "paxtar/paxtarlaw10.FitSizeLimits", spec := "fitSizeLimits", inPlace := ["internal/bytealg.IndexByteString"], unfollowed := true, recurses := true, named := ["paxtar/fit.types", "paxtar/paxrec.keys", "internal/strconv.uint64pow10", "math/bits.deBruijn32tab", "math/bits.deBruijn64tab"], apart := false, laid := [("math/bits.deBruijn32tab", laid_math_bits_deBruijn32tab), ("math/bits.deBruijn64tab", laid_math_bits_deBruijn64tab), ("internal/strconv.uint64pow10", laid_internal_strconv_uint64pow10), ("paxtar/paxrec.keys", laid_paxtar_paxrec_keys), ("paxtar/fit.types", laid_paxtar_fit_types)] }
def FitSizeLimitsSaid : Prop := fitSizeLimitsRow.holds Tryd.pinned (OpenSpec.ofChange fitSizeLimitsSpec)

/-- ITS FALSE NEIGHBOUR: 'it returns false'. Refute it at one input. -/
def fitSizeLimitsWrong : ChangeSpec := { name := "fitSizeLimits", fn := fun _ => fun
  | [d] => { results := [.lit (.bool false)], args := [d] }
  | _ => none }
def FitSizeLimitsWrongFalsely : Prop := fitSizeLimitsRow.holds Tryd.pinned (OpenSpec.ofChange fitSizeLimitsWrong)

/- THE SECOND FORM. 'bulk': how many values and letters a reading holds, each counted each time it is reached (what is shared counts as often as it is met; a slice's spare places count too). A statement '..UptoSaid' is the law's where the arguments, and the package variables that the reading takes, are together of bulk at most 1048576: NARROWER than '..Said'. Prove '..Said' where nothing that the law and all that it calls make is longer than what came in: it says more and counts as full. Else prove '..UptoSaid'. A law counts once. -/
mutual
def uptoBulk {H : Type} : DataW H → Nat
  | .lit (.string bytes) => bytes.length + 1
  | .lit _ => 1
  | .nil => 1
  | .ptr d => uptoBulk d + 1
  | .slice elems spare => uptoBulkAll elems + uptoBulkAll spare + 1
  | .agg parts => uptoBulkAll parts + 1
  | .iface _ d => uptoBulk d + 1
  | .map entries => uptoBulkEntries entries + 1
  | .held _ => 1
def uptoBulkAll {H : Type} : List (DataW H) → Nat
  | [] => 0
  | d :: r => uptoBulk d + uptoBulkAll r
def uptoBulkEntries {H : Type} : List (Lit × DataW H) → Nat
  | [] => 0
  | x :: r => uptoBulkEntry x + uptoBulkEntries r
def uptoBulkEntry {H : Type} : Lit × DataW H → Nat
  | (.string bytes, d) => bytes.length + uptoBulk d + 1
  | (_, d) => uptoBulk d + 1
 end
def uptoSmall : (H : Type) → List (DataW H) → Bool := fun _ ds => decide (uptoBulkAll ds ≤ 1048576)
def OpenSpec.upto (s : _root_.Go.ChangeSpec) : _root_.Go.OpenSpec := { _root_.Go.OpenSpec.ofChange s with cond := some uptoSmall }

/-- 'paxtarlaw10.FitPlanMatchesReference', WHERE WHAT IT READS IS OF BULK AT MOST 1048576: true; the input reads as it did. -/
def fitPlanMatchesReferenceUptoRow : OpenClaim := { program := "ytokjmehecfjhmaadoor", sum := "0384ed0ba56cd82274817c7bec5938356858c9db1cc96160754e21767973a34c", func := "paxtar/paxtarlaw10.FitPlanMatchesReference", spec := "fitPlanMatchesReference", inPlace := ["internal/bytealg.IndexByteString"], unfollowed := true, recurses := true, named := ["paxtar/fit.types", "paxtar/paxrec.keys", "internal/strconv.uint64pow10", "math/bits.deBruijn32tab", "math/bits.deBruijn64tab"], apart := false, laid := [("math/bits.deBruijn32tab", laid_math_bits_deBruijn32tab), ("math/bits.deBruijn64tab", laid_math_bits_deBruijn64tab), ("internal/strconv.uint64pow10", laid_internal_strconv_uint64pow10), ("paxtar/paxrec.keys", laid_paxtar_paxrec_keys), ("paxtar/fit.types", laid_paxtar_fit_types)], narrowed := true }
def FitPlanMatchesReferenceUptoSaid : Prop := fitPlanMatchesReferenceUptoRow.holds Tryd.pinned (OpenSpec.upto fitPlanMatchesReferenceSpec)

/-- 'paxtarlaw10.FitMergeMatchesReference', WHERE WHAT IT READS IS OF BULK AT MOST 1048576: true; the input reads as it did. -/
def fitMergeMatchesReferenceUptoRow : OpenClaim := { program := "ytokjmehecfjhmaadoor", sum := "0384ed0ba56cd82274817c7bec5938356858c9db1cc96160754e21767973a34c", func := "paxtar/paxtarlaw10.FitMergeMatchesReference", spec := "fitMergeMatchesReference", inPlace := ["internal/bytealg.IndexByteString"], unfollowed := true, recurses := true, named := ["paxtar/fit.types", "paxtar/paxrec.keys", "internal/strconv.uint64pow10", "math/bits.deBruijn32tab", "math/bits.deBruijn64tab", "strconv.ErrSyntax", "strconv.ErrRange"], apart := false, laid := [("math/bits.deBruijn32tab", laid_math_bits_deBruijn32tab), ("math/bits.deBruijn64tab", laid_math_bits_deBruijn64tab), ("internal/strconv.uint64pow10", laid_internal_strconv_uint64pow10), ("strconv.ErrRange", laid_strconv_ErrRange), ("strconv.ErrSyntax", laid_strconv_ErrSyntax), ("paxtar/paxrec.keys", laid_paxtar_paxrec_keys), ("paxtar/fit.types", laid_paxtar_fit_types)], narrowed := true }
def FitMergeMatchesReferenceUptoSaid : Prop := fitMergeMatchesReferenceUptoRow.holds Tryd.pinned (OpenSpec.upto fitMergeMatchesReferenceSpec)

/-- 'paxtarlaw10.FitRoundTrip', WHERE WHAT IT READS IS OF BULK AT MOST 1048576: true; the input reads as it did. -/
def fitRoundTripUptoRow : OpenClaim := { program := "ytokjmehecfjhmaadoor", sum := "0384ed0ba56cd82274817c7bec5938356858c9db1cc96160754e21767973a34c", func := "paxtar/paxtarlaw10.FitRoundTrip", spec := "fitRoundTrip", inPlace := ["internal/bytealg.IndexByteString"], unfollowed := true, recurses := true, named := ["paxtar/fit.types", "paxtar/paxrec.keys", "internal/strconv.uint64pow10", "math/bits.deBruijn32tab", "math/bits.deBruijn64tab", "strconv.ErrSyntax", "strconv.ErrRange"], apart := false, laid := [("math/bits.deBruijn32tab", laid_math_bits_deBruijn32tab), ("math/bits.deBruijn64tab", laid_math_bits_deBruijn64tab), ("internal/strconv.uint64pow10", laid_internal_strconv_uint64pow10), ("strconv.ErrRange", laid_strconv_ErrRange), ("strconv.ErrSyntax", laid_strconv_ErrSyntax), ("paxtar/paxrec.keys", laid_paxtar_paxrec_keys), ("paxtar/fit.types", laid_paxtar_fit_types)], narrowed := true }
def FitRoundTripUptoSaid : Prop := fitRoundTripUptoRow.holds Tryd.pinned (OpenSpec.upto fitRoundTripSpec)

/-- 'paxtarlaw10.FitIsMinimal', WHERE WHAT IT READS IS OF BULK AT MOST 1048576: true; the input reads as it did. -/
def fitIsMinimalUptoRow : OpenClaim := { program := "ytokjmehecfjhmaadoor", sum := "0384ed0ba56cd82274817c7bec5938356858c9db1cc96160754e21767973a34c", func := "paxtar/paxtarlaw10.FitIsMinimal", spec := "fitIsMinimal", inPlace := ["internal/bytealg.IndexByteString"], unfollowed := true, recurses := true, named := ["paxtar/fit.types", "paxtar/paxrec.keys", "internal/strconv.uint64pow10", "math/bits.deBruijn32tab", "math/bits.deBruijn64tab", "strconv.ErrSyntax", "strconv.ErrRange"], apart := false, laid := [("math/bits.deBruijn32tab", laid_math_bits_deBruijn32tab), ("math/bits.deBruijn64tab", laid_math_bits_deBruijn64tab), ("internal/strconv.uint64pow10", laid_internal_strconv_uint64pow10), ("strconv.ErrRange", laid_strconv_ErrRange), ("strconv.ErrSyntax", laid_strconv_ErrSyntax), ("paxtar/paxrec.keys", laid_paxtar_paxrec_keys), ("paxtar/fit.types", laid_paxtar_fit_types)], narrowed := true }
def FitIsMinimalUptoSaid : Prop := fitIsMinimalUptoRow.holds Tryd.pinned (OpenSpec.upto fitIsMinimalSpec)

/-- 'paxtarlaw10.FitIsInjective', WHERE WHAT IT READS IS OF BULK AT MOST 1048576: true; the input reads as it did. -/
def fitIsInjectiveUptoRow : OpenClaim := { program := "ytokjmehecfjhmaadoor", sum := "0384ed0ba56cd82274817c7bec5938356858c9db1cc96160754e21767973a34c", func := "paxtar/paxtarlaw10.FitIsInjective", spec := "fitIsInjective", inPlace := ["internal/bytealg.IndexByteString"], unfollowed := true, recurses := true, named := ["paxtar/fit.types", "paxtar/paxrec.keys", "internal/strconv.uint64pow10", "math/bits.deBruijn32tab", "math/bits.deBruijn64tab"], apart := false, laid := [("math/bits.deBruijn32tab", laid_math_bits_deBruijn32tab), ("math/bits.deBruijn64tab", laid_math_bits_deBruijn64tab), ("internal/strconv.uint64pow10", laid_internal_strconv_uint64pow10), ("paxtar/paxrec.keys", laid_paxtar_paxrec_keys), ("paxtar/fit.types", laid_paxtar_fit_types)], narrowed := true }
def FitIsInjectiveUptoSaid : Prop := fitIsInjectiveUptoRow.holds Tryd.pinned (OpenSpec.upto fitIsInjectiveSpec)

/-- 'paxtarlaw10.FitPathPlacement', WHERE WHAT IT READS IS OF BULK AT MOST 1048576: true; the input reads as it did. -/
def fitPathPlacementUptoRow : OpenClaim := { program := "ytokjmehecfjhmaadoor", sum := "0384ed0ba56cd82274817c7bec5938356858c9db1cc96160754e21767973a34c", func := "paxtar/paxtarlaw10.FitPathPlacement", spec := "fitPathPlacement", inPlace := ["internal/bytealg.IndexByteString"], unfollowed := true, recurses := true, named := ["paxtar/fit.types", "paxtar/paxrec.keys", "internal/strconv.uint64pow10", "math/bits.deBruijn32tab", "math/bits.deBruijn64tab"], apart := false, laid := [("math/bits.deBruijn32tab", laid_math_bits_deBruijn32tab), ("math/bits.deBruijn64tab", laid_math_bits_deBruijn64tab), ("internal/strconv.uint64pow10", laid_internal_strconv_uint64pow10), ("paxtar/paxrec.keys", laid_paxtar_paxrec_keys), ("paxtar/fit.types", laid_paxtar_fit_types)], narrowed := true }
def FitPathPlacementUptoSaid : Prop := fitPathPlacementUptoRow.holds Tryd.pinned (OpenSpec.upto fitPathPlacementSpec)

/-- 'paxtarlaw10.FitSizeLimits', WHERE WHAT IT READS IS OF BULK AT MOST 1048576: true; the input reads as it did. -/
def fitSizeLimitsUptoRow : OpenClaim := { program := "ytokjmehecfjhmaadoor", sum := "0384ed0ba56cd82274817c7bec5938356858c9db1cc96160754e21767973a34c", func := "paxtar/paxtarlaw10.FitSizeLimits", spec := "fitSizeLimits", inPlace := ["internal/bytealg.IndexByteString"], unfollowed := true, recurses := true, named := ["paxtar/fit.types", "paxtar/paxrec.keys", "internal/strconv.uint64pow10", "math/bits.deBruijn32tab", "math/bits.deBruijn64tab"], apart := false, laid := [("math/bits.deBruijn32tab", laid_math_bits_deBruijn32tab), ("math/bits.deBruijn64tab", laid_math_bits_deBruijn64tab), ("internal/strconv.uint64pow10", laid_internal_strconv_uint64pow10), ("paxtar/paxrec.keys", laid_paxtar_paxrec_keys), ("paxtar/fit.types", laid_paxtar_fit_types)], narrowed := true }
def FitSizeLimitsUptoSaid : Prop := fitSizeLimitsUptoRow.holds Tryd.pinned (OpenSpec.upto fitSizeLimitsSpec)

end Rows
end Go.Proofs.YtokjmehecfjhmaaDoor
