/-
  NARROWER THAN 'FOR EVERY INPUT', by the rows' own cells (each row's printed sentence says how): FtoaShort: laid · FtoaBack: laid · FtoaLined: laid · TopShortest: laid · TopPrinted: laid · TopTwoWays: laid.
  DERIVED. THE GIVEN ROWS OF THIS SEAT. 6 by the template 'for every input the law returns true; each argument reads behind the call as it read before'; 0 by the template 'total and deterministic' (their statements: YtjnmgjcmagnkeabGreatDoorTotals.lean).
  GIVEN WITH THE SEED: the statements are not yours to turn. If you find one false, say at which input.
  Laid BY PROGRAM, IN A SANDBOX (cutbox-rows.mjs): the forced cells as the released guide's own fill.sh prints them over the translation 1cdfe1b313df640d… (all of the seat's roots in one cut). By AI agents, Wed Nov 11 2026. No macro, syntax, notation, axiom, sorry.
-/
import Derived.Test.YtjnmgjcmagnkeabGreatDoorChecked
import GoSem.PinnedTables
import GoSem.Claim
import GoSem.ClaimJoined
import GoSem.ClaimMapViews
import Derived.JoinedTies
import Derived.KernelRfl
namespace Go.Proofs.YtjnmgjcmagnkeabGreatDoor
/- THE CELL 'sum', in the pinned program and in every row, IS THE sha256 OF THE DUMP (.gsa) THAT YtjnmgjcmagnkeabGreatDoorProg.lean LOADS. Nothing in Lean hashes anything: it is a label: what it is worth is what the hold of that sum in a sandbox is worth. -/
noncomputable def Tryz.pinned : Pinned := { name := "ytjnmgjcmagnkeabgreatdoor", sum := "1cdfe1b313df640d85c1fdea9ebaf9ed8f1277bd4c646a06949d85adc725f247", checked := Tryz.checked }
namespace Rows
def none {H : Type} : Left H := { results := [], args := [] }

/- WHAT THE LISTED PACKAGE-LEVEL VARIABLES READ AS WHEN THE CALL BEGINS. Each datum BY PROGRAM (the guide's laid-datum.mjs) off the statement by which the dump's own 'gosem.cut.vars' lays the variable. In a bare row this is a premise. The card (YtjnmgjcmagnkeabGreatDoorCards.lean) ties it to the program's text. -/
def laid_math_bits_deBruijn32tab {H : Type} : DataW H := .agg [.lit (.int .u8 0), .lit (.int .u8 1), .lit (.int .u8 28), .lit (.int .u8 2), .lit (.int .u8 29), .lit (.int .u8 14), .lit (.int .u8 24), .lit (.int .u8 3), .lit (.int .u8 30), .lit (.int .u8 22), .lit (.int .u8 20), .lit (.int .u8 15), .lit (.int .u8 25), .lit (.int .u8 17), .lit (.int .u8 4), .lit (.int .u8 8), .lit (.int .u8 31), .lit (.int .u8 27), .lit (.int .u8 13), .lit (.int .u8 23), .lit (.int .u8 21), .lit (.int .u8 19), .lit (.int .u8 16), .lit (.int .u8 7), .lit (.int .u8 26), .lit (.int .u8 12), .lit (.int .u8 18), .lit (.int .u8 6), .lit (.int .u8 11), .lit (.int .u8 5), .lit (.int .u8 10), .lit (.int .u8 9)]
def laid_math_bits_deBruijn64tab {H : Type} : DataW H := .agg [.lit (.int .u8 0), .lit (.int .u8 1), .lit (.int .u8 56), .lit (.int .u8 2), .lit (.int .u8 57), .lit (.int .u8 49), .lit (.int .u8 28), .lit (.int .u8 3), .lit (.int .u8 61), .lit (.int .u8 58), .lit (.int .u8 42), .lit (.int .u8 50), .lit (.int .u8 38), .lit (.int .u8 29), .lit (.int .u8 17), .lit (.int .u8 4), .lit (.int .u8 62), .lit (.int .u8 47), .lit (.int .u8 59), .lit (.int .u8 36), .lit (.int .u8 45), .lit (.int .u8 43), .lit (.int .u8 51), .lit (.int .u8 22), .lit (.int .u8 53), .lit (.int .u8 39), .lit (.int .u8 33), .lit (.int .u8 30), .lit (.int .u8 24), .lit (.int .u8 18), .lit (.int .u8 12), .lit (.int .u8 5), .lit (.int .u8 63), .lit (.int .u8 55), .lit (.int .u8 48), .lit (.int .u8 27), .lit (.int .u8 60), .lit (.int .u8 41), .lit (.int .u8 37), .lit (.int .u8 16), .lit (.int .u8 46), .lit (.int .u8 35), .lit (.int .u8 44), .lit (.int .u8 21), .lit (.int .u8 52), .lit (.int .u8 32), .lit (.int .u8 23), .lit (.int .u8 11), .lit (.int .u8 54), .lit (.int .u8 26), .lit (.int .u8 40), .lit (.int .u8 15), .lit (.int .u8 34), .lit (.int .u8 20), .lit (.int .u8 31), .lit (.int .u8 10), .lit (.int .u8 25), .lit (.int .u8 14), .lit (.int .u8 19), .lit (.int .u8 9), .lit (.int .u8 13), .lit (.int .u8 8), .lit (.int .u8 7), .lit (.int .u8 6)]
def laid_internal_strconv_uint64pow10 {H : Type} : DataW H := .agg [.lit (.int .u64 1), .lit (.int .u64 10), .lit (.int .u64 100), .lit (.int .u64 1000), .lit (.int .u64 10000), .lit (.int .u64 100000), .lit (.int .u64 1000000), .lit (.int .u64 10000000), .lit (.int .u64 100000000), .lit (.int .u64 1000000000), .lit (.int .u64 10000000000), .lit (.int .u64 100000000000), .lit (.int .u64 1000000000000), .lit (.int .u64 10000000000000), .lit (.int .u64 100000000000000), .lit (.int .u64 1000000000000000), .lit (.int .u64 10000000000000000), .lit (.int .u64 100000000000000000), .lit (.int .u64 1000000000000000000), .lit (.int .u64 10000000000000000000)]
def laid_unicode_utf8_acceptRanges {H : Type} : DataW H := .agg [.agg [.lit (.int .u8 128), .lit (.int .u8 191)], .agg [.lit (.int .u8 160), .lit (.int .u8 191)], .agg [.lit (.int .u8 128), .lit (.int .u8 159)], .agg [.lit (.int .u8 144), .lit (.int .u8 191)], .agg [.lit (.int .u8 128), .lit (.int .u8 143)], .agg [.lit (.int .u8 0), .lit (.int .u8 0)], .agg [.lit (.int .u8 0), .lit (.int .u8 0)], .agg [.lit (.int .u8 0), .lit (.int .u8 0)], .agg [.lit (.int .u8 0), .lit (.int .u8 0)], .agg [.lit (.int .u8 0), .lit (.int .u8 0)], .agg [.lit (.int .u8 0), .lit (.int .u8 0)], .agg [.lit (.int .u8 0), .lit (.int .u8 0)], .agg [.lit (.int .u8 0), .lit (.int .u8 0)], .agg [.lit (.int .u8 0), .lit (.int .u8 0)], .agg [.lit (.int .u8 0), .lit (.int .u8 0)], .agg [.lit (.int .u8 0), .lit (.int .u8 0)]]
def laid_errors_errorType {H : Type} : DataW H := .iface "internal/reflectlite.rtype" (.agg [.ptr (.lit (.string [101, 114, 114, 111, 114]))])
def laid_plumb_ftoa_zeroTexts {H : Type} : DataW H := .agg [.lit (.string []), .lit (.string [48]), .lit (.string [48, 120, 48, 112, 43, 48]), .lit (.string [48, 101, 43, 48, 48])]
/-- One of Go's own tables, pinned by name: the form's constant. -/
def laid_unicode_CaseRanges : DataW Unit := Go.Pinned.caseRanges
/-- One of Go's own tables, pinned by name: the form's constant. -/
def laid_unicode_utf8_first : DataW Unit := Go.Pinned.utf8First
def laid_plumb_lemire_tens {H : Type} : DataW H := .agg [.lit (.int .u64 4607182418800017408), .lit (.int .u64 4621819117588971520), .lit (.int .u64 4636737291354636288), .lit (.int .u64 4652007308841189376), .lit (.int .u64 4666723172467343360), .lit (.int .u64 4681608360884174848), .lit (.int .u64 4696837146684686336), .lit (.int .u64 4711630319722168320), .lit (.int .u64 4726483295884279808), .lit (.int .u64 4741671816366391296), .lit (.int .u64 4756540486875873280), .lit (.int .u64 4771362005757984768), .lit (.int .u64 4786511204640096256), .lit (.int .u64 4801453603149578240), .lit (.int .u64 4816244402031689728), .lit (.int .u64 4831355200913801216), .lit (.int .u64 4846369599423283200), .lit (.int .u64 4861130398305394688), .lit (.int .u64 4876203697187506176), .lit (.int .u64 4891288408196988160), .lit (.int .u64 4906019910204099648), .lit (.int .u64 4921056587992461136), .lit (.int .u64 4936209963552724370)]
def laid_plumb_near_stayAtGreatest {H : Type} : DataW H := .agg [.agg [.lit (.bool false), .lit (.bool false)], .agg [.lit (.bool true), .lit (.bool true)], .agg [.lit (.bool false), .lit (.bool false)], .agg [.lit (.bool false), .lit (.bool true)], .agg [.lit (.bool true), .lit (.bool false)]]

/-- 'plumblaw14.FtoaShort': WHATEVER THE INPUT: true; the input reads as it did. -/
def ftoaShortSpec : ChangeSpec := { name := "ftoaShort", fn := fun _ => fun
  | [d] => { results := [.lit (.bool true)], args := [d] }
  | _ => none }
def ftoaShortRow : OpenClaim := { program := "ytjnmgjcmagnkeabgreatdoor", sum := "1cdfe1b313df640d85c1fdea9ebaf9ed8f1277bd4c646a06949d85adc725f247", func := "plumb/plumblaw14.FtoaShort", spec := "ftoaShort", inPlace := ["internal/abi.NoEscape", "internal/bytealg.MakeNoZero", "internal/bytealg.IndexByteString", "internal/bytealg.IndexString", "internal/reflectlite.ValueOf", "(internal/reflectlite.Value).Type", "(internal/reflectlite.Value).IsNil", "internal/reflectlite.TypeOf", "(internal/reflectlite.Value).Elem", "(internal/reflectlite.Value).Set"], unfollowed := true, recurses := true, named := ["plumb/ftoa.zeroTexts", "internal/strconv.uint64pow10", "math/bits.deBruijn32tab", "math/bits.deBruijn64tab", "internal/bytealg.MaxLen", "unicode/utf8.first", "unicode/utf8.acceptRanges", "errors.errorType", "unicode.CaseRanges"], apart := false, laid := [("math/bits.deBruijn32tab", laid_math_bits_deBruijn32tab), ("math/bits.deBruijn64tab", laid_math_bits_deBruijn64tab), ("internal/strconv.uint64pow10", laid_internal_strconv_uint64pow10), ("unicode/utf8.acceptRanges", laid_unicode_utf8_acceptRanges), ("errors.errorType", laid_errors_errorType), ("plumb/ftoa.zeroTexts", laid_plumb_ftoa_zeroTexts), ("unicode.CaseRanges", laid_unicode_CaseRanges), ("unicode/utf8.first", laid_unicode_utf8_first)] }
def FtoaShortSaid : Prop := ftoaShortRow.holds Tryz.pinned (OpenSpec.ofChange ftoaShortSpec)

/-- ITS FALSE NEIGHBOUR: 'it returns false'. Refute it at one input. -/
def ftoaShortWrong : ChangeSpec := { name := "ftoaShort", fn := fun _ => fun
  | [d] => { results := [.lit (.bool false)], args := [d] }
  | _ => none }
def FtoaShortWrongFalsely : Prop := ftoaShortRow.holds Tryz.pinned (OpenSpec.ofChange ftoaShortWrong)

/-- 'plumblaw14.FtoaBack': WHATEVER THE INPUT: true; the input reads as it did. -/
def ftoaBackSpec : ChangeSpec := { name := "ftoaBack", fn := fun _ => fun
  | [d] => { results := [.lit (.bool true)], args := [d] }
  | _ => none }
def ftoaBackRow : OpenClaim := { program := "ytjnmgjcmagnkeabgreatdoor", sum := "1cdfe1b313df640d85c1fdea9ebaf9ed8f1277bd4c646a06949d85adc725f247", func := "plumb/plumblaw14.FtoaBack", spec := "ftoaBack", inPlace := ["internal/abi.NoEscape", "internal/bytealg.MakeNoZero", "internal/bytealg.IndexByteString", "internal/bytealg.IndexString"], unfollowed := true, recurses := true, named := ["plumb/ftoa.zeroTexts", "internal/strconv.uint64pow10", "math/bits.deBruijn32tab", "math/bits.deBruijn64tab", "unicode/utf8.first", "unicode/utf8.acceptRanges", "unicode.CaseRanges", "plumb/near.stayAtGreatest", "plumb/lemire.tens", "internal/bytealg.MaxLen"], apart := false, laid := [("math/bits.deBruijn32tab", laid_math_bits_deBruijn32tab), ("math/bits.deBruijn64tab", laid_math_bits_deBruijn64tab), ("internal/strconv.uint64pow10", laid_internal_strconv_uint64pow10), ("unicode/utf8.acceptRanges", laid_unicode_utf8_acceptRanges), ("plumb/lemire.tens", laid_plumb_lemire_tens), ("plumb/near.stayAtGreatest", laid_plumb_near_stayAtGreatest), ("plumb/ftoa.zeroTexts", laid_plumb_ftoa_zeroTexts), ("unicode.CaseRanges", laid_unicode_CaseRanges), ("unicode/utf8.first", laid_unicode_utf8_first)] }
def FtoaBackSaid : Prop := ftoaBackRow.holds Tryz.pinned (OpenSpec.ofChange ftoaBackSpec)

/-- ITS FALSE NEIGHBOUR: 'it returns false'. Refute it at one input. -/
def ftoaBackWrong : ChangeSpec := { name := "ftoaBack", fn := fun _ => fun
  | [d] => { results := [.lit (.bool false)], args := [d] }
  | _ => none }
def FtoaBackWrongFalsely : Prop := ftoaBackRow.holds Tryz.pinned (OpenSpec.ofChange ftoaBackWrong)

/-- 'plumblaw14.FtoaLined': WHATEVER THE INPUT: true; the input reads as it did. -/
def ftoaLinedSpec : ChangeSpec := { name := "ftoaLined", fn := fun _ => fun
  | [d1, d2] => { results := [.lit (.bool true)], args := [d1, d2] }
  | _ => none }
def ftoaLinedRow : OpenClaim := { program := "ytjnmgjcmagnkeabgreatdoor", sum := "1cdfe1b313df640d85c1fdea9ebaf9ed8f1277bd4c646a06949d85adc725f247", func := "plumb/plumblaw14.FtoaLined", spec := "ftoaLined", inPlace := ["internal/abi.NoEscape", "internal/bytealg.MakeNoZero", "internal/bytealg.IndexByteString", "internal/bytealg.IndexString", "internal/reflectlite.ValueOf", "(internal/reflectlite.Value).Type", "(internal/reflectlite.Value).IsNil", "internal/reflectlite.TypeOf", "(internal/reflectlite.Value).Elem", "(internal/reflectlite.Value).Set"], unfollowed := true, recurses := true, named := ["plumb/ftoa.zeroTexts", "internal/strconv.uint64pow10", "math/bits.deBruijn32tab", "math/bits.deBruijn64tab", "unicode/utf8.first", "unicode/utf8.acceptRanges", "unicode.CaseRanges", "plumb/near.stayAtGreatest", "plumb/lemire.tens", "errors.errorType", "internal/bytealg.MaxLen"], apart := false, laid := [("math/bits.deBruijn32tab", laid_math_bits_deBruijn32tab), ("math/bits.deBruijn64tab", laid_math_bits_deBruijn64tab), ("internal/strconv.uint64pow10", laid_internal_strconv_uint64pow10), ("unicode/utf8.acceptRanges", laid_unicode_utf8_acceptRanges), ("errors.errorType", laid_errors_errorType), ("plumb/lemire.tens", laid_plumb_lemire_tens), ("plumb/near.stayAtGreatest", laid_plumb_near_stayAtGreatest), ("plumb/ftoa.zeroTexts", laid_plumb_ftoa_zeroTexts), ("unicode.CaseRanges", laid_unicode_CaseRanges), ("unicode/utf8.first", laid_unicode_utf8_first)] }
def FtoaLinedSaid : Prop := ftoaLinedRow.holds Tryz.pinned (OpenSpec.ofChange ftoaLinedSpec)

/-- ITS FALSE NEIGHBOUR: 'it returns false'. Refute it at one input. -/
def ftoaLinedWrong : ChangeSpec := { name := "ftoaLined", fn := fun _ => fun
  | [d1, d2] => { results := [.lit (.bool false)], args := [d1, d2] }
  | _ => none }
def FtoaLinedWrongFalsely : Prop := ftoaLinedRow.holds Tryz.pinned (OpenSpec.ofChange ftoaLinedWrong)

/-- 'plumbtop.TopShortest': WHATEVER THE INPUT: true; the input reads as it did. -/
def topShortestSpec : ChangeSpec := { name := "topShortest", fn := fun _ => fun
  | [d] => { results := [.lit (.bool true)], args := [d] }
  | _ => none }
def topShortestRow : OpenClaim := { program := "ytjnmgjcmagnkeabgreatdoor", sum := "1cdfe1b313df640d85c1fdea9ebaf9ed8f1277bd4c646a06949d85adc725f247", func := "plumb/plumbtop.TopShortest", spec := "topShortest", inPlace := ["internal/bytealg.IndexByteString", "internal/bytealg.IndexString", "internal/abi.NoEscape", "internal/bytealg.MakeNoZero"], unfollowed := true, recurses := true, named := ["unicode/utf8.first", "unicode/utf8.acceptRanges", "unicode.CaseRanges", "plumb/near.stayAtGreatest", "plumb/lemire.tens", "internal/bytealg.MaxLen"], apart := false, laid := [("unicode/utf8.acceptRanges", laid_unicode_utf8_acceptRanges), ("plumb/lemire.tens", laid_plumb_lemire_tens), ("plumb/near.stayAtGreatest", laid_plumb_near_stayAtGreatest), ("unicode.CaseRanges", laid_unicode_CaseRanges), ("unicode/utf8.first", laid_unicode_utf8_first)] }
def TopShortestSaid : Prop := topShortestRow.holds Tryz.pinned (OpenSpec.ofChange topShortestSpec)

/-- ITS FALSE NEIGHBOUR: 'it returns false'. Refute it at one input. -/
def topShortestWrong : ChangeSpec := { name := "topShortest", fn := fun _ => fun
  | [d] => { results := [.lit (.bool false)], args := [d] }
  | _ => none }
def TopShortestWrongFalsely : Prop := topShortestRow.holds Tryz.pinned (OpenSpec.ofChange topShortestWrong)

/-- 'plumbtop.TopPrinted': WHATEVER THE INPUT: true; the input reads as it did. -/
def topPrintedSpec : ChangeSpec := { name := "topPrinted", fn := fun _ => fun
  | [d1, d2] => { results := [.lit (.bool true)], args := [d1, d2] }
  | _ => none }
def topPrintedRow : OpenClaim := { program := "ytjnmgjcmagnkeabgreatdoor", sum := "1cdfe1b313df640d85c1fdea9ebaf9ed8f1277bd4c646a06949d85adc725f247", func := "plumb/plumbtop.TopPrinted", spec := "topPrinted", inPlace := ["internal/bytealg.IndexByteString", "internal/bytealg.IndexString", "internal/abi.NoEscape", "internal/bytealg.MakeNoZero"], unfollowed := true, recurses := true, named := ["unicode/utf8.first", "unicode/utf8.acceptRanges", "unicode.CaseRanges", "plumb/near.stayAtGreatest", "plumb/lemire.tens", "plumb/ftoa.zeroTexts", "internal/strconv.uint64pow10", "math/bits.deBruijn32tab", "math/bits.deBruijn64tab", "internal/bytealg.MaxLen"], apart := false, laid := [("math/bits.deBruijn32tab", laid_math_bits_deBruijn32tab), ("math/bits.deBruijn64tab", laid_math_bits_deBruijn64tab), ("internal/strconv.uint64pow10", laid_internal_strconv_uint64pow10), ("unicode/utf8.acceptRanges", laid_unicode_utf8_acceptRanges), ("plumb/lemire.tens", laid_plumb_lemire_tens), ("plumb/near.stayAtGreatest", laid_plumb_near_stayAtGreatest), ("plumb/ftoa.zeroTexts", laid_plumb_ftoa_zeroTexts), ("unicode.CaseRanges", laid_unicode_CaseRanges), ("unicode/utf8.first", laid_unicode_utf8_first)] }
def TopPrintedSaid : Prop := topPrintedRow.holds Tryz.pinned (OpenSpec.ofChange topPrintedSpec)

/-- ITS FALSE NEIGHBOUR: 'it returns false'. Refute it at one input. -/
def topPrintedWrong : ChangeSpec := { name := "topPrinted", fn := fun _ => fun
  | [d1, d2] => { results := [.lit (.bool false)], args := [d1, d2] }
  | _ => none }
def TopPrintedWrongFalsely : Prop := topPrintedRow.holds Tryz.pinned (OpenSpec.ofChange topPrintedWrong)

/-- 'plumbtop.TopTwoWays': WHATEVER THE INPUT: true; the input reads as it did. -/
def topTwoWaysSpec : ChangeSpec := { name := "topTwoWays", fn := fun _ => fun
  | [d] => { results := [.lit (.bool true)], args := [d] }
  | _ => none }
def topTwoWaysRow : OpenClaim := { program := "ytjnmgjcmagnkeabgreatdoor", sum := "1cdfe1b313df640d85c1fdea9ebaf9ed8f1277bd4c646a06949d85adc725f247", func := "plumb/plumbtop.TopTwoWays", spec := "topTwoWays", inPlace := ["internal/bytealg.IndexByteString", "internal/bytealg.IndexString", "internal/abi.NoEscape", "internal/bytealg.MakeNoZero", "internal/bytealg.Compare"], unfollowed := true, recurses := true, named := ["unicode/utf8.first", "unicode/utf8.acceptRanges", "unicode.CaseRanges", "plumb/near.stayAtGreatest", "plumb/lemire.tens", "internal/bytealg.MaxLen"], apart := false, laid := [("unicode/utf8.acceptRanges", laid_unicode_utf8_acceptRanges), ("plumb/lemire.tens", laid_plumb_lemire_tens), ("plumb/near.stayAtGreatest", laid_plumb_near_stayAtGreatest), ("unicode.CaseRanges", laid_unicode_CaseRanges), ("unicode/utf8.first", laid_unicode_utf8_first)] }
def TopTwoWaysSaid : Prop := topTwoWaysRow.holds Tryz.pinned (OpenSpec.ofChange topTwoWaysSpec)

/-- ITS FALSE NEIGHBOUR: 'it returns false'. Refute it at one input. -/
def topTwoWaysWrong : ChangeSpec := { name := "topTwoWays", fn := fun _ => fun
  | [d] => { results := [.lit (.bool false)], args := [d] }
  | _ => none }
def TopTwoWaysWrongFalsely : Prop := topTwoWaysRow.holds Tryz.pinned (OpenSpec.ofChange topTwoWaysWrong)

/- THE SECOND FORM. 'bulk': how many values and letters a reading holds, each counted each time it is reached (what is shared counts as often as it is met; a slice's spare places count too). A statement '..UptoSaid' is the law's where the arguments, and the package variables that the reading takes, are together of bulk at most 1048576: NARROWER than '..Said'. Prove '..Said' where nothing that the law and all that it calls make is longer than what came in: it says more and counts as full. Else prove '..UptoSaid'. A law counts once. -/
mutual
def uptoBulk {H : Type} : DataW H → Nat
  | .lit (.string bytes) => bytes.length + 1
  | .lit _ => 1
  | .nil => 1
  | .ptr d => uptoBulk d + 1
  | .slice elems spare => uptoBulkAll elems + uptoBulkAll spare + 1
  | .agg parts => uptoBulkAll parts + 1
  | .iface _ d => uptoBulk d + 1
  | .map entries => uptoBulkEntries entries + 1
  | .held _ => 1
def uptoBulkAll {H : Type} : List (DataW H) → Nat
  | [] => 0
  | d :: r => uptoBulk d + uptoBulkAll r
def uptoBulkEntries {H : Type} : List (Lit × DataW H) → Nat
  | [] => 0
  | x :: r => uptoBulkEntry x + uptoBulkEntries r
def uptoBulkEntry {H : Type} : Lit × DataW H → Nat
  | (.string bytes, d) => bytes.length + uptoBulk d + 1
  | (_, d) => uptoBulk d + 1
 end
def uptoSmall : (H : Type) → List (DataW H) → Bool := fun _ ds => decide (uptoBulkAll ds ≤ 1048576)
def OpenSpec.upto (s : _root_.Go.ChangeSpec) : _root_.Go.OpenSpec := { _root_.Go.OpenSpec.ofChange s with cond := some uptoSmall }

/-- 'plumblaw14.FtoaShort', WHERE WHAT IT READS IS OF BULK AT MOST 1048576: true; the input reads as it did. -/
def ftoaShortUptoRow : OpenClaim := { program := "ytjnmgjcmagnkeabgreatdoor", sum := "1cdfe1b313df640d85c1fdea9ebaf9ed8f1277bd4c646a06949d85adc725f247", func := "plumb/plumblaw14.FtoaShort", spec := "ftoaShort", inPlace := ["internal/abi.NoEscape", "internal/bytealg.MakeNoZero", "internal/bytealg.IndexByteString", "internal/bytealg.IndexString", "internal/reflectlite.ValueOf", "(internal/reflectlite.Value).Type", "(internal/reflectlite.Value).IsNil", "internal/reflectlite.TypeOf", "(internal/reflectlite.Value).Elem", "(internal/reflectlite.Value).Set"], unfollowed := true, recurses := true, named := ["plumb/ftoa.zeroTexts", "internal/strconv.uint64pow10", "math/bits.deBruijn32tab", "math/bits.deBruijn64tab", "internal/bytealg.MaxLen", "unicode/utf8.first", "unicode/utf8.acceptRanges", "errors.errorType", "unicode.CaseRanges"], apart := false, laid := [("math/bits.deBruijn32tab", laid_math_bits_deBruijn32tab), ("math/bits.deBruijn64tab", laid_math_bits_deBruijn64tab), ("internal/strconv.uint64pow10", laid_internal_strconv_uint64pow10), ("unicode/utf8.acceptRanges", laid_unicode_utf8_acceptRanges), ("errors.errorType", laid_errors_errorType), ("plumb/ftoa.zeroTexts", laid_plumb_ftoa_zeroTexts), ("unicode.CaseRanges", laid_unicode_CaseRanges), ("unicode/utf8.first", laid_unicode_utf8_first)], narrowed := true }
def FtoaShortUptoSaid : Prop := ftoaShortUptoRow.holds Tryz.pinned (OpenSpec.upto ftoaShortSpec)

/-- 'plumblaw14.FtoaBack', WHERE WHAT IT READS IS OF BULK AT MOST 1048576: true; the input reads as it did. -/
def ftoaBackUptoRow : OpenClaim := { program := "ytjnmgjcmagnkeabgreatdoor", sum := "1cdfe1b313df640d85c1fdea9ebaf9ed8f1277bd4c646a06949d85adc725f247", func := "plumb/plumblaw14.FtoaBack", spec := "ftoaBack", inPlace := ["internal/abi.NoEscape", "internal/bytealg.MakeNoZero", "internal/bytealg.IndexByteString", "internal/bytealg.IndexString"], unfollowed := true, recurses := true, named := ["plumb/ftoa.zeroTexts", "internal/strconv.uint64pow10", "math/bits.deBruijn32tab", "math/bits.deBruijn64tab", "unicode/utf8.first", "unicode/utf8.acceptRanges", "unicode.CaseRanges", "plumb/near.stayAtGreatest", "plumb/lemire.tens", "internal/bytealg.MaxLen"], apart := false, laid := [("math/bits.deBruijn32tab", laid_math_bits_deBruijn32tab), ("math/bits.deBruijn64tab", laid_math_bits_deBruijn64tab), ("internal/strconv.uint64pow10", laid_internal_strconv_uint64pow10), ("unicode/utf8.acceptRanges", laid_unicode_utf8_acceptRanges), ("plumb/lemire.tens", laid_plumb_lemire_tens), ("plumb/near.stayAtGreatest", laid_plumb_near_stayAtGreatest), ("plumb/ftoa.zeroTexts", laid_plumb_ftoa_zeroTexts), ("unicode.CaseRanges", laid_unicode_CaseRanges), ("unicode/utf8.first", laid_unicode_utf8_first)], narrowed := true }
def FtoaBackUptoSaid : Prop := ftoaBackUptoRow.holds Tryz.pinned (OpenSpec.upto ftoaBackSpec)

/-- 'plumblaw14.FtoaLined', WHERE WHAT IT READS IS OF BULK AT MOST 1048576: true; the input reads as it did. -/
def ftoaLinedUptoRow : OpenClaim := { program := "ytjnmgjcmagnkeabgreatdoor", sum := "1cdfe1b313df640d85c1fdea9ebaf9ed8f1277bd4c646a06949d85adc725f247", func := "plumb/plumblaw14.FtoaLined", spec := "ftoaLined", inPlace := ["internal/abi.NoEscape", "internal/bytealg.MakeNoZero", "internal/bytealg.IndexByteString", "internal/bytealg.IndexString", "internal/reflectlite.ValueOf", "(internal/reflectlite.Value).Type", "(internal/reflectlite.Value).IsNil", "internal/reflectlite.TypeOf", "(internal/reflectlite.Value).Elem", "(internal/reflectlite.Value).Set"], unfollowed := true, recurses := true, named := ["plumb/ftoa.zeroTexts", "internal/strconv.uint64pow10", "math/bits.deBruijn32tab", "math/bits.deBruijn64tab", "unicode/utf8.first", "unicode/utf8.acceptRanges", "unicode.CaseRanges", "plumb/near.stayAtGreatest", "plumb/lemire.tens", "errors.errorType", "internal/bytealg.MaxLen"], apart := false, laid := [("math/bits.deBruijn32tab", laid_math_bits_deBruijn32tab), ("math/bits.deBruijn64tab", laid_math_bits_deBruijn64tab), ("internal/strconv.uint64pow10", laid_internal_strconv_uint64pow10), ("unicode/utf8.acceptRanges", laid_unicode_utf8_acceptRanges), ("errors.errorType", laid_errors_errorType), ("plumb/lemire.tens", laid_plumb_lemire_tens), ("plumb/near.stayAtGreatest", laid_plumb_near_stayAtGreatest), ("plumb/ftoa.zeroTexts", laid_plumb_ftoa_zeroTexts), ("unicode.CaseRanges", laid_unicode_CaseRanges), ("unicode/utf8.first", laid_unicode_utf8_first)], narrowed := true }
def FtoaLinedUptoSaid : Prop := ftoaLinedUptoRow.holds Tryz.pinned (OpenSpec.upto ftoaLinedSpec)

/-- 'plumbtop.TopShortest', WHERE WHAT IT READS IS OF BULK AT MOST 1048576: true; the input reads as it did. -/
def topShortestUptoRow : OpenClaim := { program := "ytjnmgjcmagnkeabgreatdoor", sum := "1cdfe1b313df640d85c1fdea9ebaf9ed8f1277bd4c646a06949d85adc725f247", func := "plumb/plumbtop.TopShortest", spec := "topShortest", inPlace := ["internal/bytealg.IndexByteString", "internal/bytealg.IndexString", "internal/abi.NoEscape", "internal/bytealg.MakeNoZero"], unfollowed := true, recurses := true, named := ["unicode/utf8.first", "unicode/utf8.acceptRanges", "unicode.CaseRanges", "plumb/near.stayAtGreatest", "plumb/lemire.tens", "internal/bytealg.MaxLen"], apart := false, laid := [("unicode/utf8.acceptRanges", laid_unicode_utf8_acceptRanges), ("plumb/lemire.tens", laid_plumb_lemire_tens), ("plumb/near.stayAtGreatest", laid_plumb_near_stayAtGreatest), ("unicode.CaseRanges", laid_unicode_CaseRanges), ("unicode/utf8.first", laid_unicode_utf8_first)], narrowed := true }
def TopShortestUptoSaid : Prop := topShortestUptoRow.holds Tryz.pinned (OpenSpec.upto topShortestSpec)

/-- 'plumbtop.TopPrinted', WHERE WHAT IT READS IS OF BULK AT MOST 1048576: true; the input reads as it did. -/
def topPrintedUptoRow : OpenClaim := { program := "ytjnmgjcmagnkeabgreatdoor", sum := "1cdfe1b313df640d85c1fdea9ebaf9ed8f1277bd4c646a06949d85adc725f247", func := "plumb/plumbtop.TopPrinted", spec := "topPrinted", inPlace := ["internal/bytealg.IndexByteString", "internal/bytealg.IndexString", "internal/abi.NoEscape", "internal/bytealg.MakeNoZero"], unfollowed := true, recurses := true, named := ["unicode/utf8.first", "unicode/utf8.acceptRanges", "unicode.CaseRanges", "plumb/near.stayAtGreatest", "plumb/lemire.tens", "plumb/ftoa.zeroTexts", "internal/strconv.uint64pow10", "math/bits.deBruijn32tab", "math/bits.deBruijn64tab", "internal/bytealg.MaxLen"], apart := false, laid := [("math/bits.deBruijn32tab", laid_math_bits_deBruijn32tab), ("math/bits.deBruijn64tab", laid_math_bits_deBruijn64tab), ("internal/strconv.uint64pow10", laid_internal_strconv_uint64pow10), ("unicode/utf8.acceptRanges", laid_unicode_utf8_acceptRanges), ("plumb/lemire.tens", laid_plumb_lemire_tens), ("plumb/near.stayAtGreatest", laid_plumb_near_stayAtGreatest), ("plumb/ftoa.zeroTexts", laid_plumb_ftoa_zeroTexts), ("unicode.CaseRanges", laid_unicode_CaseRanges), ("unicode/utf8.first", laid_unicode_utf8_first)], narrowed := true }
def TopPrintedUptoSaid : Prop := topPrintedUptoRow.holds Tryz.pinned (OpenSpec.upto topPrintedSpec)

/-- 'plumbtop.TopTwoWays', WHERE WHAT IT READS IS OF BULK AT MOST 1048576: true; the input reads as it did. -/
def topTwoWaysUptoRow : OpenClaim := { program := "ytjnmgjcmagnkeabgreatdoor", sum := "1cdfe1b313df640d85c1fdea9ebaf9ed8f1277bd4c646a06949d85adc725f247", func := "plumb/plumbtop.TopTwoWays", spec := "topTwoWays", inPlace := ["internal/bytealg.IndexByteString", "internal/bytealg.IndexString", "internal/abi.NoEscape", "internal/bytealg.MakeNoZero", "internal/bytealg.Compare"], unfollowed := true, recurses := true, named := ["unicode/utf8.first", "unicode/utf8.acceptRanges", "unicode.CaseRanges", "plumb/near.stayAtGreatest", "plumb/lemire.tens", "internal/bytealg.MaxLen"], apart := false, laid := [("unicode/utf8.acceptRanges", laid_unicode_utf8_acceptRanges), ("plumb/lemire.tens", laid_plumb_lemire_tens), ("plumb/near.stayAtGreatest", laid_plumb_near_stayAtGreatest), ("unicode.CaseRanges", laid_unicode_CaseRanges), ("unicode/utf8.first", laid_unicode_utf8_first)], narrowed := true }
def TopTwoWaysUptoSaid : Prop := topTwoWaysUptoRow.holds Tryz.pinned (OpenSpec.upto topTwoWaysSpec)

end Rows
end Go.Proofs.YtjnmgjcmagnkeabGreatDoor
