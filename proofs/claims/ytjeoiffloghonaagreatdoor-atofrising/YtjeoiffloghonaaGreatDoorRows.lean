/-
  NARROWER THAN 'FOR EVERY INPUT', by the rows' own cells (each row's printed sentence says how): AtofBits: laid · AtofFar: laid · AtofRoads: laid · AtofSame: laid · AtofLists: laid · AtofRising: laid.
  DERIVED. THE GIVEN ROWS OF THIS SEAT. 6 by the template 'for every input the law returns true; each argument reads behind the call as it read before'; 0 by the template 'total and deterministic' (their statements: YtjeoiffloghonaaGreatDoorTotals.lean).
  GIVEN WITH THE SEED: the statements are not yours to turn. If you find one false, say at which input.
  Laid BY PROGRAM, IN A SANDBOX (cutbox-rows.mjs): the forced cells as the released guide's own fill.sh prints them over the translation a94aa4942c301c15… (all of the seat's roots in one cut). By AI agents, Wed Nov 11 2026. No macro, syntax, notation, axiom, sorry.
-/
import Derived.Test.YtjeoiffloghonaaGreatDoorChecked
import GoSem.PinnedTables
import GoSem.Claim
import GoSem.ClaimJoined
import GoSem.ClaimMapViews
import Derived.JoinedTies
import Derived.KernelRfl
namespace Go.Proofs.YtjeoiffloghonaaGreatDoor
/- THE CELL 'sum', in the pinned program and in every row, IS THE sha256 OF THE DUMP (.gsa) THAT YtjeoiffloghonaaGreatDoorProg.lean LOADS. Nothing in Lean hashes anything: it is a label: what it is worth is what the hold of that sum in a sandbox is worth. -/
noncomputable def Tryz.pinned : Pinned := { name := "ytjeoiffloghonaagreatdoor", sum := "a94aa4942c301c157952af181883084933ae8bb76a7680fa45707f57fa8e7b00", checked := Tryz.checked }
namespace Rows
def none {H : Type} : Left H := { results := [], args := [] }

/- WHAT THE LISTED PACKAGE-LEVEL VARIABLES READ AS WHEN THE CALL BEGINS. Each datum BY PROGRAM (the guide's laid-datum.mjs) off the statement by which the dump's own 'gosem.cut.vars' lays the variable. In a bare row this is a premise. The card (YtjeoiffloghonaaGreatDoorCards.lean) ties it to the program's text. -/
def laid_unicode_utf8_acceptRanges {H : Type} : DataW H := .agg [.agg [.lit (.int .u8 128), .lit (.int .u8 191)], .agg [.lit (.int .u8 160), .lit (.int .u8 191)], .agg [.lit (.int .u8 128), .lit (.int .u8 159)], .agg [.lit (.int .u8 144), .lit (.int .u8 191)], .agg [.lit (.int .u8 128), .lit (.int .u8 143)], .agg [.lit (.int .u8 0), .lit (.int .u8 0)], .agg [.lit (.int .u8 0), .lit (.int .u8 0)], .agg [.lit (.int .u8 0), .lit (.int .u8 0)], .agg [.lit (.int .u8 0), .lit (.int .u8 0)], .agg [.lit (.int .u8 0), .lit (.int .u8 0)], .agg [.lit (.int .u8 0), .lit (.int .u8 0)], .agg [.lit (.int .u8 0), .lit (.int .u8 0)], .agg [.lit (.int .u8 0), .lit (.int .u8 0)], .agg [.lit (.int .u8 0), .lit (.int .u8 0)], .agg [.lit (.int .u8 0), .lit (.int .u8 0)], .agg [.lit (.int .u8 0), .lit (.int .u8 0)]]
def laid_plumb_lemire_tens {H : Type} : DataW H := .agg [.lit (.int .u64 4607182418800017408), .lit (.int .u64 4621819117588971520), .lit (.int .u64 4636737291354636288), .lit (.int .u64 4652007308841189376), .lit (.int .u64 4666723172467343360), .lit (.int .u64 4681608360884174848), .lit (.int .u64 4696837146684686336), .lit (.int .u64 4711630319722168320), .lit (.int .u64 4726483295884279808), .lit (.int .u64 4741671816366391296), .lit (.int .u64 4756540486875873280), .lit (.int .u64 4771362005757984768), .lit (.int .u64 4786511204640096256), .lit (.int .u64 4801453603149578240), .lit (.int .u64 4816244402031689728), .lit (.int .u64 4831355200913801216), .lit (.int .u64 4846369599423283200), .lit (.int .u64 4861130398305394688), .lit (.int .u64 4876203697187506176), .lit (.int .u64 4891288408196988160), .lit (.int .u64 4906019910204099648), .lit (.int .u64 4921056587992461136), .lit (.int .u64 4936209963552724370)]
def laid_plumb_near_stayAtGreatest {H : Type} : DataW H := .agg [.agg [.lit (.bool false), .lit (.bool false)], .agg [.lit (.bool true), .lit (.bool true)], .agg [.lit (.bool false), .lit (.bool false)], .agg [.lit (.bool false), .lit (.bool true)], .agg [.lit (.bool true), .lit (.bool false)]]
/-- One of Go's own tables, pinned by name: the form's constant. -/
def laid_unicode_utf8_first : DataW Unit := Go.Pinned.utf8First
/-- One of Go's own tables, pinned by name: the form's constant. -/
def laid_unicode_CaseRanges : DataW Unit := Go.Pinned.caseRanges
def laid_math_bits_deBruijn32tab {H : Type} : DataW H := .agg [.lit (.int .u8 0), .lit (.int .u8 1), .lit (.int .u8 28), .lit (.int .u8 2), .lit (.int .u8 29), .lit (.int .u8 14), .lit (.int .u8 24), .lit (.int .u8 3), .lit (.int .u8 30), .lit (.int .u8 22), .lit (.int .u8 20), .lit (.int .u8 15), .lit (.int .u8 25), .lit (.int .u8 17), .lit (.int .u8 4), .lit (.int .u8 8), .lit (.int .u8 31), .lit (.int .u8 27), .lit (.int .u8 13), .lit (.int .u8 23), .lit (.int .u8 21), .lit (.int .u8 19), .lit (.int .u8 16), .lit (.int .u8 7), .lit (.int .u8 26), .lit (.int .u8 12), .lit (.int .u8 18), .lit (.int .u8 6), .lit (.int .u8 11), .lit (.int .u8 5), .lit (.int .u8 10), .lit (.int .u8 9)]
def laid_math_bits_deBruijn64tab {H : Type} : DataW H := .agg [.lit (.int .u8 0), .lit (.int .u8 1), .lit (.int .u8 56), .lit (.int .u8 2), .lit (.int .u8 57), .lit (.int .u8 49), .lit (.int .u8 28), .lit (.int .u8 3), .lit (.int .u8 61), .lit (.int .u8 58), .lit (.int .u8 42), .lit (.int .u8 50), .lit (.int .u8 38), .lit (.int .u8 29), .lit (.int .u8 17), .lit (.int .u8 4), .lit (.int .u8 62), .lit (.int .u8 47), .lit (.int .u8 59), .lit (.int .u8 36), .lit (.int .u8 45), .lit (.int .u8 43), .lit (.int .u8 51), .lit (.int .u8 22), .lit (.int .u8 53), .lit (.int .u8 39), .lit (.int .u8 33), .lit (.int .u8 30), .lit (.int .u8 24), .lit (.int .u8 18), .lit (.int .u8 12), .lit (.int .u8 5), .lit (.int .u8 63), .lit (.int .u8 55), .lit (.int .u8 48), .lit (.int .u8 27), .lit (.int .u8 60), .lit (.int .u8 41), .lit (.int .u8 37), .lit (.int .u8 16), .lit (.int .u8 46), .lit (.int .u8 35), .lit (.int .u8 44), .lit (.int .u8 21), .lit (.int .u8 52), .lit (.int .u8 32), .lit (.int .u8 23), .lit (.int .u8 11), .lit (.int .u8 54), .lit (.int .u8 26), .lit (.int .u8 40), .lit (.int .u8 15), .lit (.int .u8 34), .lit (.int .u8 20), .lit (.int .u8 31), .lit (.int .u8 10), .lit (.int .u8 25), .lit (.int .u8 14), .lit (.int .u8 19), .lit (.int .u8 9), .lit (.int .u8 13), .lit (.int .u8 8), .lit (.int .u8 7), .lit (.int .u8 6)]
def laid_internal_strconv_uint64pow10 {H : Type} : DataW H := .agg [.lit (.int .u64 1), .lit (.int .u64 10), .lit (.int .u64 100), .lit (.int .u64 1000), .lit (.int .u64 10000), .lit (.int .u64 100000), .lit (.int .u64 1000000), .lit (.int .u64 10000000), .lit (.int .u64 100000000), .lit (.int .u64 1000000000), .lit (.int .u64 10000000000), .lit (.int .u64 100000000000), .lit (.int .u64 1000000000000), .lit (.int .u64 10000000000000), .lit (.int .u64 100000000000000), .lit (.int .u64 1000000000000000), .lit (.int .u64 10000000000000000), .lit (.int .u64 100000000000000000), .lit (.int .u64 1000000000000000000), .lit (.int .u64 10000000000000000000)]
def laid_errors_errorType {H : Type} : DataW H := .iface "internal/reflectlite.rtype" (.agg [.ptr (.lit (.string [101, 114, 114, 111, 114]))])

/-- 'plumblaw11.AtofBits': WHATEVER THE INPUT: true; the input reads as it did. -/
def atofBitsSpec : ChangeSpec := { name := "atofBits", fn := fun _ => fun
  | [d] => { results := [.lit (.bool true)], args := [d] }
  | _ => none }
def atofBitsRow : OpenClaim := { program := "ytjeoiffloghonaagreatdoor", sum := "a94aa4942c301c157952af181883084933ae8bb76a7680fa45707f57fa8e7b00", func := "plumb/plumblaw11.AtofBits", spec := "atofBits", inPlace := ["internal/bytealg.IndexByteString", "internal/bytealg.IndexString"], unfollowed := true, recurses := true, named := ["unicode/utf8.first", "unicode/utf8.acceptRanges", "plumb/near.stayAtGreatest", "plumb/lemire.tens", "internal/bytealg.MaxLen"], apart := false, laid := [("unicode/utf8.acceptRanges", laid_unicode_utf8_acceptRanges), ("plumb/lemire.tens", laid_plumb_lemire_tens), ("plumb/near.stayAtGreatest", laid_plumb_near_stayAtGreatest), ("unicode/utf8.first", laid_unicode_utf8_first)] }
def AtofBitsSaid : Prop := atofBitsRow.holds Tryz.pinned (OpenSpec.ofChange atofBitsSpec)

/-- ITS FALSE NEIGHBOUR: 'it returns false'. Refute it at one input. -/
def atofBitsWrong : ChangeSpec := { name := "atofBits", fn := fun _ => fun
  | [d] => { results := [.lit (.bool false)], args := [d] }
  | _ => none }
def AtofBitsWrongFalsely : Prop := atofBitsRow.holds Tryz.pinned (OpenSpec.ofChange atofBitsWrong)

/-- 'plumblaw11.AtofFar': WHATEVER THE INPUT: true; the input reads as it did. -/
def atofFarSpec : ChangeSpec := { name := "atofFar", fn := fun _ => fun
  | [d1, d2, d3] => { results := [.lit (.bool true)], args := [d1, d2, d3] }
  | _ => none }
def atofFarRow : OpenClaim := { program := "ytjeoiffloghonaagreatdoor", sum := "a94aa4942c301c157952af181883084933ae8bb76a7680fa45707f57fa8e7b00", func := "plumb/plumblaw11.AtofFar", spec := "atofFar", inPlace := ["internal/bytealg.IndexByteString", "internal/bytealg.IndexString", "internal/abi.NoEscape", "internal/bytealg.MakeNoZero"], unfollowed := true, recurses := true, named := ["unicode/utf8.first", "unicode/utf8.acceptRanges", "plumb/near.stayAtGreatest", "plumb/lemire.tens", "unicode.CaseRanges", "internal/bytealg.MaxLen"], apart := false, laid := [("unicode/utf8.acceptRanges", laid_unicode_utf8_acceptRanges), ("plumb/lemire.tens", laid_plumb_lemire_tens), ("plumb/near.stayAtGreatest", laid_plumb_near_stayAtGreatest), ("unicode.CaseRanges", laid_unicode_CaseRanges), ("unicode/utf8.first", laid_unicode_utf8_first)] }
def AtofFarSaid : Prop := atofFarRow.holds Tryz.pinned (OpenSpec.ofChange atofFarSpec)

/-- ITS FALSE NEIGHBOUR: 'it returns false'. Refute it at one input. -/
def atofFarWrong : ChangeSpec := { name := "atofFar", fn := fun _ => fun
  | [d1, d2, d3] => { results := [.lit (.bool false)], args := [d1, d2, d3] }
  | _ => none }
def AtofFarWrongFalsely : Prop := atofFarRow.holds Tryz.pinned (OpenSpec.ofChange atofFarWrong)

/-- 'plumblaw11.AtofRoads': WHATEVER THE INPUT: true; the input reads as it did. -/
def atofRoadsSpec : ChangeSpec := { name := "atofRoads", fn := fun _ => fun
  | [d1, d2, d3] => { results := [.lit (.bool true)], args := [d1, d2, d3] }
  | _ => none }
def atofRoadsRow : OpenClaim := { program := "ytjeoiffloghonaagreatdoor", sum := "a94aa4942c301c157952af181883084933ae8bb76a7680fa45707f57fa8e7b00", func := "plumb/plumblaw11.AtofRoads", spec := "atofRoads", inPlace := ["internal/bytealg.IndexByteString", "internal/bytealg.IndexString", "internal/abi.NoEscape", "internal/bytealg.MakeNoZero"], unfollowed := true, recurses := true, named := ["unicode/utf8.first", "unicode/utf8.acceptRanges", "plumb/near.stayAtGreatest", "plumb/lemire.tens", "unicode.CaseRanges", "internal/bytealg.MaxLen"], apart := false, laid := [("unicode/utf8.acceptRanges", laid_unicode_utf8_acceptRanges), ("plumb/lemire.tens", laid_plumb_lemire_tens), ("plumb/near.stayAtGreatest", laid_plumb_near_stayAtGreatest), ("unicode.CaseRanges", laid_unicode_CaseRanges), ("unicode/utf8.first", laid_unicode_utf8_first)] }
def AtofRoadsSaid : Prop := atofRoadsRow.holds Tryz.pinned (OpenSpec.ofChange atofRoadsSpec)

/-- ITS FALSE NEIGHBOUR: 'it returns false'. Refute it at one input. -/
def atofRoadsWrong : ChangeSpec := { name := "atofRoads", fn := fun _ => fun
  | [d1, d2, d3] => { results := [.lit (.bool false)], args := [d1, d2, d3] }
  | _ => none }
def AtofRoadsWrongFalsely : Prop := atofRoadsRow.holds Tryz.pinned (OpenSpec.ofChange atofRoadsWrong)

/-- 'plumblaw11.AtofSame': WHATEVER THE INPUT: true; the input reads as it did. -/
def atofSameSpec : ChangeSpec := { name := "atofSame", fn := fun _ => fun
  | [d1, d2] => { results := [.lit (.bool true)], args := [d1, d2] }
  | _ => none }
def atofSameRow : OpenClaim := { program := "ytjeoiffloghonaagreatdoor", sum := "a94aa4942c301c157952af181883084933ae8bb76a7680fa45707f57fa8e7b00", func := "plumb/plumblaw11.AtofSame", spec := "atofSame", inPlace := ["internal/bytealg.IndexByteString", "internal/bytealg.IndexString", "internal/abi.NoEscape", "internal/bytealg.MakeNoZero"], unfollowed := true, recurses := true, named := ["unicode/utf8.first", "unicode/utf8.acceptRanges", "plumb/near.stayAtGreatest", "plumb/lemire.tens", "internal/strconv.uint64pow10", "math/bits.deBruijn32tab", "math/bits.deBruijn64tab", "unicode.CaseRanges", "internal/bytealg.MaxLen"], apart := false, laid := [("math/bits.deBruijn32tab", laid_math_bits_deBruijn32tab), ("math/bits.deBruijn64tab", laid_math_bits_deBruijn64tab), ("internal/strconv.uint64pow10", laid_internal_strconv_uint64pow10), ("unicode/utf8.acceptRanges", laid_unicode_utf8_acceptRanges), ("plumb/lemire.tens", laid_plumb_lemire_tens), ("plumb/near.stayAtGreatest", laid_plumb_near_stayAtGreatest), ("unicode.CaseRanges", laid_unicode_CaseRanges), ("unicode/utf8.first", laid_unicode_utf8_first)] }
def AtofSameSaid : Prop := atofSameRow.holds Tryz.pinned (OpenSpec.ofChange atofSameSpec)

/-- ITS FALSE NEIGHBOUR: 'it returns false'. Refute it at one input. -/
def atofSameWrong : ChangeSpec := { name := "atofSame", fn := fun _ => fun
  | [d1, d2] => { results := [.lit (.bool false)], args := [d1, d2] }
  | _ => none }
def AtofSameWrongFalsely : Prop := atofSameRow.holds Tryz.pinned (OpenSpec.ofChange atofSameWrong)

/-- 'plumblaw11.AtofLists': WHATEVER THE INPUT: true; the input reads as it did. -/
def atofListsSpec : ChangeSpec := { name := "atofLists", fn := fun _ => fun
  | [d1, d2, d3] => { results := [.lit (.bool true)], args := [d1, d2, d3] }
  | _ => none }
def atofListsRow : OpenClaim := { program := "ytjeoiffloghonaagreatdoor", sum := "a94aa4942c301c157952af181883084933ae8bb76a7680fa45707f57fa8e7b00", func := "plumb/plumblaw11.AtofLists", spec := "atofLists", inPlace := ["internal/bytealg.IndexByteString", "internal/bytealg.IndexString", "internal/abi.NoEscape", "internal/bytealg.MakeNoZero", "internal/reflectlite.ValueOf", "(internal/reflectlite.Value).Type", "(internal/reflectlite.Value).IsNil", "internal/reflectlite.TypeOf", "(internal/reflectlite.Value).Elem", "(internal/reflectlite.Value).Set"], unfollowed := true, recurses := true, named := ["unicode/utf8.first", "unicode/utf8.acceptRanges", "unicode.CaseRanges", "plumb/near.stayAtGreatest", "plumb/lemire.tens", "internal/strconv.uint64pow10", "math/bits.deBruijn32tab", "math/bits.deBruijn64tab", "errors.errorType", "internal/bytealg.MaxLen"], apart := false, laid := [("math/bits.deBruijn32tab", laid_math_bits_deBruijn32tab), ("math/bits.deBruijn64tab", laid_math_bits_deBruijn64tab), ("internal/strconv.uint64pow10", laid_internal_strconv_uint64pow10), ("unicode/utf8.acceptRanges", laid_unicode_utf8_acceptRanges), ("errors.errorType", laid_errors_errorType), ("plumb/lemire.tens", laid_plumb_lemire_tens), ("plumb/near.stayAtGreatest", laid_plumb_near_stayAtGreatest), ("unicode.CaseRanges", laid_unicode_CaseRanges), ("unicode/utf8.first", laid_unicode_utf8_first)] }
def AtofListsSaid : Prop := atofListsRow.holds Tryz.pinned (OpenSpec.ofChange atofListsSpec)

/-- ITS FALSE NEIGHBOUR: 'it returns false'. Refute it at one input. -/
def atofListsWrong : ChangeSpec := { name := "atofLists", fn := fun _ => fun
  | [d1, d2, d3] => { results := [.lit (.bool false)], args := [d1, d2, d3] }
  | _ => none }
def AtofListsWrongFalsely : Prop := atofListsRow.holds Tryz.pinned (OpenSpec.ofChange atofListsWrong)

/-- 'plumblaw11.AtofRising': WHATEVER THE INPUT: true; the input reads as it did. -/
def atofRisingSpec : ChangeSpec := { name := "atofRising", fn := fun _ => fun
  | [d1, d2] => { results := [.lit (.bool true)], args := [d1, d2] }
  | _ => none }
def atofRisingRow : OpenClaim := { program := "ytjeoiffloghonaagreatdoor", sum := "a94aa4942c301c157952af181883084933ae8bb76a7680fa45707f57fa8e7b00", func := "plumb/plumblaw11.AtofRising", spec := "atofRising", inPlace := ["internal/bytealg.IndexByteString", "internal/bytealg.IndexString", "internal/abi.NoEscape", "internal/bytealg.MakeNoZero"], unfollowed := true, recurses := true, named := ["unicode/utf8.first", "unicode/utf8.acceptRanges", "plumb/near.stayAtGreatest", "plumb/lemire.tens", "unicode.CaseRanges", "internal/bytealg.MaxLen"], apart := false, laid := [("unicode/utf8.acceptRanges", laid_unicode_utf8_acceptRanges), ("plumb/lemire.tens", laid_plumb_lemire_tens), ("plumb/near.stayAtGreatest", laid_plumb_near_stayAtGreatest), ("unicode.CaseRanges", laid_unicode_CaseRanges), ("unicode/utf8.first", laid_unicode_utf8_first)] }
def AtofRisingSaid : Prop := atofRisingRow.holds Tryz.pinned (OpenSpec.ofChange atofRisingSpec)

/-- ITS FALSE NEIGHBOUR: 'it returns false'. Refute it at one input. -/
def atofRisingWrong : ChangeSpec := { name := "atofRising", fn := fun _ => fun
  | [d1, d2] => { results := [.lit (.bool false)], args := [d1, d2] }
  | _ => none }
def AtofRisingWrongFalsely : Prop := atofRisingRow.holds Tryz.pinned (OpenSpec.ofChange atofRisingWrong)

/- THE SECOND FORM. 'bulk': how many values and letters a reading holds, each counted each time it is reached (what is shared counts as often as it is met; a slice's spare places count too). A statement '..UptoSaid' is the law's where the arguments, and the package variables that the reading takes, are together of bulk at most 1048576: NARROWER than '..Said'. Prove '..Said' where nothing that the law and all that it calls make is longer than what came in: it says more and counts as full. Else prove '..UptoSaid'. A law counts once. -/
mutual
def uptoBulk {H : Type} : DataW H → Nat
  | .lit (.string bytes) => bytes.length + 1
  | .lit _ => 1
  | .nil => 1
  | .ptr d => uptoBulk d + 1
  | .slice elems spare => uptoBulkAll elems + uptoBulkAll spare + 1
  | .agg parts => uptoBulkAll parts + 1
  | .iface _ d => uptoBulk d + 1
  | .map entries => uptoBulkEntries entries + 1
  | .held _ => 1
def uptoBulkAll {H : Type} : List (DataW H) → Nat
  | [] => 0
  | d :: r => uptoBulk d + uptoBulkAll r
def uptoBulkEntries {H : Type} : List (Lit × DataW H) → Nat
  | [] => 0
  | x :: r => uptoBulkEntry x + uptoBulkEntries r
def uptoBulkEntry {H : Type} : Lit × DataW H → Nat
  | (.string bytes, d) => bytes.length + uptoBulk d + 1
  | (_, d) => uptoBulk d + 1
 end
def uptoSmall : (H : Type) → List (DataW H) → Bool := fun _ ds => decide (uptoBulkAll ds ≤ 1048576)
def OpenSpec.upto (s : _root_.Go.ChangeSpec) : _root_.Go.OpenSpec := { _root_.Go.OpenSpec.ofChange s with cond := some uptoSmall }

/-- 'plumblaw11.AtofBits', WHERE WHAT IT READS IS OF BULK AT MOST 1048576: true; the input reads as it did. -/
def atofBitsUptoRow : OpenClaim := { program := "ytjeoiffloghonaagreatdoor", sum := "a94aa4942c301c157952af181883084933ae8bb76a7680fa45707f57fa8e7b00", func := "plumb/plumblaw11.AtofBits", spec := "atofBits", inPlace := ["internal/bytealg.IndexByteString", "internal/bytealg.IndexString"], unfollowed := true, recurses := true, named := ["unicode/utf8.first", "unicode/utf8.acceptRanges", "plumb/near.stayAtGreatest", "plumb/lemire.tens", "internal/bytealg.MaxLen"], apart := false, laid := [("unicode/utf8.acceptRanges", laid_unicode_utf8_acceptRanges), ("plumb/lemire.tens", laid_plumb_lemire_tens), ("plumb/near.stayAtGreatest", laid_plumb_near_stayAtGreatest), ("unicode/utf8.first", laid_unicode_utf8_first)], narrowed := true }
def AtofBitsUptoSaid : Prop := atofBitsUptoRow.holds Tryz.pinned (OpenSpec.upto atofBitsSpec)

/-- 'plumblaw11.AtofFar', WHERE WHAT IT READS IS OF BULK AT MOST 1048576: true; the input reads as it did. -/
def atofFarUptoRow : OpenClaim := { program := "ytjeoiffloghonaagreatdoor", sum := "a94aa4942c301c157952af181883084933ae8bb76a7680fa45707f57fa8e7b00", func := "plumb/plumblaw11.AtofFar", spec := "atofFar", inPlace := ["internal/bytealg.IndexByteString", "internal/bytealg.IndexString", "internal/abi.NoEscape", "internal/bytealg.MakeNoZero"], unfollowed := true, recurses := true, named := ["unicode/utf8.first", "unicode/utf8.acceptRanges", "plumb/near.stayAtGreatest", "plumb/lemire.tens", "unicode.CaseRanges", "internal/bytealg.MaxLen"], apart := false, laid := [("unicode/utf8.acceptRanges", laid_unicode_utf8_acceptRanges), ("plumb/lemire.tens", laid_plumb_lemire_tens), ("plumb/near.stayAtGreatest", laid_plumb_near_stayAtGreatest), ("unicode.CaseRanges", laid_unicode_CaseRanges), ("unicode/utf8.first", laid_unicode_utf8_first)], narrowed := true }
def AtofFarUptoSaid : Prop := atofFarUptoRow.holds Tryz.pinned (OpenSpec.upto atofFarSpec)

/-- 'plumblaw11.AtofRoads', WHERE WHAT IT READS IS OF BULK AT MOST 1048576: true; the input reads as it did. -/
def atofRoadsUptoRow : OpenClaim := { program := "ytjeoiffloghonaagreatdoor", sum := "a94aa4942c301c157952af181883084933ae8bb76a7680fa45707f57fa8e7b00", func := "plumb/plumblaw11.AtofRoads", spec := "atofRoads", inPlace := ["internal/bytealg.IndexByteString", "internal/bytealg.IndexString", "internal/abi.NoEscape", "internal/bytealg.MakeNoZero"], unfollowed := true, recurses := true, named := ["unicode/utf8.first", "unicode/utf8.acceptRanges", "plumb/near.stayAtGreatest", "plumb/lemire.tens", "unicode.CaseRanges", "internal/bytealg.MaxLen"], apart := false, laid := [("unicode/utf8.acceptRanges", laid_unicode_utf8_acceptRanges), ("plumb/lemire.tens", laid_plumb_lemire_tens), ("plumb/near.stayAtGreatest", laid_plumb_near_stayAtGreatest), ("unicode.CaseRanges", laid_unicode_CaseRanges), ("unicode/utf8.first", laid_unicode_utf8_first)], narrowed := true }
def AtofRoadsUptoSaid : Prop := atofRoadsUptoRow.holds Tryz.pinned (OpenSpec.upto atofRoadsSpec)

/-- 'plumblaw11.AtofSame', WHERE WHAT IT READS IS OF BULK AT MOST 1048576: true; the input reads as it did. -/
def atofSameUptoRow : OpenClaim := { program := "ytjeoiffloghonaagreatdoor", sum := "a94aa4942c301c157952af181883084933ae8bb76a7680fa45707f57fa8e7b00", func := "plumb/plumblaw11.AtofSame", spec := "atofSame", inPlace := ["internal/bytealg.IndexByteString", "internal/bytealg.IndexString", "internal/abi.NoEscape", "internal/bytealg.MakeNoZero"], unfollowed := true, recurses := true, named := ["unicode/utf8.first", "unicode/utf8.acceptRanges", "plumb/near.stayAtGreatest", "plumb/lemire.tens", "internal/strconv.uint64pow10", "math/bits.deBruijn32tab", "math/bits.deBruijn64tab", "unicode.CaseRanges", "internal/bytealg.MaxLen"], apart := false, laid := [("math/bits.deBruijn32tab", laid_math_bits_deBruijn32tab), ("math/bits.deBruijn64tab", laid_math_bits_deBruijn64tab), ("internal/strconv.uint64pow10", laid_internal_strconv_uint64pow10), ("unicode/utf8.acceptRanges", laid_unicode_utf8_acceptRanges), ("plumb/lemire.tens", laid_plumb_lemire_tens), ("plumb/near.stayAtGreatest", laid_plumb_near_stayAtGreatest), ("unicode.CaseRanges", laid_unicode_CaseRanges), ("unicode/utf8.first", laid_unicode_utf8_first)], narrowed := true }
def AtofSameUptoSaid : Prop := atofSameUptoRow.holds Tryz.pinned (OpenSpec.upto atofSameSpec)

/-- 'plumblaw11.AtofLists', WHERE WHAT IT READS IS OF BULK AT MOST 1048576: true; the input reads as it did. -/
def atofListsUptoRow : OpenClaim := { program := "ytjeoiffloghonaagreatdoor", sum := "a94aa4942c301c157952af181883084933ae8bb76a7680fa45707f57fa8e7b00", func := "plumb/plumblaw11.AtofLists", spec := "atofLists", inPlace := ["internal/bytealg.IndexByteString", "internal/bytealg.IndexString", "internal/abi.NoEscape", "internal/bytealg.MakeNoZero", "internal/reflectlite.ValueOf", "(internal/reflectlite.Value).Type", "(internal/reflectlite.Value).IsNil", "internal/reflectlite.TypeOf", "(internal/reflectlite.Value).Elem", "(internal/reflectlite.Value).Set"], unfollowed := true, recurses := true, named := ["unicode/utf8.first", "unicode/utf8.acceptRanges", "unicode.CaseRanges", "plumb/near.stayAtGreatest", "plumb/lemire.tens", "internal/strconv.uint64pow10", "math/bits.deBruijn32tab", "math/bits.deBruijn64tab", "errors.errorType", "internal/bytealg.MaxLen"], apart := false, laid := [("math/bits.deBruijn32tab", laid_math_bits_deBruijn32tab), ("math/bits.deBruijn64tab", laid_math_bits_deBruijn64tab), ("internal/strconv.uint64pow10", laid_internal_strconv_uint64pow10), ("unicode/utf8.acceptRanges", laid_unicode_utf8_acceptRanges), ("errors.errorType", laid_errors_errorType), ("plumb/lemire.tens", laid_plumb_lemire_tens), ("plumb/near.stayAtGreatest", laid_plumb_near_stayAtGreatest), ("unicode.CaseRanges", laid_unicode_CaseRanges), ("unicode/utf8.first", laid_unicode_utf8_first)], narrowed := true }
def AtofListsUptoSaid : Prop := atofListsUptoRow.holds Tryz.pinned (OpenSpec.upto atofListsSpec)

/-- 'plumblaw11.AtofRising', WHERE WHAT IT READS IS OF BULK AT MOST 1048576: true; the input reads as it did. -/
def atofRisingUptoRow : OpenClaim := { program := "ytjeoiffloghonaagreatdoor", sum := "a94aa4942c301c157952af181883084933ae8bb76a7680fa45707f57fa8e7b00", func := "plumb/plumblaw11.AtofRising", spec := "atofRising", inPlace := ["internal/bytealg.IndexByteString", "internal/bytealg.IndexString", "internal/abi.NoEscape", "internal/bytealg.MakeNoZero"], unfollowed := true, recurses := true, named := ["unicode/utf8.first", "unicode/utf8.acceptRanges", "plumb/near.stayAtGreatest", "plumb/lemire.tens", "unicode.CaseRanges", "internal/bytealg.MaxLen"], apart := false, laid := [("unicode/utf8.acceptRanges", laid_unicode_utf8_acceptRanges), ("plumb/lemire.tens", laid_plumb_lemire_tens), ("plumb/near.stayAtGreatest", laid_plumb_near_stayAtGreatest), ("unicode.CaseRanges", laid_unicode_CaseRanges), ("unicode/utf8.first", laid_unicode_utf8_first)], narrowed := true }
def AtofRisingUptoSaid : Prop := atofRisingUptoRow.holds Tryz.pinned (OpenSpec.upto atofRisingSpec)

end Rows
end Go.Proofs.YtjeoiffloghonaaGreatDoor
