/-
  NARROWER THAN 'FOR EVERY INPUT', by the rows' own cells (each row's printed sentence says how): FtoaOne: laid · FtoaForms: laid · FtoaRefuses: laid · FtoaTexts: laid · FtoaPlainly: laid.
  DERIVED. THE GIVEN ROWS OF THIS SEAT. 5 by the template 'for every input the law returns true; each argument reads behind the call as it read before'; 0 by the template 'total and deterministic' (their statements: YtjnmgjcmagnkeaaGreatDoorTotals.lean).
  GIVEN WITH THE SEED: the statements are not yours to turn. If you find one false, say at which input.
  Laid BY PROGRAM, IN A SANDBOX (cutbox-rows.mjs): the forced cells as the released guide's own fill.sh prints them over the translation 54a97bbc72aa5b2c… (all of the seat's roots in one cut). By AI agents, Wed Nov 11 2026. No macro, syntax, notation, axiom, sorry.
-/
import Derived.Test.YtjnmgjcmagnkeaaGreatDoorChecked
import GoSem.PinnedTables
import GoSem.Claim
import GoSem.ClaimJoined
import GoSem.ClaimMapViews
import Derived.JoinedTies
import Derived.KernelRfl
namespace Go.Proofs.YtjnmgjcmagnkeaaGreatDoor
/- THE CELL 'sum', in the pinned program and in every row, IS THE sha256 OF THE DUMP (.gsa) THAT YtjnmgjcmagnkeaaGreatDoorProg.lean LOADS. Nothing in Lean hashes anything: it is a label: what it is worth is what the hold of that sum in a sandbox is worth. -/
noncomputable def Tryz.pinned : Pinned := { name := "ytjnmgjcmagnkeaagreatdoor", sum := "54a97bbc72aa5b2c5e1d8a5685ae649cde6043f96e2e3a037ff8acb9e370dfac", checked := Tryz.checked }
namespace Rows
def none {H : Type} : Left H := { results := [], args := [] }

/- WHAT THE LISTED PACKAGE-LEVEL VARIABLES READ AS WHEN THE CALL BEGINS. Each datum BY PROGRAM (the guide's laid-datum.mjs) off the statement by which the dump's own 'gosem.cut.vars' lays the variable. In a bare row this is a premise. The card (YtjnmgjcmagnkeaaGreatDoorCards.lean) ties it to the program's text. -/
def laid_math_bits_deBruijn32tab {H : Type} : DataW H := .agg [.lit (.int .u8 0), .lit (.int .u8 1), .lit (.int .u8 28), .lit (.int .u8 2), .lit (.int .u8 29), .lit (.int .u8 14), .lit (.int .u8 24), .lit (.int .u8 3), .lit (.int .u8 30), .lit (.int .u8 22), .lit (.int .u8 20), .lit (.int .u8 15), .lit (.int .u8 25), .lit (.int .u8 17), .lit (.int .u8 4), .lit (.int .u8 8), .lit (.int .u8 31), .lit (.int .u8 27), .lit (.int .u8 13), .lit (.int .u8 23), .lit (.int .u8 21), .lit (.int .u8 19), .lit (.int .u8 16), .lit (.int .u8 7), .lit (.int .u8 26), .lit (.int .u8 12), .lit (.int .u8 18), .lit (.int .u8 6), .lit (.int .u8 11), .lit (.int .u8 5), .lit (.int .u8 10), .lit (.int .u8 9)]
def laid_math_bits_deBruijn64tab {H : Type} : DataW H := .agg [.lit (.int .u8 0), .lit (.int .u8 1), .lit (.int .u8 56), .lit (.int .u8 2), .lit (.int .u8 57), .lit (.int .u8 49), .lit (.int .u8 28), .lit (.int .u8 3), .lit (.int .u8 61), .lit (.int .u8 58), .lit (.int .u8 42), .lit (.int .u8 50), .lit (.int .u8 38), .lit (.int .u8 29), .lit (.int .u8 17), .lit (.int .u8 4), .lit (.int .u8 62), .lit (.int .u8 47), .lit (.int .u8 59), .lit (.int .u8 36), .lit (.int .u8 45), .lit (.int .u8 43), .lit (.int .u8 51), .lit (.int .u8 22), .lit (.int .u8 53), .lit (.int .u8 39), .lit (.int .u8 33), .lit (.int .u8 30), .lit (.int .u8 24), .lit (.int .u8 18), .lit (.int .u8 12), .lit (.int .u8 5), .lit (.int .u8 63), .lit (.int .u8 55), .lit (.int .u8 48), .lit (.int .u8 27), .lit (.int .u8 60), .lit (.int .u8 41), .lit (.int .u8 37), .lit (.int .u8 16), .lit (.int .u8 46), .lit (.int .u8 35), .lit (.int .u8 44), .lit (.int .u8 21), .lit (.int .u8 52), .lit (.int .u8 32), .lit (.int .u8 23), .lit (.int .u8 11), .lit (.int .u8 54), .lit (.int .u8 26), .lit (.int .u8 40), .lit (.int .u8 15), .lit (.int .u8 34), .lit (.int .u8 20), .lit (.int .u8 31), .lit (.int .u8 10), .lit (.int .u8 25), .lit (.int .u8 14), .lit (.int .u8 19), .lit (.int .u8 9), .lit (.int .u8 13), .lit (.int .u8 8), .lit (.int .u8 7), .lit (.int .u8 6)]
def laid_internal_strconv_uint64pow10 {H : Type} : DataW H := .agg [.lit (.int .u64 1), .lit (.int .u64 10), .lit (.int .u64 100), .lit (.int .u64 1000), .lit (.int .u64 10000), .lit (.int .u64 100000), .lit (.int .u64 1000000), .lit (.int .u64 10000000), .lit (.int .u64 100000000), .lit (.int .u64 1000000000), .lit (.int .u64 10000000000), .lit (.int .u64 100000000000), .lit (.int .u64 1000000000000), .lit (.int .u64 10000000000000), .lit (.int .u64 100000000000000), .lit (.int .u64 1000000000000000), .lit (.int .u64 10000000000000000), .lit (.int .u64 100000000000000000), .lit (.int .u64 1000000000000000000), .lit (.int .u64 10000000000000000000)]
def laid_plumb_ftoa_zeroTexts {H : Type} : DataW H := .agg [.lit (.string []), .lit (.string [48]), .lit (.string [48, 120, 48, 112, 43, 48]), .lit (.string [48, 101, 43, 48, 48])]
def laid_unicode_utf8_acceptRanges {H : Type} : DataW H := .agg [.agg [.lit (.int .u8 128), .lit (.int .u8 191)], .agg [.lit (.int .u8 160), .lit (.int .u8 191)], .agg [.lit (.int .u8 128), .lit (.int .u8 159)], .agg [.lit (.int .u8 144), .lit (.int .u8 191)], .agg [.lit (.int .u8 128), .lit (.int .u8 143)], .agg [.lit (.int .u8 0), .lit (.int .u8 0)], .agg [.lit (.int .u8 0), .lit (.int .u8 0)], .agg [.lit (.int .u8 0), .lit (.int .u8 0)], .agg [.lit (.int .u8 0), .lit (.int .u8 0)], .agg [.lit (.int .u8 0), .lit (.int .u8 0)], .agg [.lit (.int .u8 0), .lit (.int .u8 0)], .agg [.lit (.int .u8 0), .lit (.int .u8 0)], .agg [.lit (.int .u8 0), .lit (.int .u8 0)], .agg [.lit (.int .u8 0), .lit (.int .u8 0)], .agg [.lit (.int .u8 0), .lit (.int .u8 0)], .agg [.lit (.int .u8 0), .lit (.int .u8 0)]]
/-- One of Go's own tables, pinned by name: the form's constant. -/
def laid_unicode_utf8_first : DataW Unit := Go.Pinned.utf8First
/-- One of Go's own tables, pinned by name: the form's constant. -/
def laid_unicode_CaseRanges : DataW Unit := Go.Pinned.caseRanges

/-- 'plumblaw14.FtoaOne': WHATEVER THE INPUT: true; the input reads as it did. -/
def ftoaOneSpec : ChangeSpec := { name := "ftoaOne", fn := fun _ => fun
  | [d1, d2] => { results := [.lit (.bool true)], args := [d1, d2] }
  | _ => none }
def ftoaOneRow : OpenClaim := { program := "ytjnmgjcmagnkeaagreatdoor", sum := "54a97bbc72aa5b2c5e1d8a5685ae649cde6043f96e2e3a037ff8acb9e370dfac", func := "plumb/plumblaw14.FtoaOne", spec := "ftoaOne", inPlace := ["internal/abi.NoEscape", "internal/bytealg.MakeNoZero"], unfollowed := true, recurses := true, named := ["plumb/ftoa.zeroTexts", "internal/strconv.uint64pow10", "math/bits.deBruijn32tab", "math/bits.deBruijn64tab"], apart := false, laid := [("math/bits.deBruijn32tab", laid_math_bits_deBruijn32tab), ("math/bits.deBruijn64tab", laid_math_bits_deBruijn64tab), ("internal/strconv.uint64pow10", laid_internal_strconv_uint64pow10), ("plumb/ftoa.zeroTexts", laid_plumb_ftoa_zeroTexts)] }
def FtoaOneSaid : Prop := ftoaOneRow.holds Tryz.pinned (OpenSpec.ofChange ftoaOneSpec)

/-- ITS FALSE NEIGHBOUR: 'it returns false'. Refute it at one input. -/
def ftoaOneWrong : ChangeSpec := { name := "ftoaOne", fn := fun _ => fun
  | [d1, d2] => { results := [.lit (.bool false)], args := [d1, d2] }
  | _ => none }
def FtoaOneWrongFalsely : Prop := ftoaOneRow.holds Tryz.pinned (OpenSpec.ofChange ftoaOneWrong)

/-- 'plumblaw14.FtoaForms': WHATEVER THE INPUT: true; the input reads as it did. -/
def ftoaFormsSpec : ChangeSpec := { name := "ftoaForms", fn := fun _ => fun
  | [d] => { results := [.lit (.bool true)], args := [d] }
  | _ => none }
def ftoaFormsRow : OpenClaim := { program := "ytjnmgjcmagnkeaagreatdoor", sum := "54a97bbc72aa5b2c5e1d8a5685ae649cde6043f96e2e3a037ff8acb9e370dfac", func := "plumb/plumblaw14.FtoaForms", spec := "ftoaForms", inPlace := ["internal/abi.NoEscape", "internal/bytealg.MakeNoZero"], unfollowed := true, recurses := true, named := ["plumb/ftoa.zeroTexts", "internal/strconv.uint64pow10", "math/bits.deBruijn32tab", "math/bits.deBruijn64tab"], apart := false, laid := [("math/bits.deBruijn32tab", laid_math_bits_deBruijn32tab), ("math/bits.deBruijn64tab", laid_math_bits_deBruijn64tab), ("internal/strconv.uint64pow10", laid_internal_strconv_uint64pow10), ("plumb/ftoa.zeroTexts", laid_plumb_ftoa_zeroTexts)] }
def FtoaFormsSaid : Prop := ftoaFormsRow.holds Tryz.pinned (OpenSpec.ofChange ftoaFormsSpec)

/-- ITS FALSE NEIGHBOUR: 'it returns false'. Refute it at one input. -/
def ftoaFormsWrong : ChangeSpec := { name := "ftoaForms", fn := fun _ => fun
  | [d] => { results := [.lit (.bool false)], args := [d] }
  | _ => none }
def FtoaFormsWrongFalsely : Prop := ftoaFormsRow.holds Tryz.pinned (OpenSpec.ofChange ftoaFormsWrong)

/-- 'plumblaw14.FtoaRefuses': WHATEVER THE INPUT: true; the input reads as it did. -/
def ftoaRefusesSpec : ChangeSpec := { name := "ftoaRefuses", fn := fun _ => fun
  | [d1, d2, d3] => { results := [.lit (.bool true)], args := [d1, d2, d3] }
  | _ => none }
def ftoaRefusesRow : OpenClaim := { program := "ytjnmgjcmagnkeaagreatdoor", sum := "54a97bbc72aa5b2c5e1d8a5685ae649cde6043f96e2e3a037ff8acb9e370dfac", func := "plumb/plumblaw14.FtoaRefuses", spec := "ftoaRefuses", inPlace := ["internal/abi.NoEscape", "internal/bytealg.MakeNoZero", "internal/bytealg.IndexByteString", "internal/bytealg.IndexString"], unfollowed := true, recurses := true, named := ["plumb/ftoa.zeroTexts", "internal/strconv.uint64pow10", "math/bits.deBruijn32tab", "math/bits.deBruijn64tab", "unicode/utf8.first", "unicode/utf8.acceptRanges", "internal/bytealg.MaxLen"], apart := false, laid := [("math/bits.deBruijn32tab", laid_math_bits_deBruijn32tab), ("math/bits.deBruijn64tab", laid_math_bits_deBruijn64tab), ("internal/strconv.uint64pow10", laid_internal_strconv_uint64pow10), ("unicode/utf8.acceptRanges", laid_unicode_utf8_acceptRanges), ("plumb/ftoa.zeroTexts", laid_plumb_ftoa_zeroTexts), ("unicode/utf8.first", laid_unicode_utf8_first)] }
def FtoaRefusesSaid : Prop := ftoaRefusesRow.holds Tryz.pinned (OpenSpec.ofChange ftoaRefusesSpec)

/-- ITS FALSE NEIGHBOUR: 'it returns false'. Refute it at one input. -/
def ftoaRefusesWrong : ChangeSpec := { name := "ftoaRefuses", fn := fun _ => fun
  | [d1, d2, d3] => { results := [.lit (.bool false)], args := [d1, d2, d3] }
  | _ => none }
def FtoaRefusesWrongFalsely : Prop := ftoaRefusesRow.holds Tryz.pinned (OpenSpec.ofChange ftoaRefusesWrong)

/-- 'plumblaw14.FtoaTexts': WHATEVER THE INPUT: true; the input reads as it did. -/
def ftoaTextsSpec : ChangeSpec := { name := "ftoaTexts", fn := fun _ => fun
  | [d1, d2] => { results := [.lit (.bool true)], args := [d1, d2] }
  | _ => none }
def ftoaTextsRow : OpenClaim := { program := "ytjnmgjcmagnkeaagreatdoor", sum := "54a97bbc72aa5b2c5e1d8a5685ae649cde6043f96e2e3a037ff8acb9e370dfac", func := "plumb/plumblaw14.FtoaTexts", spec := "ftoaTexts", inPlace := ["internal/abi.NoEscape", "internal/bytealg.MakeNoZero"], unfollowed := true, recurses := true, named := ["plumb/ftoa.zeroTexts", "internal/strconv.uint64pow10", "math/bits.deBruijn32tab", "math/bits.deBruijn64tab"], apart := false, laid := [("math/bits.deBruijn32tab", laid_math_bits_deBruijn32tab), ("math/bits.deBruijn64tab", laid_math_bits_deBruijn64tab), ("internal/strconv.uint64pow10", laid_internal_strconv_uint64pow10), ("plumb/ftoa.zeroTexts", laid_plumb_ftoa_zeroTexts)] }
def FtoaTextsSaid : Prop := ftoaTextsRow.holds Tryz.pinned (OpenSpec.ofChange ftoaTextsSpec)

/-- ITS FALSE NEIGHBOUR: 'it returns false'. Refute it at one input. -/
def ftoaTextsWrong : ChangeSpec := { name := "ftoaTexts", fn := fun _ => fun
  | [d1, d2] => { results := [.lit (.bool false)], args := [d1, d2] }
  | _ => none }
def FtoaTextsWrongFalsely : Prop := ftoaTextsRow.holds Tryz.pinned (OpenSpec.ofChange ftoaTextsWrong)

/-- 'plumblaw14.FtoaPlainly': WHATEVER THE INPUT: true; the input reads as it did. -/
def ftoaPlainlySpec : ChangeSpec := { name := "ftoaPlainly", fn := fun _ => fun
  | [d1, d2, d3] => { results := [.lit (.bool true)], args := [d1, d2, d3] }
  | _ => none }
def ftoaPlainlyRow : OpenClaim := { program := "ytjnmgjcmagnkeaagreatdoor", sum := "54a97bbc72aa5b2c5e1d8a5685ae649cde6043f96e2e3a037ff8acb9e370dfac", func := "plumb/plumblaw14.FtoaPlainly", spec := "ftoaPlainly", inPlace := ["internal/bytealg.IndexByteString", "internal/bytealg.IndexString", "internal/abi.NoEscape", "internal/bytealg.MakeNoZero"], unfollowed := true, recurses := true, named := ["plumb/ftoa.zeroTexts", "unicode/utf8.first", "unicode/utf8.acceptRanges", "unicode.CaseRanges", "internal/strconv.uint64pow10", "math/bits.deBruijn32tab", "math/bits.deBruijn64tab", "internal/bytealg.MaxLen"], apart := false, laid := [("math/bits.deBruijn32tab", laid_math_bits_deBruijn32tab), ("math/bits.deBruijn64tab", laid_math_bits_deBruijn64tab), ("internal/strconv.uint64pow10", laid_internal_strconv_uint64pow10), ("unicode/utf8.acceptRanges", laid_unicode_utf8_acceptRanges), ("plumb/ftoa.zeroTexts", laid_plumb_ftoa_zeroTexts), ("unicode.CaseRanges", laid_unicode_CaseRanges), ("unicode/utf8.first", laid_unicode_utf8_first)] }
def FtoaPlainlySaid : Prop := ftoaPlainlyRow.holds Tryz.pinned (OpenSpec.ofChange ftoaPlainlySpec)

/-- ITS FALSE NEIGHBOUR: 'it returns false'. Refute it at one input. -/
def ftoaPlainlyWrong : ChangeSpec := { name := "ftoaPlainly", fn := fun _ => fun
  | [d1, d2, d3] => { results := [.lit (.bool false)], args := [d1, d2, d3] }
  | _ => none }
def FtoaPlainlyWrongFalsely : Prop := ftoaPlainlyRow.holds Tryz.pinned (OpenSpec.ofChange ftoaPlainlyWrong)

/- THE SECOND FORM. 'bulk': how many values and letters a reading holds, each counted each time it is reached (what is shared counts as often as it is met; a slice's spare places count too). A statement '..UptoSaid' is the law's where the arguments, and the package variables that the reading takes, are together of bulk at most 1048576: NARROWER than '..Said'. Prove '..Said' where nothing that the law and all that it calls make is longer than what came in: it says more and counts as full. Else prove '..UptoSaid'. A law counts once. -/
mutual
def uptoBulk {H : Type} : DataW H → Nat
  | .lit (.string bytes) => bytes.length + 1
  | .lit _ => 1
  | .nil => 1
  | .ptr d => uptoBulk d + 1
  | .slice elems spare => uptoBulkAll elems + uptoBulkAll spare + 1
  | .agg parts => uptoBulkAll parts + 1
  | .iface _ d => uptoBulk d + 1
  | .map entries => uptoBulkEntries entries + 1
  | .held _ => 1
def uptoBulkAll {H : Type} : List (DataW H) → Nat
  | [] => 0
  | d :: r => uptoBulk d + uptoBulkAll r
def uptoBulkEntries {H : Type} : List (Lit × DataW H) → Nat
  | [] => 0
  | x :: r => uptoBulkEntry x + uptoBulkEntries r
def uptoBulkEntry {H : Type} : Lit × DataW H → Nat
  | (.string bytes, d) => bytes.length + uptoBulk d + 1
  | (_, d) => uptoBulk d + 1
 end
def uptoSmall : (H : Type) → List (DataW H) → Bool := fun _ ds => decide (uptoBulkAll ds ≤ 1048576)
def OpenSpec.upto (s : _root_.Go.ChangeSpec) : _root_.Go.OpenSpec := { _root_.Go.OpenSpec.ofChange s with cond := some uptoSmall }

/-- 'plumblaw14.FtoaOne', WHERE WHAT IT READS IS OF BULK AT MOST 1048576: true; the input reads as it did. -/
def ftoaOneUptoRow : OpenClaim := { program := "ytjnmgjcmagnkeaagreatdoor", sum := "54a97bbc72aa5b2c5e1d8a5685ae649cde6043f96e2e3a037ff8acb9e370dfac", func := "plumb/plumblaw14.FtoaOne", spec := "ftoaOne", inPlace := ["internal/abi.NoEscape", "internal/bytealg.MakeNoZero"], unfollowed := true, recurses := true, named := ["plumb/ftoa.zeroTexts", "internal/strconv.uint64pow10", "math/bits.deBruijn32tab", "math/bits.deBruijn64tab"], apart := false, laid := [("math/bits.deBruijn32tab", laid_math_bits_deBruijn32tab), ("math/bits.deBruijn64tab", laid_math_bits_deBruijn64tab), ("internal/strconv.uint64pow10", laid_internal_strconv_uint64pow10), ("plumb/ftoa.zeroTexts", laid_plumb_ftoa_zeroTexts)], narrowed := true }
def FtoaOneUptoSaid : Prop := ftoaOneUptoRow.holds Tryz.pinned (OpenSpec.upto ftoaOneSpec)

/-- 'plumblaw14.FtoaForms', WHERE WHAT IT READS IS OF BULK AT MOST 1048576: true; the input reads as it did. -/
def ftoaFormsUptoRow : OpenClaim := { program := "ytjnmgjcmagnkeaagreatdoor", sum := "54a97bbc72aa5b2c5e1d8a5685ae649cde6043f96e2e3a037ff8acb9e370dfac", func := "plumb/plumblaw14.FtoaForms", spec := "ftoaForms", inPlace := ["internal/abi.NoEscape", "internal/bytealg.MakeNoZero"], unfollowed := true, recurses := true, named := ["plumb/ftoa.zeroTexts", "internal/strconv.uint64pow10", "math/bits.deBruijn32tab", "math/bits.deBruijn64tab"], apart := false, laid := [("math/bits.deBruijn32tab", laid_math_bits_deBruijn32tab), ("math/bits.deBruijn64tab", laid_math_bits_deBruijn64tab), ("internal/strconv.uint64pow10", laid_internal_strconv_uint64pow10), ("plumb/ftoa.zeroTexts", laid_plumb_ftoa_zeroTexts)], narrowed := true }
def FtoaFormsUptoSaid : Prop := ftoaFormsUptoRow.holds Tryz.pinned (OpenSpec.upto ftoaFormsSpec)

/-- 'plumblaw14.FtoaRefuses', WHERE WHAT IT READS IS OF BULK AT MOST 1048576: true; the input reads as it did. -/
def ftoaRefusesUptoRow : OpenClaim := { program := "ytjnmgjcmagnkeaagreatdoor", sum := "54a97bbc72aa5b2c5e1d8a5685ae649cde6043f96e2e3a037ff8acb9e370dfac", func := "plumb/plumblaw14.FtoaRefuses", spec := "ftoaRefuses", inPlace := ["internal/abi.NoEscape", "internal/bytealg.MakeNoZero", "internal/bytealg.IndexByteString", "internal/bytealg.IndexString"], unfollowed := true, recurses := true, named := ["plumb/ftoa.zeroTexts", "internal/strconv.uint64pow10", "math/bits.deBruijn32tab", "math/bits.deBruijn64tab", "unicode/utf8.first", "unicode/utf8.acceptRanges", "internal/bytealg.MaxLen"], apart := false, laid := [("math/bits.deBruijn32tab", laid_math_bits_deBruijn32tab), ("math/bits.deBruijn64tab", laid_math_bits_deBruijn64tab), ("internal/strconv.uint64pow10", laid_internal_strconv_uint64pow10), ("unicode/utf8.acceptRanges", laid_unicode_utf8_acceptRanges), ("plumb/ftoa.zeroTexts", laid_plumb_ftoa_zeroTexts), ("unicode/utf8.first", laid_unicode_utf8_first)], narrowed := true }
def FtoaRefusesUptoSaid : Prop := ftoaRefusesUptoRow.holds Tryz.pinned (OpenSpec.upto ftoaRefusesSpec)

/-- 'plumblaw14.FtoaTexts', WHERE WHAT IT READS IS OF BULK AT MOST 1048576: true; the input reads as it did. -/
def ftoaTextsUptoRow : OpenClaim := { program := "ytjnmgjcmagnkeaagreatdoor", sum := "54a97bbc72aa5b2c5e1d8a5685ae649cde6043f96e2e3a037ff8acb9e370dfac", func := "plumb/plumblaw14.FtoaTexts", spec := "ftoaTexts", inPlace := ["internal/abi.NoEscape", "internal/bytealg.MakeNoZero"], unfollowed := true, recurses := true, named := ["plumb/ftoa.zeroTexts", "internal/strconv.uint64pow10", "math/bits.deBruijn32tab", "math/bits.deBruijn64tab"], apart := false, laid := [("math/bits.deBruijn32tab", laid_math_bits_deBruijn32tab), ("math/bits.deBruijn64tab", laid_math_bits_deBruijn64tab), ("internal/strconv.uint64pow10", laid_internal_strconv_uint64pow10), ("plumb/ftoa.zeroTexts", laid_plumb_ftoa_zeroTexts)], narrowed := true }
def FtoaTextsUptoSaid : Prop := ftoaTextsUptoRow.holds Tryz.pinned (OpenSpec.upto ftoaTextsSpec)

/-- 'plumblaw14.FtoaPlainly', WHERE WHAT IT READS IS OF BULK AT MOST 1048576: true; the input reads as it did. -/
def ftoaPlainlyUptoRow : OpenClaim := { program := "ytjnmgjcmagnkeaagreatdoor", sum := "54a97bbc72aa5b2c5e1d8a5685ae649cde6043f96e2e3a037ff8acb9e370dfac", func := "plumb/plumblaw14.FtoaPlainly", spec := "ftoaPlainly", inPlace := ["internal/bytealg.IndexByteString", "internal/bytealg.IndexString", "internal/abi.NoEscape", "internal/bytealg.MakeNoZero"], unfollowed := true, recurses := true, named := ["plumb/ftoa.zeroTexts", "unicode/utf8.first", "unicode/utf8.acceptRanges", "unicode.CaseRanges", "internal/strconv.uint64pow10", "math/bits.deBruijn32tab", "math/bits.deBruijn64tab", "internal/bytealg.MaxLen"], apart := false, laid := [("math/bits.deBruijn32tab", laid_math_bits_deBruijn32tab), ("math/bits.deBruijn64tab", laid_math_bits_deBruijn64tab), ("internal/strconv.uint64pow10", laid_internal_strconv_uint64pow10), ("unicode/utf8.acceptRanges", laid_unicode_utf8_acceptRanges), ("plumb/ftoa.zeroTexts", laid_plumb_ftoa_zeroTexts), ("unicode.CaseRanges", laid_unicode_CaseRanges), ("unicode/utf8.first", laid_unicode_utf8_first)], narrowed := true }
def FtoaPlainlyUptoSaid : Prop := ftoaPlainlyUptoRow.holds Tryz.pinned (OpenSpec.upto ftoaPlainlySpec)

end Rows
end Go.Proofs.YtjnmgjcmagnkeaaGreatDoor
