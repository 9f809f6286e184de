/-
  NARROWER THAN 'FOR EVERY INPUT', by the rows' own cells (each row's printed sentence says how): LemireTens: laid · LemireCuts: laid · LemireRises: laid.
  DERIVED. THE GIVEN ROWS OF THIS SEAT. 3 by the template 'for every input the law returns true; each argument reads behind the call as it read before'; 0 by the template 'total and deterministic' (their statements: YtbbmoaipilmmdaaDoorTotals.lean).
  GIVEN WITH THE SEED: the statements are not yours to turn. If you find one false, say at which input.
  Laid BY PROGRAM, IN A SANDBOX (cutbox-rows.mjs): the forced cells as the released guide's own fill.sh prints them over the translation 13782cb74c010a3a… (all of the seat's roots in one cut). By AI agents, Wed Nov 11 2026. No macro, syntax, notation, axiom, sorry.
-/
import Derived.Test.YtbbmoaipilmmdaaDoorChecked
import GoSem.PinnedTables
import GoSem.Claim
import GoSem.ClaimJoined
import GoSem.ClaimMapViews
import Derived.JoinedTies
import Derived.KernelRfl
namespace Go.Proofs.YtbbmoaipilmmdaaDoor
/- THE CELL 'sum', in the pinned program and in every row, IS THE sha256 OF THE DUMP (.gsa) THAT YtbbmoaipilmmdaaDoorProg.lean LOADS. Nothing in Lean hashes anything: it is a label: what it is worth is what the hold of that sum in a sandbox is worth. -/
noncomputable def Tryd.pinned : Pinned := { name := "ytbbmoaipilmmdaadoor", sum := "13782cb74c010a3af39fd198bdb0768a04e42c4d2ed46a2ee55922e59dfe6631", checked := Tryd.checked }
namespace Rows
def none {H : Type} : Left H := { results := [], args := [] }

/- WHAT THE LISTED PACKAGE-LEVEL VARIABLES READ AS WHEN THE CALL BEGINS. Each datum BY PROGRAM (the guide's laid-datum.mjs) off the statement by which the dump's own 'gosem.cut.vars' lays the variable. In a bare row this is a premise. The card (YtbbmoaipilmmdaaDoorCards.lean) ties it to the program's text. -/
def laid_unicode_utf8_acceptRanges {H : Type} : DataW H := .agg [.agg [.lit (.int .u8 128), .lit (.int .u8 191)], .agg [.lit (.int .u8 160), .lit (.int .u8 191)], .agg [.lit (.int .u8 128), .lit (.int .u8 159)], .agg [.lit (.int .u8 144), .lit (.int .u8 191)], .agg [.lit (.int .u8 128), .lit (.int .u8 143)], .agg [.lit (.int .u8 0), .lit (.int .u8 0)], .agg [.lit (.int .u8 0), .lit (.int .u8 0)], .agg [.lit (.int .u8 0), .lit (.int .u8 0)], .agg [.lit (.int .u8 0), .lit (.int .u8 0)], .agg [.lit (.int .u8 0), .lit (.int .u8 0)], .agg [.lit (.int .u8 0), .lit (.int .u8 0)], .agg [.lit (.int .u8 0), .lit (.int .u8 0)], .agg [.lit (.int .u8 0), .lit (.int .u8 0)], .agg [.lit (.int .u8 0), .lit (.int .u8 0)], .agg [.lit (.int .u8 0), .lit (.int .u8 0)], .agg [.lit (.int .u8 0), .lit (.int .u8 0)]]
def laid_plumb_lemire_tens {H : Type} : DataW H := .agg [.lit (.int .u64 4607182418800017408), .lit (.int .u64 4621819117588971520), .lit (.int .u64 4636737291354636288), .lit (.int .u64 4652007308841189376), .lit (.int .u64 4666723172467343360), .lit (.int .u64 4681608360884174848), .lit (.int .u64 4696837146684686336), .lit (.int .u64 4711630319722168320), .lit (.int .u64 4726483295884279808), .lit (.int .u64 4741671816366391296), .lit (.int .u64 4756540486875873280), .lit (.int .u64 4771362005757984768), .lit (.int .u64 4786511204640096256), .lit (.int .u64 4801453603149578240), .lit (.int .u64 4816244402031689728), .lit (.int .u64 4831355200913801216), .lit (.int .u64 4846369599423283200), .lit (.int .u64 4861130398305394688), .lit (.int .u64 4876203697187506176), .lit (.int .u64 4891288408196988160), .lit (.int .u64 4906019910204099648), .lit (.int .u64 4921056587992461136), .lit (.int .u64 4936209963552724370)]
/-- One of Go's own tables, pinned by name: the form's constant. -/
def laid_unicode_utf8_first : DataW Unit := Go.Pinned.utf8First

/-- 'plumblaw10.LemireTens': WHATEVER THE INPUT: true; the input reads as it did. -/
def lemireTensSpec : ChangeSpec := { name := "lemireTens", fn := fun _ => fun
  | [d1, d2] => { results := [.lit (.bool true)], args := [d1, d2] }
  | _ => none }
def lemireTensRow : OpenClaim := { program := "ytbbmoaipilmmdaadoor", sum := "13782cb74c010a3af39fd198bdb0768a04e42c4d2ed46a2ee55922e59dfe6631", func := "plumb/plumblaw10.LemireTens", spec := "lemireTens", inPlace := ["internal/bytealg.IndexByteString", "internal/bytealg.IndexString"], unfollowed := true, recurses := true, named := ["plumb/lemire.tens", "unicode/utf8.first", "unicode/utf8.acceptRanges", "internal/bytealg.MaxLen"], apart := false, laid := [("unicode/utf8.acceptRanges", laid_unicode_utf8_acceptRanges), ("plumb/lemire.tens", laid_plumb_lemire_tens), ("unicode/utf8.first", laid_unicode_utf8_first)] }
def LemireTensSaid : Prop := lemireTensRow.holds Tryd.pinned (OpenSpec.ofChange lemireTensSpec)

/-- ITS FALSE NEIGHBOUR: 'it returns false'. Refute it at one input. -/
def lemireTensWrong : ChangeSpec := { name := "lemireTens", fn := fun _ => fun
  | [d1, d2] => { results := [.lit (.bool false)], args := [d1, d2] }
  | _ => none }
def LemireTensWrongFalsely : Prop := lemireTensRow.holds Tryd.pinned (OpenSpec.ofChange lemireTensWrong)

/-- 'plumblaw10.LemireCuts': WHATEVER THE INPUT: true; the input reads as it did. -/
def lemireCutsSpec : ChangeSpec := { name := "lemireCuts", fn := fun _ => fun
  | [d] => { results := [.lit (.bool true)], args := [d] }
  | _ => none }
def lemireCutsRow : OpenClaim := { program := "ytbbmoaipilmmdaadoor", sum := "13782cb74c010a3af39fd198bdb0768a04e42c4d2ed46a2ee55922e59dfe6631", func := "plumb/plumblaw10.LemireCuts", spec := "lemireCuts", inPlace := ["internal/bytealg.IndexByteString", "internal/bytealg.IndexString"], unfollowed := true, recurses := true, named := ["unicode/utf8.first", "unicode/utf8.acceptRanges", "plumb/lemire.tens", "internal/bytealg.MaxLen"], apart := false, laid := [("unicode/utf8.acceptRanges", laid_unicode_utf8_acceptRanges), ("plumb/lemire.tens", laid_plumb_lemire_tens), ("unicode/utf8.first", laid_unicode_utf8_first)] }
def LemireCutsSaid : Prop := lemireCutsRow.holds Tryd.pinned (OpenSpec.ofChange lemireCutsSpec)

/-- ITS FALSE NEIGHBOUR: 'it returns false'. Refute it at one input. -/
def lemireCutsWrong : ChangeSpec := { name := "lemireCuts", fn := fun _ => fun
  | [d] => { results := [.lit (.bool false)], args := [d] }
  | _ => none }
def LemireCutsWrongFalsely : Prop := lemireCutsRow.holds Tryd.pinned (OpenSpec.ofChange lemireCutsWrong)

/-- 'plumblaw10.LemireRises': WHATEVER THE INPUT: true; the input reads as it did. -/
def lemireRisesSpec : ChangeSpec := { name := "lemireRises", fn := fun _ => fun
  | [d1, d2, d3, d4] => { results := [.lit (.bool true)], args := [d1, d2, d3, d4] }
  | _ => none }
def lemireRisesRow : OpenClaim := { program := "ytbbmoaipilmmdaadoor", sum := "13782cb74c010a3af39fd198bdb0768a04e42c4d2ed46a2ee55922e59dfe6631", func := "plumb/plumblaw10.LemireRises", spec := "lemireRises", inPlace := ["internal/bytealg.IndexByteString", "internal/bytealg.IndexString"], unfollowed := true, recurses := true, named := ["plumb/lemire.tens", "unicode/utf8.first", "unicode/utf8.acceptRanges", "internal/bytealg.MaxLen"], apart := false, laid := [("unicode/utf8.acceptRanges", laid_unicode_utf8_acceptRanges), ("plumb/lemire.tens", laid_plumb_lemire_tens), ("unicode/utf8.first", laid_unicode_utf8_first)] }
def LemireRisesSaid : Prop := lemireRisesRow.holds Tryd.pinned (OpenSpec.ofChange lemireRisesSpec)

/-- ITS FALSE NEIGHBOUR: 'it returns false'. Refute it at one input. -/
def lemireRisesWrong : ChangeSpec := { name := "lemireRises", fn := fun _ => fun
  | [d1, d2, d3, d4] => { results := [.lit (.bool false)], args := [d1, d2, d3, d4] }
  | _ => none }
def LemireRisesWrongFalsely : Prop := lemireRisesRow.holds Tryd.pinned (OpenSpec.ofChange lemireRisesWrong)

/- THE SECOND FORM. 'bulk': how many values and letters a reading holds, each counted each time it is reached (what is shared counts as often as it is met; a slice's spare places count too). A statement '..UptoSaid' is the law's where the arguments, and the package variables that the reading takes, are together of bulk at most 1048576: NARROWER than '..Said'. Prove '..Said' where nothing that the law and all that it calls make is longer than what came in: it says more and counts as full. Else prove '..UptoSaid'. A law counts once. -/
mutual
def uptoBulk {H : Type} : DataW H → Nat
  | .lit (.string bytes) => bytes.length + 1
  | .lit _ => 1
  | .nil => 1
  | .ptr d => uptoBulk d + 1
  | .slice elems spare => uptoBulkAll elems + uptoBulkAll spare + 1
  | .agg parts => uptoBulkAll parts + 1
  | .iface _ d => uptoBulk d + 1
  | .map entries => uptoBulkEntries entries + 1
  | .held _ => 1
def uptoBulkAll {H : Type} : List (DataW H) → Nat
  | [] => 0
  | d :: r => uptoBulk d + uptoBulkAll r
def uptoBulkEntries {H : Type} : List (Lit × DataW H) → Nat
  | [] => 0
  | x :: r => uptoBulkEntry x + uptoBulkEntries r
def uptoBulkEntry {H : Type} : Lit × DataW H → Nat
  | (.string bytes, d) => bytes.length + uptoBulk d + 1
  | (_, d) => uptoBulk d + 1
 end
def uptoSmall : (H : Type) → List (DataW H) → Bool := fun _ ds => decide (uptoBulkAll ds ≤ 1048576)
def OpenSpec.upto (s : _root_.Go.ChangeSpec) : _root_.Go.OpenSpec := { _root_.Go.OpenSpec.ofChange s with cond := some uptoSmall }

/-- 'plumblaw10.LemireTens', WHERE WHAT IT READS IS OF BULK AT MOST 1048576: true; the input reads as it did. -/
def lemireTensUptoRow : OpenClaim := { program := "ytbbmoaipilmmdaadoor", sum := "13782cb74c010a3af39fd198bdb0768a04e42c4d2ed46a2ee55922e59dfe6631", func := "plumb/plumblaw10.LemireTens", spec := "lemireTens", inPlace := ["internal/bytealg.IndexByteString", "internal/bytealg.IndexString"], unfollowed := true, recurses := true, named := ["plumb/lemire.tens", "unicode/utf8.first", "unicode/utf8.acceptRanges", "internal/bytealg.MaxLen"], apart := false, laid := [("unicode/utf8.acceptRanges", laid_unicode_utf8_acceptRanges), ("plumb/lemire.tens", laid_plumb_lemire_tens), ("unicode/utf8.first", laid_unicode_utf8_first)], narrowed := true }
def LemireTensUptoSaid : Prop := lemireTensUptoRow.holds Tryd.pinned (OpenSpec.upto lemireTensSpec)

/-- 'plumblaw10.LemireCuts', WHERE WHAT IT READS IS OF BULK AT MOST 1048576: true; the input reads as it did. -/
def lemireCutsUptoRow : OpenClaim := { program := "ytbbmoaipilmmdaadoor", sum := "13782cb74c010a3af39fd198bdb0768a04e42c4d2ed46a2ee55922e59dfe6631", func := "plumb/plumblaw10.LemireCuts", spec := "lemireCuts", inPlace := ["internal/bytealg.IndexByteString", "internal/bytealg.IndexString"], unfollowed := true, recurses := true, named := ["unicode/utf8.first", "unicode/utf8.acceptRanges", "plumb/lemire.tens", "internal/bytealg.MaxLen"], apart := false, laid := [("unicode/utf8.acceptRanges", laid_unicode_utf8_acceptRanges), ("plumb/lemire.tens", laid_plumb_lemire_tens), ("unicode/utf8.first", laid_unicode_utf8_first)], narrowed := true }
def LemireCutsUptoSaid : Prop := lemireCutsUptoRow.holds Tryd.pinned (OpenSpec.upto lemireCutsSpec)

/-- 'plumblaw10.LemireRises', WHERE WHAT IT READS IS OF BULK AT MOST 1048576: true; the input reads as it did. -/
def lemireRisesUptoRow : OpenClaim := { program := "ytbbmoaipilmmdaadoor", sum := "13782cb74c010a3af39fd198bdb0768a04e42c4d2ed46a2ee55922e59dfe6631", func := "plumb/plumblaw10.LemireRises", spec := "lemireRises", inPlace := ["internal/bytealg.IndexByteString", "internal/bytealg.IndexString"], unfollowed := true, recurses := true, named := ["plumb/lemire.tens", "unicode/utf8.first", "unicode/utf8.acceptRanges", "internal/bytealg.MaxLen"], apart := false, laid := [("unicode/utf8.acceptRanges", laid_unicode_utf8_acceptRanges), ("plumb/lemire.tens", laid_plumb_lemire_tens), ("unicode/utf8.first", laid_unicode_utf8_first)], narrowed := true }
def LemireRisesUptoSaid : Prop := lemireRisesUptoRow.holds Tryd.pinned (OpenSpec.upto lemireRisesSpec)

end Rows
end Go.Proofs.YtbbmoaipilmmdaaDoor
