/-
  NARROWER THAN 'FOR EVERY INPUT', by the rows' own cells (each row's printed sentence says how): LemireUnsure: laid · LemireTrue: laid · LemireBounds: laid.
  DERIVED. THE GIVEN ROWS OF THIS SEAT. 3 by the template 'for every input the law returns true; each argument reads behind the call as it read before'; 0 by the template 'total and deterministic' (their statements: YtbbmoaipilmmdaaGreatDoorTotals.lean).
  GIVEN WITH THE SEED: the statements are not yours to turn. If you find one false, say at which input.
  Laid BY PROGRAM, IN A SANDBOX (cutbox-rows.mjs): the forced cells as the released guide's own fill.sh prints them over the translation 1af700beb90f22fd… (all of the seat's roots in one cut). By AI agents, Wed Nov 11 2026. No macro, syntax, notation, axiom, sorry.
-/
import Derived.Test.YtbbmoaipilmmdaaGreatDoorChecked
import GoSem.PinnedTables
import GoSem.Claim
import GoSem.ClaimJoined
import GoSem.ClaimMapViews
import Derived.JoinedTies
import Derived.KernelRfl
namespace Go.Proofs.YtbbmoaipilmmdaaGreatDoor
/- THE CELL 'sum', in the pinned program and in every row, IS THE sha256 OF THE DUMP (.gsa) THAT YtbbmoaipilmmdaaGreatDoorProg.lean LOADS. Nothing in Lean hashes anything: it is a label: what it is worth is what the hold of that sum in a sandbox is worth. -/
noncomputable def Tryz.pinned : Pinned := { name := "ytbbmoaipilmmdaagreatdoor", sum := "1af700beb90f22fd9fd1c5d37bd23eeafb7af4e3335ca125e5a58c5c86084c61", checked := Tryz.checked }
namespace Rows
def none {H : Type} : Left H := { results := [], args := [] }

/- WHAT THE LISTED PACKAGE-LEVEL VARIABLES READ AS WHEN THE CALL BEGINS. Each datum BY PROGRAM (the guide's laid-datum.mjs) off the statement by which the dump's own 'gosem.cut.vars' lays the variable. In a bare row this is a premise. The card (YtbbmoaipilmmdaaGreatDoorCards.lean) ties it to the program's text. -/
def laid_unicode_utf8_acceptRanges {H : Type} : DataW H := .agg [.agg [.lit (.int .u8 128), .lit (.int .u8 191)], .agg [.lit (.int .u8 160), .lit (.int .u8 191)], .agg [.lit (.int .u8 128), .lit (.int .u8 159)], .agg [.lit (.int .u8 144), .lit (.int .u8 191)], .agg [.lit (.int .u8 128), .lit (.int .u8 143)], .agg [.lit (.int .u8 0), .lit (.int .u8 0)], .agg [.lit (.int .u8 0), .lit (.int .u8 0)], .agg [.lit (.int .u8 0), .lit (.int .u8 0)], .agg [.lit (.int .u8 0), .lit (.int .u8 0)], .agg [.lit (.int .u8 0), .lit (.int .u8 0)], .agg [.lit (.int .u8 0), .lit (.int .u8 0)], .agg [.lit (.int .u8 0), .lit (.int .u8 0)], .agg [.lit (.int .u8 0), .lit (.int .u8 0)], .agg [.lit (.int .u8 0), .lit (.int .u8 0)], .agg [.lit (.int .u8 0), .lit (.int .u8 0)], .agg [.lit (.int .u8 0), .lit (.int .u8 0)]]
def laid_plumb_lemire_tens {H : Type} : DataW H := .agg [.lit (.int .u64 4607182418800017408), .lit (.int .u64 4621819117588971520), .lit (.int .u64 4636737291354636288), .lit (.int .u64 4652007308841189376), .lit (.int .u64 4666723172467343360), .lit (.int .u64 4681608360884174848), .lit (.int .u64 4696837146684686336), .lit (.int .u64 4711630319722168320), .lit (.int .u64 4726483295884279808), .lit (.int .u64 4741671816366391296), .lit (.int .u64 4756540486875873280), .lit (.int .u64 4771362005757984768), .lit (.int .u64 4786511204640096256), .lit (.int .u64 4801453603149578240), .lit (.int .u64 4816244402031689728), .lit (.int .u64 4831355200913801216), .lit (.int .u64 4846369599423283200), .lit (.int .u64 4861130398305394688), .lit (.int .u64 4876203697187506176), .lit (.int .u64 4891288408196988160), .lit (.int .u64 4906019910204099648), .lit (.int .u64 4921056587992461136), .lit (.int .u64 4936209963552724370)]
def laid_plumb_near_stayAtGreatest {H : Type} : DataW H := .agg [.agg [.lit (.bool false), .lit (.bool false)], .agg [.lit (.bool true), .lit (.bool true)], .agg [.lit (.bool false), .lit (.bool false)], .agg [.lit (.bool false), .lit (.bool true)], .agg [.lit (.bool true), .lit (.bool false)]]
/-- One of Go's own tables, pinned by name: the form's constant. -/
def laid_unicode_utf8_first : DataW Unit := Go.Pinned.utf8First
def laid_errors_errorType {H : Type} : DataW H := .iface "internal/reflectlite.rtype" (.agg [.ptr (.lit (.string [101, 114, 114, 111, 114]))])

/-- 'plumblaw10.LemireUnsure': WHATEVER THE INPUT: true; the input reads as it did. -/
def lemireUnsureSpec : ChangeSpec := { name := "lemireUnsure", fn := fun _ => fun
  | [d1, d2] => { results := [.lit (.bool true)], args := [d1, d2] }
  | _ => none }
def lemireUnsureRow : OpenClaim := { program := "ytbbmoaipilmmdaagreatdoor", sum := "1af700beb90f22fd9fd1c5d37bd23eeafb7af4e3335ca125e5a58c5c86084c61", func := "plumb/plumblaw10.LemireUnsure", spec := "lemireUnsure", inPlace := ["internal/bytealg.IndexByteString", "internal/bytealg.IndexString"], unfollowed := true, recurses := true, named := ["plumb/lemire.tens", "unicode/utf8.first", "unicode/utf8.acceptRanges", "plumb/near.stayAtGreatest", "internal/bytealg.MaxLen"], apart := false, laid := [("unicode/utf8.acceptRanges", laid_unicode_utf8_acceptRanges), ("plumb/lemire.tens", laid_plumb_lemire_tens), ("plumb/near.stayAtGreatest", laid_plumb_near_stayAtGreatest), ("unicode/utf8.first", laid_unicode_utf8_first)] }
def LemireUnsureSaid : Prop := lemireUnsureRow.holds Tryz.pinned (OpenSpec.ofChange lemireUnsureSpec)

/-- ITS FALSE NEIGHBOUR: 'it returns false'. Refute it at one input. -/
def lemireUnsureWrong : ChangeSpec := { name := "lemireUnsure", fn := fun _ => fun
  | [d1, d2] => { results := [.lit (.bool false)], args := [d1, d2] }
  | _ => none }
def LemireUnsureWrongFalsely : Prop := lemireUnsureRow.holds Tryz.pinned (OpenSpec.ofChange lemireUnsureWrong)

/-- 'plumblaw10.LemireTrue': WHATEVER THE INPUT: true; the input reads as it did. -/
def lemireTrueSpec : ChangeSpec := { name := "lemireTrue", fn := fun _ => fun
  | [d1, d2] => { results := [.lit (.bool true)], args := [d1, d2] }
  | _ => none }
def lemireTrueRow : OpenClaim := { program := "ytbbmoaipilmmdaagreatdoor", sum := "1af700beb90f22fd9fd1c5d37bd23eeafb7af4e3335ca125e5a58c5c86084c61", func := "plumb/plumblaw10.LemireTrue", spec := "lemireTrue", inPlace := ["internal/bytealg.IndexByteString", "internal/bytealg.IndexString"], unfollowed := true, recurses := true, named := ["plumb/lemire.tens", "unicode/utf8.first", "unicode/utf8.acceptRanges", "plumb/near.stayAtGreatest", "internal/bytealg.MaxLen"], apart := false, laid := [("unicode/utf8.acceptRanges", laid_unicode_utf8_acceptRanges), ("plumb/lemire.tens", laid_plumb_lemire_tens), ("plumb/near.stayAtGreatest", laid_plumb_near_stayAtGreatest), ("unicode/utf8.first", laid_unicode_utf8_first)] }
def LemireTrueSaid : Prop := lemireTrueRow.holds Tryz.pinned (OpenSpec.ofChange lemireTrueSpec)

/-- ITS FALSE NEIGHBOUR: 'it returns false'. Refute it at one input. -/
def lemireTrueWrong : ChangeSpec := { name := "lemireTrue", fn := fun _ => fun
  | [d1, d2] => { results := [.lit (.bool false)], args := [d1, d2] }
  | _ => none }
def LemireTrueWrongFalsely : Prop := lemireTrueRow.holds Tryz.pinned (OpenSpec.ofChange lemireTrueWrong)

/-- 'plumblaw10.LemireBounds': WHATEVER THE INPUT: true; the input reads as it did. -/
def lemireBoundsSpec : ChangeSpec := { name := "lemireBounds", fn := fun _ => fun
  | [d] => { results := [.lit (.bool true)], args := [d] }
  | _ => none }
def lemireBoundsRow : OpenClaim := { program := "ytbbmoaipilmmdaagreatdoor", sum := "1af700beb90f22fd9fd1c5d37bd23eeafb7af4e3335ca125e5a58c5c86084c61", func := "plumb/plumblaw10.LemireBounds", spec := "lemireBounds", inPlace := ["internal/bytealg.IndexByteString", "internal/bytealg.IndexString", "internal/reflectlite.ValueOf", "(internal/reflectlite.Value).Type", "(internal/reflectlite.Value).IsNil", "internal/reflectlite.TypeOf", "(internal/reflectlite.Value).Elem", "(internal/reflectlite.Value).Set"], unfollowed := true, recurses := true, named := ["unicode/utf8.first", "unicode/utf8.acceptRanges", "plumb/lemire.tens", "errors.errorType", "internal/bytealg.MaxLen"], apart := false, laid := [("unicode/utf8.acceptRanges", laid_unicode_utf8_acceptRanges), ("errors.errorType", laid_errors_errorType), ("plumb/lemire.tens", laid_plumb_lemire_tens), ("unicode/utf8.first", laid_unicode_utf8_first)] }
def LemireBoundsSaid : Prop := lemireBoundsRow.holds Tryz.pinned (OpenSpec.ofChange lemireBoundsSpec)

/-- ITS FALSE NEIGHBOUR: 'it returns false'. Refute it at one input. -/
def lemireBoundsWrong : ChangeSpec := { name := "lemireBounds", fn := fun _ => fun
  | [d] => { results := [.lit (.bool false)], args := [d] }
  | _ => none }
def LemireBoundsWrongFalsely : Prop := lemireBoundsRow.holds Tryz.pinned (OpenSpec.ofChange lemireBoundsWrong)

/- THE SECOND FORM. 'bulk': how many values and letters a reading holds, each counted each time it is reached (what is shared counts as often as it is met; a slice's spare places count too). A statement '..UptoSaid' is the law's where the arguments, and the package variables that the reading takes, are together of bulk at most 1048576: NARROWER than '..Said'. Prove '..Said' where nothing that the law and all that it calls make is longer than what came in: it says more and counts as full. Else prove '..UptoSaid'. A law counts once. -/
mutual
def uptoBulk {H : Type} : DataW H → Nat
  | .lit (.string bytes) => bytes.length + 1
  | .lit _ => 1
  | .nil => 1
  | .ptr d => uptoBulk d + 1
  | .slice elems spare => uptoBulkAll elems + uptoBulkAll spare + 1
  | .agg parts => uptoBulkAll parts + 1
  | .iface _ d => uptoBulk d + 1
  | .map entries => uptoBulkEntries entries + 1
  | .held _ => 1
def uptoBulkAll {H : Type} : List (DataW H) → Nat
  | [] => 0
  | d :: r => uptoBulk d + uptoBulkAll r
def uptoBulkEntries {H : Type} : List (Lit × DataW H) → Nat
  | [] => 0
  | x :: r => uptoBulkEntry x + uptoBulkEntries r
def uptoBulkEntry {H : Type} : Lit × DataW H → Nat
  | (.string bytes, d) => bytes.length + uptoBulk d + 1
  | (_, d) => uptoBulk d + 1
 end
def uptoSmall : (H : Type) → List (DataW H) → Bool := fun _ ds => decide (uptoBulkAll ds ≤ 1048576)
def OpenSpec.upto (s : _root_.Go.ChangeSpec) : _root_.Go.OpenSpec := { _root_.Go.OpenSpec.ofChange s with cond := some uptoSmall }

/-- 'plumblaw10.LemireUnsure', WHERE WHAT IT READS IS OF BULK AT MOST 1048576: true; the input reads as it did. -/
def lemireUnsureUptoRow : OpenClaim := { program := "ytbbmoaipilmmdaagreatdoor", sum := "1af700beb90f22fd9fd1c5d37bd23eeafb7af4e3335ca125e5a58c5c86084c61", func := "plumb/plumblaw10.LemireUnsure", spec := "lemireUnsure", inPlace := ["internal/bytealg.IndexByteString", "internal/bytealg.IndexString"], unfollowed := true, recurses := true, named := ["plumb/lemire.tens", "unicode/utf8.first", "unicode/utf8.acceptRanges", "plumb/near.stayAtGreatest", "internal/bytealg.MaxLen"], apart := false, laid := [("unicode/utf8.acceptRanges", laid_unicode_utf8_acceptRanges), ("plumb/lemire.tens", laid_plumb_lemire_tens), ("plumb/near.stayAtGreatest", laid_plumb_near_stayAtGreatest), ("unicode/utf8.first", laid_unicode_utf8_first)], narrowed := true }
def LemireUnsureUptoSaid : Prop := lemireUnsureUptoRow.holds Tryz.pinned (OpenSpec.upto lemireUnsureSpec)

/-- 'plumblaw10.LemireTrue', WHERE WHAT IT READS IS OF BULK AT MOST 1048576: true; the input reads as it did. -/
def lemireTrueUptoRow : OpenClaim := { program := "ytbbmoaipilmmdaagreatdoor", sum := "1af700beb90f22fd9fd1c5d37bd23eeafb7af4e3335ca125e5a58c5c86084c61", func := "plumb/plumblaw10.LemireTrue", spec := "lemireTrue", inPlace := ["internal/bytealg.IndexByteString", "internal/bytealg.IndexString"], unfollowed := true, recurses := true, named := ["plumb/lemire.tens", "unicode/utf8.first", "unicode/utf8.acceptRanges", "plumb/near.stayAtGreatest", "internal/bytealg.MaxLen"], apart := false, laid := [("unicode/utf8.acceptRanges", laid_unicode_utf8_acceptRanges), ("plumb/lemire.tens", laid_plumb_lemire_tens), ("plumb/near.stayAtGreatest", laid_plumb_near_stayAtGreatest), ("unicode/utf8.first", laid_unicode_utf8_first)], narrowed := true }
def LemireTrueUptoSaid : Prop := lemireTrueUptoRow.holds Tryz.pinned (OpenSpec.upto lemireTrueSpec)

/-- 'plumblaw10.LemireBounds', WHERE WHAT IT READS IS OF BULK AT MOST 1048576: true; the input reads as it did. -/
def lemireBoundsUptoRow : OpenClaim := { program := "ytbbmoaipilmmdaagreatdoor", sum := "1af700beb90f22fd9fd1c5d37bd23eeafb7af4e3335ca125e5a58c5c86084c61", func := "plumb/plumblaw10.LemireBounds", spec := "lemireBounds", inPlace := ["internal/bytealg.IndexByteString", "internal/bytealg.IndexString", "internal/reflectlite.ValueOf", "(internal/reflectlite.Value).Type", "(internal/reflectlite.Value).IsNil", "internal/reflectlite.TypeOf", "(internal/reflectlite.Value).Elem", "(internal/reflectlite.Value).Set"], unfollowed := true, recurses := true, named := ["unicode/utf8.first", "unicode/utf8.acceptRanges", "plumb/lemire.tens", "errors.errorType", "internal/bytealg.MaxLen"], apart := false, laid := [("unicode/utf8.acceptRanges", laid_unicode_utf8_acceptRanges), ("errors.errorType", laid_errors_errorType), ("plumb/lemire.tens", laid_plumb_lemire_tens), ("unicode/utf8.first", laid_unicode_utf8_first)], narrowed := true }
def LemireBoundsUptoSaid : Prop := lemireBoundsUptoRow.holds Tryz.pinned (OpenSpec.upto lemireBoundsSpec)

end Rows
end Go.Proofs.YtbbmoaipilmmdaaGreatDoor
