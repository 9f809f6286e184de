/-
  NARROWER THAN 'FOR EVERY INPUT', by the rows' own cells (each row's printed sentence says how): ExpandRises: laid · ExpandFixes: laid · ExpandPrecises: laid · ExpandRyu: laid · ExpandWhole: laid · ExpandHalf: laid.
  DERIVED. THE GIVEN ROWS OF THIS SEAT. 6 by the template 'for every input the law returns true; each argument reads behind the call as it read before'; 0 by the template 'total and deterministic' (their statements: YtceecgklgkiffaaGreatDoorTotals.lean).
  GIVEN WITH THE SEED: the statements are not yours to turn. If you find one false, say at which input.
  Laid BY PROGRAM, IN A SANDBOX (cutbox-rows.mjs): the forced cells as the released guide's own fill.sh prints them over the translation f9d37a508256c90a… (all of the seat's roots in one cut). By AI agents, Wed Nov 11 2026. No macro, syntax, notation, axiom, sorry.
-/
import Derived.Test.YtceecgklgkiffaaGreatDoorChecked
import GoSem.PinnedTables
import GoSem.Claim
import GoSem.ClaimJoined
import GoSem.ClaimMapViews
import Derived.JoinedTies
import Derived.KernelRfl
namespace Go.Proofs.YtceecgklgkiffaaGreatDoor
/- THE CELL 'sum', in the pinned program and in every row, IS THE sha256 OF THE DUMP (.gsa) THAT YtceecgklgkiffaaGreatDoorProg.lean LOADS. Nothing in Lean hashes anything: it is a label: what it is worth is what the hold of that sum in a sandbox is worth. -/
noncomputable def Tryz.pinned : Pinned := { name := "ytceecgklgkiffaagreatdoor", sum := "f9d37a508256c90afcc22998016bb76c0fecf84487434a7aab3d01c71620a240", checked := Tryz.checked }
namespace Rows
def none {H : Type} : Left H := { results := [], args := [] }

/- WHAT THE LISTED PACKAGE-LEVEL VARIABLES READ AS WHEN THE CALL BEGINS. Each datum BY PROGRAM (the guide's laid-datum.mjs) off the statement by which the dump's own 'gosem.cut.vars' lays the variable. In a bare row this is a premise. The card (YtceecgklgkiffaaGreatDoorCards.lean) ties it to the program's text. -/
def laid_unicode_utf8_acceptRanges {H : Type} : DataW H := .agg [.agg [.lit (.int .u8 128), .lit (.int .u8 191)], .agg [.lit (.int .u8 160), .lit (.int .u8 191)], .agg [.lit (.int .u8 128), .lit (.int .u8 159)], .agg [.lit (.int .u8 144), .lit (.int .u8 191)], .agg [.lit (.int .u8 128), .lit (.int .u8 143)], .agg [.lit (.int .u8 0), .lit (.int .u8 0)], .agg [.lit (.int .u8 0), .lit (.int .u8 0)], .agg [.lit (.int .u8 0), .lit (.int .u8 0)], .agg [.lit (.int .u8 0), .lit (.int .u8 0)], .agg [.lit (.int .u8 0), .lit (.int .u8 0)], .agg [.lit (.int .u8 0), .lit (.int .u8 0)], .agg [.lit (.int .u8 0), .lit (.int .u8 0)], .agg [.lit (.int .u8 0), .lit (.int .u8 0)], .agg [.lit (.int .u8 0), .lit (.int .u8 0)], .agg [.lit (.int .u8 0), .lit (.int .u8 0)], .agg [.lit (.int .u8 0), .lit (.int .u8 0)]]
/-- One of Go's own tables, pinned by name: the form's constant. -/
def laid_unicode_utf8_first : DataW Unit := Go.Pinned.utf8First

/-- 'plumblaw13.ExpandRises': WHATEVER THE INPUT: true; the input reads as it did. -/
def expandRisesSpec : ChangeSpec := { name := "expandRises", fn := fun _ => fun
  | [d1, d2, d3] => { results := [.lit (.bool true)], args := [d1, d2, d3] }
  | _ => none }
def expandRisesRow : OpenClaim := { program := "ytceecgklgkiffaagreatdoor", sum := "f9d37a508256c90afcc22998016bb76c0fecf84487434a7aab3d01c71620a240", func := "plumb/plumblaw13.ExpandRises", spec := "expandRises", inPlace := ["internal/bytealg.IndexByteString", "internal/bytealg.IndexString", "internal/bytealg.MakeNoZero", "internal/bytealg.Compare"], recurses := true, named := ["unicode/utf8.first", "unicode/utf8.acceptRanges", "internal/bytealg.MaxLen"], apart := false, laid := [("unicode/utf8.acceptRanges", laid_unicode_utf8_acceptRanges), ("unicode/utf8.first", laid_unicode_utf8_first)] }
def ExpandRisesSaid : Prop := expandRisesRow.holds Tryz.pinned (OpenSpec.ofChange expandRisesSpec)

/-- ITS FALSE NEIGHBOUR: 'it returns false'. Refute it at one input. -/
def expandRisesWrong : ChangeSpec := { name := "expandRises", fn := fun _ => fun
  | [d1, d2, d3] => { results := [.lit (.bool false)], args := [d1, d2, d3] }
  | _ => none }
def ExpandRisesWrongFalsely : Prop := expandRisesRow.holds Tryz.pinned (OpenSpec.ofChange expandRisesWrong)

/-- 'plumblaw13.ExpandFixes': WHATEVER THE INPUT: true; the input reads as it did. -/
def expandFixesSpec : ChangeSpec := { name := "expandFixes", fn := fun _ => fun
  | [d1, d2] => { results := [.lit (.bool true)], args := [d1, d2] }
  | _ => none }
def expandFixesRow : OpenClaim := { program := "ytceecgklgkiffaagreatdoor", sum := "f9d37a508256c90afcc22998016bb76c0fecf84487434a7aab3d01c71620a240", func := "plumb/plumblaw13.ExpandFixes", spec := "expandFixes", inPlace := ["internal/bytealg.IndexByteString", "internal/bytealg.IndexString", "internal/bytealg.MakeNoZero", "internal/bytealg.Compare"], recurses := true, named := ["unicode/utf8.first", "unicode/utf8.acceptRanges", "internal/bytealg.MaxLen"], apart := false, laid := [("unicode/utf8.acceptRanges", laid_unicode_utf8_acceptRanges), ("unicode/utf8.first", laid_unicode_utf8_first)] }
def ExpandFixesSaid : Prop := expandFixesRow.holds Tryz.pinned (OpenSpec.ofChange expandFixesSpec)

/-- ITS FALSE NEIGHBOUR: 'it returns false'. Refute it at one input. -/
def expandFixesWrong : ChangeSpec := { name := "expandFixes", fn := fun _ => fun
  | [d1, d2] => { results := [.lit (.bool false)], args := [d1, d2] }
  | _ => none }
def ExpandFixesWrongFalsely : Prop := expandFixesRow.holds Tryz.pinned (OpenSpec.ofChange expandFixesWrong)

/-- 'plumblaw13.ExpandPrecises': WHATEVER THE INPUT: true; the input reads as it did. -/
def expandPrecisesSpec : ChangeSpec := { name := "expandPrecises", fn := fun _ => fun
  | [d1, d2] => { results := [.lit (.bool true)], args := [d1, d2] }
  | _ => none }
def expandPrecisesRow : OpenClaim := { program := "ytceecgklgkiffaagreatdoor", sum := "f9d37a508256c90afcc22998016bb76c0fecf84487434a7aab3d01c71620a240", func := "plumb/plumblaw13.ExpandPrecises", spec := "expandPrecises", inPlace := ["internal/bytealg.IndexByteString", "internal/bytealg.IndexString", "internal/bytealg.MakeNoZero", "internal/bytealg.Compare"], recurses := true, named := ["unicode/utf8.first", "unicode/utf8.acceptRanges", "internal/bytealg.MaxLen"], apart := false, laid := [("unicode/utf8.acceptRanges", laid_unicode_utf8_acceptRanges), ("unicode/utf8.first", laid_unicode_utf8_first)] }
def ExpandPrecisesSaid : Prop := expandPrecisesRow.holds Tryz.pinned (OpenSpec.ofChange expandPrecisesSpec)

/-- ITS FALSE NEIGHBOUR: 'it returns false'. Refute it at one input. -/
def expandPrecisesWrong : ChangeSpec := { name := "expandPrecises", fn := fun _ => fun
  | [d1, d2] => { results := [.lit (.bool false)], args := [d1, d2] }
  | _ => none }
def ExpandPrecisesWrongFalsely : Prop := expandPrecisesRow.holds Tryz.pinned (OpenSpec.ofChange expandPrecisesWrong)

/-- 'plumblaw13.ExpandRyu': WHATEVER THE INPUT: true; the input reads as it did. -/
def expandRyuSpec : ChangeSpec := { name := "expandRyu", fn := fun _ => fun
  | [d] => { results := [.lit (.bool true)], args := [d] }
  | _ => none }
def expandRyuRow : OpenClaim := { program := "ytceecgklgkiffaagreatdoor", sum := "f9d37a508256c90afcc22998016bb76c0fecf84487434a7aab3d01c71620a240", func := "plumb/plumblaw13.ExpandRyu", spec := "expandRyu", inPlace := ["internal/bytealg.IndexByteString", "internal/bytealg.IndexString", "internal/bytealg.MakeNoZero", "internal/bytealg.Compare"], unfollowed := true, recurses := true, named := ["unicode/utf8.first", "unicode/utf8.acceptRanges", "internal/bytealg.MaxLen"], apart := false, laid := [("unicode/utf8.acceptRanges", laid_unicode_utf8_acceptRanges), ("unicode/utf8.first", laid_unicode_utf8_first)] }
def ExpandRyuSaid : Prop := expandRyuRow.holds Tryz.pinned (OpenSpec.ofChange expandRyuSpec)

/-- ITS FALSE NEIGHBOUR: 'it returns false'. Refute it at one input. -/
def expandRyuWrong : ChangeSpec := { name := "expandRyu", fn := fun _ => fun
  | [d] => { results := [.lit (.bool false)], args := [d] }
  | _ => none }
def ExpandRyuWrongFalsely : Prop := expandRyuRow.holds Tryz.pinned (OpenSpec.ofChange expandRyuWrong)

/-- 'plumblaw13.ExpandWhole': WHATEVER THE INPUT: true; the input reads as it did. -/
def expandWholeSpec : ChangeSpec := { name := "expandWhole", fn := fun _ => fun
  | [d] => { results := [.lit (.bool true)], args := [d] }
  | _ => none }
def expandWholeRow : OpenClaim := { program := "ytceecgklgkiffaagreatdoor", sum := "f9d37a508256c90afcc22998016bb76c0fecf84487434a7aab3d01c71620a240", func := "plumb/plumblaw13.ExpandWhole", spec := "expandWhole", inPlace := ["internal/bytealg.IndexByteString", "internal/bytealg.IndexString", "internal/bytealg.MakeNoZero", "internal/bytealg.Compare"], unfollowed := true, recurses := true, named := ["unicode/utf8.first", "unicode/utf8.acceptRanges", "internal/bytealg.MaxLen"], apart := false, laid := [("unicode/utf8.acceptRanges", laid_unicode_utf8_acceptRanges), ("unicode/utf8.first", laid_unicode_utf8_first)] }
def ExpandWholeSaid : Prop := expandWholeRow.holds Tryz.pinned (OpenSpec.ofChange expandWholeSpec)

/-- ITS FALSE NEIGHBOUR: 'it returns false'. Refute it at one input. -/
def expandWholeWrong : ChangeSpec := { name := "expandWhole", fn := fun _ => fun
  | [d] => { results := [.lit (.bool false)], args := [d] }
  | _ => none }
def ExpandWholeWrongFalsely : Prop := expandWholeRow.holds Tryz.pinned (OpenSpec.ofChange expandWholeWrong)

/-- 'plumblaw13.ExpandHalf': WHATEVER THE INPUT: true; the input reads as it did. -/
def expandHalfSpec : ChangeSpec := { name := "expandHalf", fn := fun _ => fun
  | [d1, d2] => { results := [.lit (.bool true)], args := [d1, d2] }
  | _ => none }
def expandHalfRow : OpenClaim := { program := "ytceecgklgkiffaagreatdoor", sum := "f9d37a508256c90afcc22998016bb76c0fecf84487434a7aab3d01c71620a240", func := "plumb/plumblaw13.ExpandHalf", spec := "expandHalf", inPlace := ["internal/bytealg.IndexByteString", "internal/bytealg.IndexString", "internal/bytealg.MakeNoZero", "internal/bytealg.Compare"], unfollowed := true, recurses := true, named := ["unicode/utf8.first", "unicode/utf8.acceptRanges", "internal/bytealg.MaxLen"], apart := false, laid := [("unicode/utf8.acceptRanges", laid_unicode_utf8_acceptRanges), ("unicode/utf8.first", laid_unicode_utf8_first)] }
def ExpandHalfSaid : Prop := expandHalfRow.holds Tryz.pinned (OpenSpec.ofChange expandHalfSpec)

/-- ITS FALSE NEIGHBOUR: 'it returns false'. Refute it at one input. -/
def expandHalfWrong : ChangeSpec := { name := "expandHalf", fn := fun _ => fun
  | [d1, d2] => { results := [.lit (.bool false)], args := [d1, d2] }
  | _ => none }
def ExpandHalfWrongFalsely : Prop := expandHalfRow.holds Tryz.pinned (OpenSpec.ofChange expandHalfWrong)

/- THE SECOND FORM. 'bulk': how many values and letters a reading holds, each counted each time it is reached (what is shared counts as often as it is met; a slice's spare places count too). A statement '..UptoSaid' is the law's where the arguments, and the package variables that the reading takes, are together of bulk at most 1048576: NARROWER than '..Said'. Prove '..Said' where nothing that the law and all that it calls make is longer than what came in: it says more and counts as full. Else prove '..UptoSaid'. A law counts once. -/
mutual
def uptoBulk {H : Type} : DataW H → Nat
  | .lit (.string bytes) => bytes.length + 1
  | .lit _ => 1
  | .nil => 1
  | .ptr d => uptoBulk d + 1
  | .slice elems spare => uptoBulkAll elems + uptoBulkAll spare + 1
  | .agg parts => uptoBulkAll parts + 1
  | .iface _ d => uptoBulk d + 1
  | .map entries => uptoBulkEntries entries + 1
  | .held _ => 1
def uptoBulkAll {H : Type} : List (DataW H) → Nat
  | [] => 0
  | d :: r => uptoBulk d + uptoBulkAll r
def uptoBulkEntries {H : Type} : List (Lit × DataW H) → Nat
  | [] => 0
  | x :: r => uptoBulkEntry x + uptoBulkEntries r
def uptoBulkEntry {H : Type} : Lit × DataW H → Nat
  | (.string bytes, d) => bytes.length + uptoBulk d + 1
  | (_, d) => uptoBulk d + 1
 end
def uptoSmall : (H : Type) → List (DataW H) → Bool := fun _ ds => decide (uptoBulkAll ds ≤ 1048576)
def OpenSpec.upto (s : _root_.Go.ChangeSpec) : _root_.Go.OpenSpec := { _root_.Go.OpenSpec.ofChange s with cond := some uptoSmall }

/-- 'plumblaw13.ExpandRises', WHERE WHAT IT READS IS OF BULK AT MOST 1048576: true; the input reads as it did. -/
def expandRisesUptoRow : OpenClaim := { program := "ytceecgklgkiffaagreatdoor", sum := "f9d37a508256c90afcc22998016bb76c0fecf84487434a7aab3d01c71620a240", func := "plumb/plumblaw13.ExpandRises", spec := "expandRises", inPlace := ["internal/bytealg.IndexByteString", "internal/bytealg.IndexString", "internal/bytealg.MakeNoZero", "internal/bytealg.Compare"], recurses := true, named := ["unicode/utf8.first", "unicode/utf8.acceptRanges", "internal/bytealg.MaxLen"], apart := false, laid := [("unicode/utf8.acceptRanges", laid_unicode_utf8_acceptRanges), ("unicode/utf8.first", laid_unicode_utf8_first)], narrowed := true }
def ExpandRisesUptoSaid : Prop := expandRisesUptoRow.holds Tryz.pinned (OpenSpec.upto expandRisesSpec)

/-- 'plumblaw13.ExpandFixes', WHERE WHAT IT READS IS OF BULK AT MOST 1048576: true; the input reads as it did. -/
def expandFixesUptoRow : OpenClaim := { program := "ytceecgklgkiffaagreatdoor", sum := "f9d37a508256c90afcc22998016bb76c0fecf84487434a7aab3d01c71620a240", func := "plumb/plumblaw13.ExpandFixes", spec := "expandFixes", inPlace := ["internal/bytealg.IndexByteString", "internal/bytealg.IndexString", "internal/bytealg.MakeNoZero", "internal/bytealg.Compare"], recurses := true, named := ["unicode/utf8.first", "unicode/utf8.acceptRanges", "internal/bytealg.MaxLen"], apart := false, laid := [("unicode/utf8.acceptRanges", laid_unicode_utf8_acceptRanges), ("unicode/utf8.first", laid_unicode_utf8_first)], narrowed := true }
def ExpandFixesUptoSaid : Prop := expandFixesUptoRow.holds Tryz.pinned (OpenSpec.upto expandFixesSpec)

/-- 'plumblaw13.ExpandPrecises', WHERE WHAT IT READS IS OF BULK AT MOST 1048576: true; the input reads as it did. -/
def expandPrecisesUptoRow : OpenClaim := { program := "ytceecgklgkiffaagreatdoor", sum := "f9d37a508256c90afcc22998016bb76c0fecf84487434a7aab3d01c71620a240", func := "plumb/plumblaw13.ExpandPrecises", spec := "expandPrecises", inPlace := ["internal/bytealg.IndexByteString", "internal/bytealg.IndexString", "internal/bytealg.MakeNoZero", "internal/bytealg.Compare"], recurses := true, named := ["unicode/utf8.first", "unicode/utf8.acceptRanges", "internal/bytealg.MaxLen"], apart := false, laid := [("unicode/utf8.acceptRanges", laid_unicode_utf8_acceptRanges), ("unicode/utf8.first", laid_unicode_utf8_first)], narrowed := true }
def ExpandPrecisesUptoSaid : Prop := expandPrecisesUptoRow.holds Tryz.pinned (OpenSpec.upto expandPrecisesSpec)

/-- 'plumblaw13.ExpandRyu', WHERE WHAT IT READS IS OF BULK AT MOST 1048576: true; the input reads as it did. -/
def expandRyuUptoRow : OpenClaim := { program := "ytceecgklgkiffaagreatdoor", sum := "f9d37a508256c90afcc22998016bb76c0fecf84487434a7aab3d01c71620a240", func := "plumb/plumblaw13.ExpandRyu", spec := "expandRyu", inPlace := ["internal/bytealg.IndexByteString", "internal/bytealg.IndexString", "internal/bytealg.MakeNoZero", "internal/bytealg.Compare"], unfollowed := true, recurses := true, named := ["unicode/utf8.first", "unicode/utf8.acceptRanges", "internal/bytealg.MaxLen"], apart := false, laid := [("unicode/utf8.acceptRanges", laid_unicode_utf8_acceptRanges), ("unicode/utf8.first", laid_unicode_utf8_first)], narrowed := true }
def ExpandRyuUptoSaid : Prop := expandRyuUptoRow.holds Tryz.pinned (OpenSpec.upto expandRyuSpec)

/-- 'plumblaw13.ExpandWhole', WHERE WHAT IT READS IS OF BULK AT MOST 1048576: true; the input reads as it did. -/
def expandWholeUptoRow : OpenClaim := { program := "ytceecgklgkiffaagreatdoor", sum := "f9d37a508256c90afcc22998016bb76c0fecf84487434a7aab3d01c71620a240", func := "plumb/plumblaw13.ExpandWhole", spec := "expandWhole", inPlace := ["internal/bytealg.IndexByteString", "internal/bytealg.IndexString", "internal/bytealg.MakeNoZero", "internal/bytealg.Compare"], unfollowed := true, recurses := true, named := ["unicode/utf8.first", "unicode/utf8.acceptRanges", "internal/bytealg.MaxLen"], apart := false, laid := [("unicode/utf8.acceptRanges", laid_unicode_utf8_acceptRanges), ("unicode/utf8.first", laid_unicode_utf8_first)], narrowed := true }
def ExpandWholeUptoSaid : Prop := expandWholeUptoRow.holds Tryz.pinned (OpenSpec.upto expandWholeSpec)

/-- 'plumblaw13.ExpandHalf', WHERE WHAT IT READS IS OF BULK AT MOST 1048576: true; the input reads as it did. -/
def expandHalfUptoRow : OpenClaim := { program := "ytceecgklgkiffaagreatdoor", sum := "f9d37a508256c90afcc22998016bb76c0fecf84487434a7aab3d01c71620a240", func := "plumb/plumblaw13.ExpandHalf", spec := "expandHalf", inPlace := ["internal/bytealg.IndexByteString", "internal/bytealg.IndexString", "internal/bytealg.MakeNoZero", "internal/bytealg.Compare"], unfollowed := true, recurses := true, named := ["unicode/utf8.first", "unicode/utf8.acceptRanges", "internal/bytealg.MaxLen"], apart := false, laid := [("unicode/utf8.acceptRanges", laid_unicode_utf8_acceptRanges), ("unicode/utf8.first", laid_unicode_utf8_first)], narrowed := true }
def ExpandHalfUptoSaid : Prop := expandHalfUptoRow.holds Tryz.pinned (OpenSpec.upto expandHalfSpec)

end Rows
end Go.Proofs.YtceecgklgkiffaaGreatDoor
