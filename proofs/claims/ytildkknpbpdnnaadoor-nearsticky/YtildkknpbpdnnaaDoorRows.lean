/-
  NARROWER THAN 'FOR EVERY INPUT', by the rows' own cells (each row's printed sentence says how): NearScaleds: laid · NearSticky: laid · NearScale: laid · NearQuotients: laid · NearMonotone: laid.
  DERIVED. THE GIVEN ROWS OF THIS SEAT. 5 by the template 'for every input the law returns true; each argument reads behind the call as it read before'; 0 by the template 'total and deterministic' (their statements: YtildkknpbpdnnaaDoorTotals.lean).
  GIVEN WITH THE SEED: the statements are not yours to turn. If you find one false, say at which input.
  Laid BY PROGRAM, IN A SANDBOX (cutbox-rows.mjs): the forced cells as the released guide's own fill.sh prints them over the translation ada73f38229073b3… (all of the seat's roots in one cut). By AI agents, Wed Nov 11 2026. No macro, syntax, notation, axiom, sorry.
-/
import Derived.Test.YtildkknpbpdnnaaDoorChecked
import GoSem.Claim
import GoSem.ClaimJoined
import GoSem.ClaimMapViews
import Derived.JoinedTies
import Derived.KernelRfl
namespace Go.Proofs.YtildkknpbpdnnaaDoor
/- THE CELL 'sum', in the pinned program and in every row, IS THE sha256 OF THE DUMP (.gsa) THAT YtildkknpbpdnnaaDoorProg.lean LOADS. Nothing in Lean hashes anything: it is a label: what it is worth is what the hold of that sum in a sandbox is worth. -/
noncomputable def Tryd.pinned : Pinned := { name := "ytildkknpbpdnnaadoor", sum := "ada73f38229073b317a21609b696d2dbbee559c10ec325834f816b5cd9619af8", checked := Tryd.checked }
namespace Rows
def none {H : Type} : Left H := { results := [], args := [] }

/- WHAT THE LISTED PACKAGE-LEVEL VARIABLES READ AS WHEN THE CALL BEGINS. Each datum BY PROGRAM (the guide's laid-datum.mjs) off the statement by which the dump's own 'gosem.cut.vars' lays the variable. In a bare row this is a premise. The card (YtildkknpbpdnnaaDoorCards.lean) ties it to the program's text. -/
def laid_plumb_near_stayAtGreatest {H : Type} : DataW H := .agg [.agg [.lit (.bool false), .lit (.bool false)], .agg [.lit (.bool true), .lit (.bool true)], .agg [.lit (.bool false), .lit (.bool false)], .agg [.lit (.bool false), .lit (.bool true)], .agg [.lit (.bool true), .lit (.bool false)]]

/-- 'plumblaw07.NearScaleds': WHATEVER THE INPUT: true; the input reads as it did. -/
def nearScaledsSpec : ChangeSpec := { name := "nearScaleds", fn := fun _ => fun
  | [d1, d2] => { results := [.lit (.bool true)], args := [d1, d2] }
  | _ => none }
def nearScaledsRow : OpenClaim := { program := "ytildkknpbpdnnaadoor", sum := "ada73f38229073b317a21609b696d2dbbee559c10ec325834f816b5cd9619af8", func := "plumb/plumblaw07.NearScaleds", spec := "nearScaleds", unfollowed := true, recurses := true, named := ["plumb/near.stayAtGreatest"], apart := false, laid := [("plumb/near.stayAtGreatest", laid_plumb_near_stayAtGreatest)] }
def NearScaledsSaid : Prop := nearScaledsRow.holds Tryd.pinned (OpenSpec.ofChange nearScaledsSpec)

/-- ITS FALSE NEIGHBOUR: 'it returns false'. Refute it at one input. -/
def nearScaledsWrong : ChangeSpec := { name := "nearScaleds", fn := fun _ => fun
  | [d1, d2] => { results := [.lit (.bool false)], args := [d1, d2] }
  | _ => none }
def NearScaledsWrongFalsely : Prop := nearScaledsRow.holds Tryd.pinned (OpenSpec.ofChange nearScaledsWrong)

/-- 'plumblaw07.NearSticky': WHATEVER THE INPUT: true; the input reads as it did. -/
def nearStickySpec : ChangeSpec := { name := "nearSticky", fn := fun _ => fun
  | [d] => { results := [.lit (.bool true)], args := [d] }
  | _ => none }
def nearStickyRow : OpenClaim := { program := "ytildkknpbpdnnaadoor", sum := "ada73f38229073b317a21609b696d2dbbee559c10ec325834f816b5cd9619af8", func := "plumb/plumblaw07.NearSticky", spec := "nearSticky", unfollowed := true, recurses := true, named := ["plumb/near.stayAtGreatest"], apart := false, laid := [("plumb/near.stayAtGreatest", laid_plumb_near_stayAtGreatest)] }
def NearStickySaid : Prop := nearStickyRow.holds Tryd.pinned (OpenSpec.ofChange nearStickySpec)

/-- ITS FALSE NEIGHBOUR: 'it returns false'. Refute it at one input. -/
def nearStickyWrong : ChangeSpec := { name := "nearSticky", fn := fun _ => fun
  | [d] => { results := [.lit (.bool false)], args := [d] }
  | _ => none }
def NearStickyWrongFalsely : Prop := nearStickyRow.holds Tryd.pinned (OpenSpec.ofChange nearStickyWrong)

/-- 'plumblaw07.NearScale': WHATEVER THE INPUT: true; the input reads as it did. -/
def nearScaleSpec : ChangeSpec := { name := "nearScale", fn := fun _ => fun
  | [d1, d2, d3] => { results := [.lit (.bool true)], args := [d1, d2, d3] }
  | _ => none }
def nearScaleRow : OpenClaim := { program := "ytildkknpbpdnnaadoor", sum := "ada73f38229073b317a21609b696d2dbbee559c10ec325834f816b5cd9619af8", func := "plumb/plumblaw07.NearScale", spec := "nearScale", unfollowed := true, recurses := true, named := ["plumb/near.stayAtGreatest"], apart := false, laid := [("plumb/near.stayAtGreatest", laid_plumb_near_stayAtGreatest)] }
def NearScaleSaid : Prop := nearScaleRow.holds Tryd.pinned (OpenSpec.ofChange nearScaleSpec)

/-- ITS FALSE NEIGHBOUR: 'it returns false'. Refute it at one input. -/
def nearScaleWrong : ChangeSpec := { name := "nearScale", fn := fun _ => fun
  | [d1, d2, d3] => { results := [.lit (.bool false)], args := [d1, d2, d3] }
  | _ => none }
def NearScaleWrongFalsely : Prop := nearScaleRow.holds Tryd.pinned (OpenSpec.ofChange nearScaleWrong)

/-- 'plumblaw07.NearQuotients': WHATEVER THE INPUT: true; the input reads as it did. -/
def nearQuotientsSpec : ChangeSpec := { name := "nearQuotients", fn := fun _ => fun
  | [d1, d2] => { results := [.lit (.bool true)], args := [d1, d2] }
  | _ => none }
def nearQuotientsRow : OpenClaim := { program := "ytildkknpbpdnnaadoor", sum := "ada73f38229073b317a21609b696d2dbbee559c10ec325834f816b5cd9619af8", func := "plumb/plumblaw07.NearQuotients", spec := "nearQuotients", unfollowed := true, recurses := true, named := ["plumb/near.stayAtGreatest"], apart := false, laid := [("plumb/near.stayAtGreatest", laid_plumb_near_stayAtGreatest)] }
def NearQuotientsSaid : Prop := nearQuotientsRow.holds Tryd.pinned (OpenSpec.ofChange nearQuotientsSpec)

/-- ITS FALSE NEIGHBOUR: 'it returns false'. Refute it at one input. -/
def nearQuotientsWrong : ChangeSpec := { name := "nearQuotients", fn := fun _ => fun
  | [d1, d2] => { results := [.lit (.bool false)], args := [d1, d2] }
  | _ => none }
def NearQuotientsWrongFalsely : Prop := nearQuotientsRow.holds Tryd.pinned (OpenSpec.ofChange nearQuotientsWrong)

/-- 'plumblaw07.NearMonotone': WHATEVER THE INPUT: true; the input reads as it did. -/
def nearMonotoneSpec : ChangeSpec := { name := "nearMonotone", fn := fun _ => fun
  | [d1, d2] => { results := [.lit (.bool true)], args := [d1, d2] }
  | _ => none }
def nearMonotoneRow : OpenClaim := { program := "ytildkknpbpdnnaadoor", sum := "ada73f38229073b317a21609b696d2dbbee559c10ec325834f816b5cd9619af8", func := "plumb/plumblaw07.NearMonotone", spec := "nearMonotone", unfollowed := true, recurses := true, named := ["plumb/near.stayAtGreatest"], apart := false, laid := [("plumb/near.stayAtGreatest", laid_plumb_near_stayAtGreatest)] }
def NearMonotoneSaid : Prop := nearMonotoneRow.holds Tryd.pinned (OpenSpec.ofChange nearMonotoneSpec)

/-- ITS FALSE NEIGHBOUR: 'it returns false'. Refute it at one input. -/
def nearMonotoneWrong : ChangeSpec := { name := "nearMonotone", fn := fun _ => fun
  | [d1, d2] => { results := [.lit (.bool false)], args := [d1, d2] }
  | _ => none }
def NearMonotoneWrongFalsely : Prop := nearMonotoneRow.holds Tryd.pinned (OpenSpec.ofChange nearMonotoneWrong)

/- THE SECOND FORM. 'bulk': how many values and letters a reading holds, each counted each time it is reached (what is shared counts as often as it is met; a slice's spare places count too). A statement '..UptoSaid' is the law's where the arguments, and the package variables that the reading takes, are together of bulk at most 1048576: NARROWER than '..Said'. Prove '..Said' where nothing that the law and all that it calls make is longer than what came in: it says more and counts as full. Else prove '..UptoSaid'. A law counts once. -/
mutual
def uptoBulk {H : Type} : DataW H → Nat
  | .lit (.string bytes) => bytes.length + 1
  | .lit _ => 1
  | .nil => 1
  | .ptr d => uptoBulk d + 1
  | .slice elems spare => uptoBulkAll elems + uptoBulkAll spare + 1
  | .agg parts => uptoBulkAll parts + 1
  | .iface _ d => uptoBulk d + 1
  | .map entries => uptoBulkEntries entries + 1
  | .held _ => 1
def uptoBulkAll {H : Type} : List (DataW H) → Nat
  | [] => 0
  | d :: r => uptoBulk d + uptoBulkAll r
def uptoBulkEntries {H : Type} : List (Lit × DataW H) → Nat
  | [] => 0
  | x :: r => uptoBulkEntry x + uptoBulkEntries r
def uptoBulkEntry {H : Type} : Lit × DataW H → Nat
  | (.string bytes, d) => bytes.length + uptoBulk d + 1
  | (_, d) => uptoBulk d + 1
 end
def uptoSmall : (H : Type) → List (DataW H) → Bool := fun _ ds => decide (uptoBulkAll ds ≤ 1048576)
def OpenSpec.upto (s : _root_.Go.ChangeSpec) : _root_.Go.OpenSpec := { _root_.Go.OpenSpec.ofChange s with cond := some uptoSmall }

/-- 'plumblaw07.NearScaleds', WHERE WHAT IT READS IS OF BULK AT MOST 1048576: true; the input reads as it did. -/
def nearScaledsUptoRow : OpenClaim := { program := "ytildkknpbpdnnaadoor", sum := "ada73f38229073b317a21609b696d2dbbee559c10ec325834f816b5cd9619af8", func := "plumb/plumblaw07.NearScaleds", spec := "nearScaleds", unfollowed := true, recurses := true, named := ["plumb/near.stayAtGreatest"], apart := false, laid := [("plumb/near.stayAtGreatest", laid_plumb_near_stayAtGreatest)], narrowed := true }
def NearScaledsUptoSaid : Prop := nearScaledsUptoRow.holds Tryd.pinned (OpenSpec.upto nearScaledsSpec)

/-- 'plumblaw07.NearSticky', WHERE WHAT IT READS IS OF BULK AT MOST 1048576: true; the input reads as it did. -/
def nearStickyUptoRow : OpenClaim := { program := "ytildkknpbpdnnaadoor", sum := "ada73f38229073b317a21609b696d2dbbee559c10ec325834f816b5cd9619af8", func := "plumb/plumblaw07.NearSticky", spec := "nearSticky", unfollowed := true, recurses := true, named := ["plumb/near.stayAtGreatest"], apart := false, laid := [("plumb/near.stayAtGreatest", laid_plumb_near_stayAtGreatest)], narrowed := true }
def NearStickyUptoSaid : Prop := nearStickyUptoRow.holds Tryd.pinned (OpenSpec.upto nearStickySpec)

/-- 'plumblaw07.NearScale', WHERE WHAT IT READS IS OF BULK AT MOST 1048576: true; the input reads as it did. -/
def nearScaleUptoRow : OpenClaim := { program := "ytildkknpbpdnnaadoor", sum := "ada73f38229073b317a21609b696d2dbbee559c10ec325834f816b5cd9619af8", func := "plumb/plumblaw07.NearScale", spec := "nearScale", unfollowed := true, recurses := true, named := ["plumb/near.stayAtGreatest"], apart := false, laid := [("plumb/near.stayAtGreatest", laid_plumb_near_stayAtGreatest)], narrowed := true }
def NearScaleUptoSaid : Prop := nearScaleUptoRow.holds Tryd.pinned (OpenSpec.upto nearScaleSpec)

/-- 'plumblaw07.NearQuotients', WHERE WHAT IT READS IS OF BULK AT MOST 1048576: true; the input reads as it did. -/
def nearQuotientsUptoRow : OpenClaim := { program := "ytildkknpbpdnnaadoor", sum := "ada73f38229073b317a21609b696d2dbbee559c10ec325834f816b5cd9619af8", func := "plumb/plumblaw07.NearQuotients", spec := "nearQuotients", unfollowed := true, recurses := true, named := ["plumb/near.stayAtGreatest"], apart := false, laid := [("plumb/near.stayAtGreatest", laid_plumb_near_stayAtGreatest)], narrowed := true }
def NearQuotientsUptoSaid : Prop := nearQuotientsUptoRow.holds Tryd.pinned (OpenSpec.upto nearQuotientsSpec)

/-- 'plumblaw07.NearMonotone', WHERE WHAT IT READS IS OF BULK AT MOST 1048576: true; the input reads as it did. -/
def nearMonotoneUptoRow : OpenClaim := { program := "ytildkknpbpdnnaadoor", sum := "ada73f38229073b317a21609b696d2dbbee559c10ec325834f816b5cd9619af8", func := "plumb/plumblaw07.NearMonotone", spec := "nearMonotone", unfollowed := true, recurses := true, named := ["plumb/near.stayAtGreatest"], apart := false, laid := [("plumb/near.stayAtGreatest", laid_plumb_near_stayAtGreatest)], narrowed := true }
def NearMonotoneUptoSaid : Prop := nearMonotoneUptoRow.holds Tryd.pinned (OpenSpec.upto nearMonotoneSpec)

end Rows
end Go.Proofs.YtildkknpbpdnnaaDoor
