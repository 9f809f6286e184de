/- Layer 9: lex.Parse. -/
import Derived.Test.YtfgpjplfplbcdaaGreatDoorLexScan
namespace Go.Proofs.YtfgpjplfplbcdaaGreatDoor
open Go.ChangeShapes Go.WideShapes Go.ChangeAt Go.RowKit
open Lx
set_option linter.unusedVariables false
namespace Lx
/-- the error of a byte behind a numeral -/
def trl (c : UInt8) : Int := if ([43, 45] : B).contains c then 91 else if ([101, 69, 112, 80] : B).contains c then 92 else 90
/-- what Parse answers -/
def ParseQ (w : World) (s : ByteArray) (p : Pc) (e : Ending) (w' : World) : Prop :=
  ((∃ g at_ c, e = .returned (.tuple #[.agg (nmA nmZ), .iface 52 (.pointer (some ⟨g, 0, none⟩))]) ∧ Flt w' g at_ c ∧ w.heap.size ≤ g ∧ g < w'.heap.size ∧
      ((p.kind = 0 ∧ at_ = 0 ∧ c = 90) ∨ (p.kind ≠ 0 ∧ ∃ h : p.stop < s.size, at_ = p.stop ∧ c = trl (s[p.stop]'h)))) ∨
   (p.kind ≠ 0 ∧ p.stop = s.size ∧ e = .returned (.tuple #[.agg (nmA (Lx.numOf p)), .nilIface]))) ∧ Below w.heap.size w w'
def ScanQ (w : World) (s : ByteArray) (fr : Int) (p : Pc) (e : Ending) (w' : World) : Prop :=
  ((∃ g, e = .returned (.tuple #[.agg (nmA nmZ), .int .i64 0, .iface 52 (.pointer (some ⟨g, 0, none⟩))]) ∧ Flt w' g fr 90 ∧ w.heap.size ≤ g ∧ g < w'.heap.size ∧ (fr < 0 ∨ (s.size : Int) < fr ∨ p.kind = 0)) ∨
   (0 ≤ fr ∧ fr ≤ (s.size : Int) ∧ p.kind ≠ 0 ∧ e = .returned (.tuple #[.agg (nmA (Lx.numOf p)), .int .i64 (fr + p.stop), .nilIface]))) ∧ Below w.heap.size w w'
theorem scan_stop_le (s : ByteArray) (k : Nat) (hk : k ≤ s.size) : k + (scanP s.data.toList k).stop ≤ s.size := by
  have := (ok_longest ((s.data.toList.drop k).take 65536)).st
  unfold scanP
  rw [List.length_take, List.length_drop, ← Lib.size_eq] at this
  omega
theorem beq_u8 (x : UInt8) (k : UInt8) : ((x.toNat : Int) == (k.toNat : Int)) = (x == k) := by
  by_cases h : x = k
  · subst h; simp
  · have h2 : (x == k) = false := by simpa using h
    rw [h2]
    exact beq_eq_false_iff_ne.2 fun e => h (UInt8.toNat_inj.1 (by exact_mod_cast e))
end Lx
end Go.Proofs.YtfgpjplfplbcdaaGreatDoor
