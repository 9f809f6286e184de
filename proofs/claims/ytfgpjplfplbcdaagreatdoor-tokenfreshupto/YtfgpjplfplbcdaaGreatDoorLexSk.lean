/- Layer 9: Scan and Parse of the program, by one answer. -/
import Derived.Test.YtfgpjplfplbcdaaGreatDoorLexParse
import Derived.Test.YtfgpjplfplbcdaaGreatDoorBaseZ
namespace Go.Proofs.YtfgpjplfplbcdaaGreatDoor
open Go.ChangeShapes Go.WideShapes Go.ChangeAt Go.RowKit
open Lx
set_option linter.unusedVariables false
namespace Lx
/-- is there a numeral at this place? -/
def scOk (s : ByteArray) (fr : Int) : Prop := 0 ≤ fr ∧ fr ≤ (s.size : Int) ∧ (scanP s.data.toList fr.toNat).kind ≠ 0
instance (s : ByteArray) (fr : Int) : Decidable (scOk s fr) := by unfold scOk; infer_instance
def scN (s : ByteArray) (fr : Int) : Nm := if scOk s fr then Lx.numOf (scanP s.data.toList fr.toNat) else nmZ
def scT (s : ByteArray) (fr : Int) : Int := if scOk s fr then fr + (scanP s.data.toList fr.toNat).stop else 0
def scC (s : ByteArray) (fr : Int) : Int := if scOk s fr then 0 else 90
def scP (s : ByteArray) (fr : Int) : Int := if scOk s fr then -1 else fr
def paN (s : ByteArray) : Nm := if scOk s 0 ∧ (scanP s.data.toList 0).stop = s.size then Lx.numOf (scanP s.data.toList 0) else nmZ
def paC (s : ByteArray) : Int := if scOk s 0 then (if (scanP s.data.toList 0).stop = s.size then 0 else trl (s.get! (scanP s.data.toList 0).stop)) else 90
def paP (s : ByteArray) : Int := if scOk s 0 then (if (scanP s.data.toList 0).stop = s.size then -1 else (scanP s.data.toList 0).stop) else 0
/-- an error value that says this -/
def ErrIs (w : World) (er : Value) (c p : Int) : Prop := (c = 0 ∧ er = .nilIface) ∨ (c ≠ 0 ∧ ∃ g, er = .iface 52 (.pointer (some ⟨g, 0, none⟩)) ∧ FaultAt w g p c)
theorem get_byte9 {s : ByteArray} {i : Nat} (h : i < s.size) : s.get! i = s[i]'h := by
  show s.data[i]! = s.data[i]'h
  exact getElem!_pos s.data i h
theorem trl_ne (c : UInt8) : trl c ≠ 0 := by unfold trl; split <;> (try split) <;> omega
end Lx
theorem scan9_all (s : ByteArray) (hs : s.size ≤ maxLen) (fr : Int) (w : World) :
    Calls Tryz.prog 70 #[.string s, .int .i64 fr] w fun e w' => ∃ er, e = .returned (.tuple #[.agg (nmA (scN s fr)), .int .i64 (scT s fr), er]) ∧ ErrIs w' er (scC s fr) (scP s fr) ∧ Below w.heap.size w w' := by
  have h : Calls Tryz.prog 70 #[.string s, .int .i64 fr] w (ScanR w s fr) := by
    by_cases h : fr < 0 ∨ (s.size : Int) < fr
    · exact scan_out s fr h w
    · obtain ⟨f, rfl⟩ : ∃ f : Nat, fr = f := ⟨fr.toNat, by omega⟩
      exact scan_in s hs f (by omega) w
  refine h.mono ?_
  rintro e w' ⟨⟨g, rfl, hF, _, _, hn⟩ | ⟨h0, h1, hk, rfl⟩, hb⟩
  · have hno : ¬ scOk s fr := fun q => by
      obtain ⟨q0, q1, q2⟩ := q
      rcases hn with hn | hn | hn
      · omega
      · omega
      · exact q2 hn
    unfold scN scT scC scP
    rw [if_neg hno, if_neg hno, if_neg hno, if_neg hno]
    exact ⟨_, rfl, Or.inr ⟨by omega, g, rfl, hF⟩, hb⟩
  · have hyes : scOk s fr := ⟨h0, h1, hk⟩
    unfold scN scT scC scP
    rw [if_pos hyes, if_pos hyes, if_pos hyes, if_pos hyes]
    exact ⟨_, rfl, Or.inl ⟨rfl, rfl⟩, hb⟩
end Go.Proofs.YtfgpjplfplbcdaaGreatDoor
