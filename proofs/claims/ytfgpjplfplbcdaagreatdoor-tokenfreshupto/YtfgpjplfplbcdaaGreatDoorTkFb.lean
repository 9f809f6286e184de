/- Layer 18: All by one answer; errors asked by number and place. -/
import Derived.Test.YtfgpjplfplbcdaaGreatDoorTkFa
namespace Go.Proofs.YtfgpjplfplbcdaaGreatDoor
open Go.ChangeShapes Go.WideShapes Go.ChangeAt Go.RowKit
open Lx Tk
set_option linter.unusedVariables false
namespace Tk
/-- what All answers of a text: the tokens (none beside an error), the error's number and place -/
def alL (l : List Ct) (e : Option Nat) : List Ct := match e with | none => l | some _ => []
def alC (e : Option Nat) : Int := match e with | none => 0 | some _ => 180
def alP (e : Option Nat) : Int := match e with | none => -1 | some p => (p : Int)
theorem al_zero {e : Option Nat} (h : alC e = 0) : alP e = -1 := by
  cases e with
  | none => rfl
  | some p => exact absurd h (by show ¬ (180 : Int) = 0; omega)
end Tk
theorem all18_both (s : ByteArray) (hs : s.size ≤ 1000000000) {l : List Ct} {e : Option Nat} (hl : Toks 0 s.data.toList l e) (w : World) :
    Calls Tryz.prog 8 #[.string s] w fun en w' => ∃ v er, en = .returned (.tuple #[v, er]) ∧ TkR w' w.heap.size v (alL l e) ∧ ErrIs w' er (alC e) (alP e) ∧ Below w.heap.size w w' := by
  refine (all18_any s hs hl w).mono ?_
  cases e with
  | none =>
    rintro en w' ⟨v, rfl, h1, h2⟩
    exact ⟨v, _, rfl, h1, Or.inl ⟨rfl, rfl⟩, h2⟩
  | some p =>
    rintro en w' ⟨er, rfl, h1, h2⟩
    exact ⟨_, er, rfl, TkR.nil _ _, h1, h2⟩
theorem code18_any {w : World} {er : Value} {c p : Int} (h : ErrIs w er c p) (hE : ErrVar w) :
    Calls Tryz.prog 13 #[er] w fun e w' => e = .returned (.int .i64 c) ∧ Below w.heap.size w w' := by
  rcases h with ⟨rfl, rfl⟩ | ⟨_, g, rfl, hF⟩
  · exact codeNil_any w
  · exact codeFault_any hF hE
theorem place18_any {w : World} {er : Value} {c p : Int} (h : ErrIs w er c p) (h0 : c = 0 → p = -1) (hE : ErrVar w) :
    Calls Tryz.prog 14 #[er] w fun e w' => e = .returned (.int .i64 p) ∧ Below w.heap.size w w' := by
  rcases h with ⟨rfl, rfl⟩ | ⟨_, g, rfl, hF⟩
  · rw [h0 rfl]
    exact placeNil_any w
  · exact placeFault_any hF hE
end Go.Proofs.YtfgpjplfplbcdaaGreatDoor
