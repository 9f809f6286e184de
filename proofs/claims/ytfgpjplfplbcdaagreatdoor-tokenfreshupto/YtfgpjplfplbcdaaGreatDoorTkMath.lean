/- Layer 18: tokens of a text, by numbers alone. -/
import Derived.Test.YtfgpjplfplbcdaaGreatDoorLexNum
namespace Go.Proofs.YtfgpjplfplbcdaaGreatDoor
set_option linter.unusedVariables false
open Lx
namespace Tk
def isBl (c : UInt8) : Bool := c == 32 || c == 9 || c == 10 || c == 13
def isLt (c : UInt8) : Bool := (decide (65 ≤ c.toNat) && decide (c.toNat ≤ 90)) || (decide (97 ≤ c.toNat) && decide (c.toNat ≤ 122))
/-- the kind of a byte -/
def kd (c : UInt8) : Int := if isBl c then 1 else if isLt c then 2 else if c = 40 then 3 else if c = 41 then 4 else if c = 44 then 5 else 0
def isK (k : Int) (c : UInt8) : Bool := kd c == k
/-- a capital for a small letter -/
def upB (c : UInt8) : UInt8 := if 97 ≤ c.toNat then c - 32 else c
def nmZ0 : Nm := ⟨0, false, [], 0, []⟩
/-- a token, or a wrong place (kind -1: the place is fr) -/
structure Ct where
  kind : Int
  fr : Nat
  to : Nat
  word : B
  num : Nm
def Ct.move (k : Nat) (c : Ct) : Ct := { c with fr := k + c.fr, to := k + c.to }
def Ct.bad (k : Nat) : Ct := ⟨-1, k, 0, [], nmZ0⟩
/-- may this stand behind a word or a number? -/
def shutB : B → Bool
  | [] => true
  | c :: _ => isBl c || c == 44 || c == 40 || c == 41
/-- a word or number, if it is shut -/
def shutC (r : B) (t : Ct) : Ct := if shutB (r.drop t.to) then t else Ct.bad t.to
/-- the token that begins at a byte -/
def tokB (c : UInt8) (q : B) : Ct :=
  if isLt c then shutC (c :: q) ⟨1, 0, ((c :: q).takeWhile isLt).length, ((c :: q).takeWhile isLt).map upB, nmZ0⟩
  else if c = 40 then ⟨2, 0, 1, [], nmZ0⟩
  else if c = 41 then ⟨3, 0, 1, [], nmZ0⟩
  else if c = 44 then ⟨4, 0, 1, [], nmZ0⟩
  else
    let p := longestL ((c :: q).take 65536)
    if p.kind = 0 then Ct.bad 0 else shutC (c :: q) ⟨5, 0, p.stop, [], numOf p⟩
/-- the token at the beginning of a rest of a text -/
def cutR (r : B) : Ct :=
  match r.dropWhile isBl with
  | [] => ⟨0, r.length, r.length, [], nmZ0⟩
  | c :: q => (tokB c q).move (r.takeWhile isBl).length
/-- all tokens of a rest that begins at place k, ahead of the end; or the wrong place -/
inductive Toks : Nat → B → List Ct → Option Nat → Prop
  | nil {k : Nat} {r : B} : (cutR r).kind = 0 → Toks k r [] none
  | bad {k : Nat} {r : B} : (cutR r).kind = -1 → Toks k r [] (some (k + (cutR r).fr))
  | cons {k : Nat} {r : B} {l : List Ct} {e : Option Nat} : 0 < (cutR r).kind → Toks (k + (cutR r).to) (r.drop (cutR r).to) l e → Toks k r ((cutR r).move k :: l) e
end Tk
end Go.Proofs.YtfgpjplfplbcdaaGreatDoor
