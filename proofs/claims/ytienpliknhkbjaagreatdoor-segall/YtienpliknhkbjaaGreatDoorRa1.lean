import Derived.Test.YtienpliknhkbjaaGreatDoorRows
import Derived.Deep.RegionHeld3
import Derived.ProofKit
import Derived.Test.YtienpliknhkbjaaGreatDoorRp1
import Derived.Test.YtienpliknhkbjaaGreatDoorRp2
import Derived.Test.YtienpliknhkbjaaGreatDoorRp3
import Derived.Test.YtienpliknhkbjaaGreatDoorRp4
import Derived.Test.YtienpliknhkbjaaGreatDoorRp5
import Derived.Test.YtienpliknhkbjaaGreatDoorRp6
import Derived.Test.YtienpliknhkbjaaGreatDoorRp7
import Derived.Test.YtienpliknhkbjaaGreatDoorRp8
import Derived.Test.YtienpliknhkbjaaGreatDoorRp9
import Derived.Test.YtienpliknhkbjaaGreatDoorRp10
import Derived.Test.YtienpliknhkbjaaGreatDoorRp11
import Derived.Test.YtienpliknhkbjaaGreatDoorRp12
import Derived.Test.YtienpliknhkbjaaGreatDoorRp13
import Derived.Test.YtienpliknhkbjaaGreatDoorRp14
import Derived.Test.YtienpliknhkbjaaGreatDoorRp15
/- Of no package: what may come up in any order, told by states: each step leads from a state to one that has one step fewer left. -/
namespace Go.Proofs.YtienpliknhkbjaaGreatDoor
open Go.ChangeShapes Go.WideShapes Go.ChangeAt Go.RowKit
theorem wpAnyH_take' {P : Program} {md : Region.Mode} {ops : Array Oper} {Q : Exit → Act → World → Prop} {S : World → Prop} {i : Nat} {oi : Oper} {v : Value} {fuel : Nat} {listed : Array Bool} {a : Act} {w : World} (d : Option Tmp) (hi : ops[i]? = some oi) (hd : oi.dst = d)
    (hs : Region.noSelect ops = true) (hf : Region.free md ops listed i = true) (hr : (Region.ready md ops listed).contains i = true)
    (hQ : ∀ c a w, Q (.panic c) (a.put d v) w → Q (.panic c) a w) (hy : YieldsIf P ops S oi v a) (hS : S w)
    (h : wpAnyH P md ops Q S fuel (listed.setIfInBounds i true) (a.put d v) w) : wpAnyH P md ops Q S (fuel + 1) listed a w := by
  subst hd
  exact wpAnyH_take hi hs hf hr hQ hy hS h
end Go.Proofs.YtienpliknhkbjaaGreatDoor

