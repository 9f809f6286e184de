import Derived.Test.YtienpliknhkbjaaGreatDoorRows
import Derived.Deep.RegionHeld3
import Derived.ProofKit
/- Of no package: what may come up in any order, told by states: each step leads from a state to one that has one step fewer left. -/
namespace Go.Proofs.YtienpliknhkbjaaGreatDoor
open Go.ChangeShapes Go.WideShapes Go.ChangeAt Go.RowKit
/-- the steps from one state -/
def Steps (P : Program) (ops : Array Oper) (Q : Exit → Act → World → Prop) (K : Nat → Act → World → Prop) (a : Act) (w : World) (rs : List Nat) : Prop := ∀ i ∈ rs, wpOp P ops Q i (K i) a w
theorem Steps.nil {P : Program} {ops : Array Oper} {Q : Exit → Act → World → Prop} {K : Nat → Act → World → Prop} {a : Act} {w : World} : Steps P ops Q K a w [] := fun _ h => by cases h
theorem Steps.cons {P : Program} {ops : Array Oper} {Q : Exit → Act → World → Prop} {K : Nat → Act → World → Prop} {a : Act} {w : World} {i : Nat} {o : Oper} {rs : List Nat} (ho : ops[i]? = some o)
    (h : ∀ K' : Act → World → Prop, Shut (∀ a w, K i a w → K' a w) → if Region.wanted o (yielded ops a.tmps) = true then Oper.wp P o a w K' Q else K' (a.put o.dst undef) w)
    (hs : Steps P ops Q K a w rs) : Steps P ops Q K a w (i :: rs) := fun j hj => by
  rcases List.mem_cons.1 hj with rfl | hj
  · exact wpOp_step ho (fun K' hK => h K' hK)
  · exact hs j hj
end Go.Proofs.YtienpliknhkbjaaGreatDoor

