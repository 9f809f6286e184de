import Derived.Lib.ConvBytes
import Derived.Lib.AtoiErrMem
import Derived.Deep.RegionHeld3
import Derived.Test.YtjnmgjcmagnkeabGreatDoorPt6
import Derived.Test.YtjnmgjcmagnkeabGreatDoorPt24
namespace Go.Proofs.YtjnmgjcmagnkeabGreatDoor
open Go.ChangeShapes Go.WideShapes Go.ChangeAt Go.RowKit
open Lx
set_option linter.unusedVariables false
namespace Lx
def BW (w : World) (g : Nat) (l : B) : Prop:=g < w.heap.size ∧ (∀ j,j < l.length → w.cell? ⟨g,j,none⟩ = some (.int .u8 ((l.getD j 0).toNat : Int))) ∧ ∀ j,j < l.length → w.frozen? ⟨g,j,none⟩ = false
theorem BW.set {w : World} {g : Nat} {l : B} (h : BW w g l) {j : Nat} (hj : j < l.length) (x : UInt8) : BW (w.setCell ⟨g,j,none⟩ (.int .u8 (x.toNat : Int))) g (l.set j x):=by
 refine ⟨by simpa [World.setCell] using h.1,fun i hi => ?_,fun i hi => ?_⟩
 ·rw [List.length_set] at hi
  by_cases e : i = j
  ·subst e
   rw [World.cell?_setCell_same _ _ _ (h.2.1 i hi)]
   simp [List.getD_eq_getElem?_getD,hi]
  ·rw [World.cell?_setCell_other _ _ _ _ (by simp),h.2.1 i hi]
   simp [List.getD_eq_getElem?_getD,Ne.symm e]
 ·rw [List.length_set] at hi
  rw [World.frozen?_setCell]; exact h.2.2 i hi
theorem BW.conv {w : World} {g cap n : Nat} {l : B} (h : BW w g l) (hn : n = l.length) : (convert 96 9 (.slice (some ⟨g,0,none⟩) n cap)).run Tryz.prog w = .ok (.string (str l)) w:=by
 subst hn
 refine run_convert_bytes_back (P:=Tryz.prog) w 96 9 5 ⟨g,0,none⟩ cap l Tryz.underlying96 Tryz.underlying5 Tryz.underlying9 (fun j hj => ?_)
 have ea : (⟨g,0,none⟩ : Addr).add j = ⟨g,j,none⟩:=by
  unfold Addr.add
  by_cases hi0 : j = 0
  ·subst hi0; simp
  ·simp [hi0]
 rw [ea,h.2.1 j hj,List.getD_eq_getElem?_getD,List.getElem?_eq_getElem hj]
 rfl
end Lx
end Go.Proofs.YtjnmgjcmagnkeabGreatDoor
