import Derived.Lib.BufferRead
import Derived.Test.YtjnmgjcmagnkeabGreatDoorPt5
import Derived.Test.YtjnmgjcmagnkeabGreatDoorPt18
namespace Go.Proofs.YtjnmgjcmagnkeabGreatDoor
open Go.ChangeShapes Go.WideShapes Go.ChangeAt Go.RowKit
open Lx
set_option linter.unusedVariables false
namespace Lx
def intb (l : B) : List Int:=l.map fun b => (b.toNat : Int)
theorem Qkn (l : B) : (intb l).length = l.length:=by unfold intb; rw [List.length_map]
end Lx
theorem Qqd : (Tryz.prog.info? 5).map (fun i => (i.zero,i.size,i.bytes)) = some (some (.int .u8 0),1,1):=by kernel_rfl
theorem conv9b {w : World} {base : Nat} {v : Value} {l : B} (h : Own .u8 w base 5 v (intb l)) :
  ∃ (a : Option Addr) (n c : Nat),v = .slice a n c ∧ (convert 96 9 (.slice a n c)).run Tryz.prog w = .ok (.string (str l)) w:=by
 obtain ⟨oa,oc,rfl,hr⟩:=h.reads
 refine ⟨_,_,_,rfl,?_⟩
 obtain ⟨_,_,hl,hr⟩:=hr
 rw [Qkn] at *
 by_cases hz : l = []
 ·subst hz
  cases oa with
  | none =>
   have:=Lib.run_convert_nil_bytes (P:=Tryz.prog) w 96 9 5 oc Tryz.underlying96 Tryz.underlying5 Tryz.underlying9
   exact this
  | some a => exact run_convert_bytes_back (P:=Tryz.prog) w 96 9 5 a oc [] Tryz.underlying96 Tryz.underlying5 Tryz.underlying9 (fun j hj => absurd hj (Nat.not_lt_zero _))
 ·rcases hr with h0 | ⟨g,off,rfl,hg,hc⟩
  ·exact absurd (List.length_eq_zero_iff.mp h0) hz
  ·refine run_convert_bytes_back (P:=Tryz.prog) w 96 9 5 ⟨g,off,none⟩ oc l Tryz.underlying96 Tryz.underlying5 Tryz.underlying9 (fun j hj => ?_)
   have ea : (⟨g,off,none⟩ : Addr).add j = ⟨g,off + j,none⟩:=by
    unfold Addr.add
    by_cases hi0 : j = 0
    ·subst hi0; simp
    ·simp [hi0]
   rw [ea,hc j hj]
   congr 2
   unfold intb
   rw [List.getD_eq_getElem?_getD,List.getElem?_map,List.getElem?_eq_getElem hj]
   rfl
end Go.Proofs.YtjnmgjcmagnkeabGreatDoor
