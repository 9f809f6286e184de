/- package quot: divide, from the label guess on: both. -/
import Derived.Test.YthjfjpdgjhidfabGreatQuotDiv0b
namespace Go.Proofs.YthjfjpdgjhidfabGreat
open Go.ChangeShapes Go.WideShapes Go.ChangeAt Go.RowKit
open Na Ar
set_option linter.unusedVariables false
theorem dv0 {p : DvP} (ok : DvOk p) {N m : Nat} {a : Act} {w : World} (h : DvJ p 0 m a w) (hm : m ≤ N) :
    (dvTail 0).wp Tryz.prog (jumpsTo (fun l a' w' => ∃ n', n' < N ∧ DvJ p l n' a' w') (bodyPost Tryz.prog Tryz.f65 (DvPost p))) a w := by
  obtain ⟨j, us, qs, q, r, hj, _, rfl, hf, hM, hI⟩ := h
  by_cases hlt : us.getD (j + (p.k + 2)) 0 < p.vs.getD (p.k + 1) 0
  · exact dv0a ok hj hm hf hM hI hlt
  · exact dv0b ok hj hm hf hM hI hlt
end Go.Proofs.YthjfjpdgjhidfabGreat
