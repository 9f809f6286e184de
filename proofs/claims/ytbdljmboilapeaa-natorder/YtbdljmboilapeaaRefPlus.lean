/- plumbref02: plus, compare. -/
import Derived.Test.YtbdljmboilapeaaRefCarry
namespace Go.Proofs.Ytbdljmboilapeaa
open Go.ChangeShapes Go.WideShapes Go.ChangeAt Go.RowKit
open Na
set_option linter.unusedVariables false

namespace Na
def PlusInv (xs ys : List Int) (k : Nat) (fs : List Int) : Prop := Bd 131070 fs ∧ fs.length = k ∧ val 65536 fs + 65536 ^ k * (val 65536 (xs.drop k) + val 65536 (ys.drop k)) = val 65536 xs + val 65536 ys
theorem plus_start (xs ys : List Int) : PlusInv xs ys 0 [] := ⟨Bd.nil _, rfl, by simp [val]⟩
theorem getD_out {xs : List Int} {k : Nat} (h : xs.length ≤ k) : xs.getD k 0 = 0 := by simp [List.getD_eq_getElem?_getD, List.getElem?_eq_none h]
theorem Dg.getAny {xs : List Int} (h : Dg 65536 xs) (k : Nat) : 0 ≤ xs.getD k 0 ∧ xs.getD k 0 ≤ 65535 := by
  by_cases hk : k < xs.length
  · have := h.get hk; omega
  · rw [getD_out (by omega)]; omega
theorem plus_step {xs ys fs : List Int} {k : Nat} (hx : Dg 65536 xs) (hy : Dg 65536 ys) (h : PlusInv xs ys k fs) : PlusInv xs ys (k + 1) (fs ++ [xs.getD k 0 + ys.getD k 0]) := by
  obtain ⟨h1, h2, h3⟩ := h
  have gx := hx.getAny k
  have gy := hy.getAny k
  refine ⟨h1.append (Bd.one (by omega)), by rw [List.length_append, h2]; rfl, ?_⟩
  rw [val_append, h2, ← h3, drop_step (ds := xs) (i := k), drop_step (ds := ys) (i := k), Int.pow_succ]
  have e4 : val 65536 [xs.getD k 0 + ys.getD k 0] = xs.getD k 0 + ys.getD k 0 := by simp [val]
  rw [e4]
  generalize val 65536 (xs.drop (k + 1)) = V
  generalize val 65536 (ys.drop (k + 1)) = U
  generalize (65536 : Int) ^ k = P
  grind
theorem plus_done {xs ys fs : List Int} {k : Nat} (h : PlusInv xs ys k fs) (hx : xs.length ≤ k) (hy : ys.length ≤ k) : val 65536 fs = val 65536 xs + val 65536 ys := by
  obtain ⟨h1, h2, h3⟩ := h
  rw [List.drop_of_length_le hx, List.drop_of_length_le hy, val_nil] at h3
  simpa using h3
end Na

end Go.Proofs.Ytbdljmboilapeaa
