/- plumbref02: Sum. -/
import Derived.Test.YtbdljmboilapeaaRefShr
namespace Go.Proofs.Ytbdljmboilapeaa
open Go.ChangeShapes Go.WideShapes Go.ChangeAt Go.RowKit
open Na
set_option linter.unusedVariables false

/-- a slice of lists of words reads as these -/
def RowsAt (w : World) (a : Option Addr) (n : Nat) (xss : List (List Int)) : Prop :=
  xss.length = n ∧ (n = 0 ∨ ∃ b off, a = some ⟨b, off, none⟩ ∧ b < w.heap.size ∧ ∀ i, i < n → ∃ ai ci, w.cell? ⟨b, off + i, none⟩ = some (.slice ai (xss.getD i []).length ci) ∧ RowAt .u64 w ai (xss.getD i []).length (xss.getD i []))
namespace Na
/-- the sum of all -/
def sumN (xss : List (List Int)) : Int := (xss.map num).sum
theorem sum_next {xss : List (List Int)} {k : Nat} (h : k < xss.length) : sumN (xss.take (k + 1)) = sumN (xss.take k) + num (xss.getD k []) := by
  unfold sumN
  rw [List.take_succ_eq_append_getElem h, List.map_append, List.sum_append]
  simp [List.getD_eq_getElem?_getD, List.getElem?_eq_getElem h]
/-- each is a list of words, none too long -/
def Wss (xss : List (List Int)) : Prop := ∀ xs ∈ xss, Ws xs ∧ xs.length ≤ 4000000
theorem Wss.get {xss : List (List Int)} (h : Wss xss) {k : Nat} (hk : k < xss.length) : Ws (xss.getD k []) ∧ (xss.getD k []).length ≤ 4000000 := by
  have e : xss.getD k [] = xss[k] := by simp [List.getD_eq_getElem?_getD, List.getElem?_eq_getElem hk]
  rw [e]; exact h _ (List.getElem_mem hk)
def Wss0 (xss : List (List Int)) : Prop := ∀ xs ∈ xss, Ws xs ∧ xs.length ≤ 10000
theorem Wss0.get {xss : List (List Int)} (h : Wss0 xss) {k : Nat} (hk : k < xss.length) : Ws (xss.getD k []) ∧ (xss.getD k []).length ≤ 10000 := by
  have e : xss.getD k [] = xss[k] := by simp [List.getD_eq_getElem?_getD, List.getElem?_eq_getElem hk]
  rw [e]; exact h _ (List.getElem_mem hk)
theorem Wss0.big {xss : List (List Int)} (h : Wss0 xss) : Wss xss := fun y hy => ⟨(h y hy).1, by have := (h y hy).2; omega⟩
theorem sum_bd {xss : List (List Int)} (h : Wss0 xss) {k : Nat} (hk : k ≤ xss.length) : 0 ≤ sumN (xss.take k) ∧ sumN (xss.take k) < 65536 ^ (40000 + k) := by
  induction k with
  | zero =>
    have e : sumN (xss.take 0) = 0 := rfl
    rw [e]
    exact ⟨Int.le_refl _, Int.pow_pos (by omega)⟩
  | succ k ih =>
    have i := ih (by omega)
    have g := h.get (k := k) (by omega)
    have n0 := num_nonneg g.1
    have n1 := num_lt g.1
    have m1 := pow_mono (show 4 * (xss.getD k []).length ≤ 40000 + k by omega)
    rw [sum_next (by omega), ← Nat.add_assoc, Int.pow_succ]
    generalize (65536 : Int) ^ (40000 + k) = P at *
    generalize (65536 : Int) ^ (4 * (xss.getD k []).length) = Q at *
    omega
end Na

end Go.Proofs.Ytbdljmboilapeaa
