/- plumbref02: Sub, From, Word. -/
import Derived.Test.YtbdljmboilapeaaRefAdd
namespace Go.Proofs.Ytbdljmboilapeaa
open Go.ChangeShapes Go.WideShapes Go.ChangeAt Go.RowKit
open Na
set_option linter.unusedVariables false

namespace Na
def subE (A B : Int) : Int := if A < B then 20 else resE (A - B)
def subL (A B : Int) : List Int := if A < B then [] else resL (A - B)
def SubInv (xs ys : List Int) (k : Nat) (lent : Int) (fs : List Int) : Prop := Dg 65536 fs ∧ fs.length = k ∧ (lent = 0 ∨ lent = 1) ∧ val 65536 fs + 65536 ^ k * (val 65536 (xs.drop k) - val 65536 (ys.drop k) - lent) = val 65536 xs - val 65536 ys
theorem sub_start (xs ys : List Int) : SubInv xs ys 0 0 [] := ⟨Dg.nil _, rfl, Or.inl rfl, by simp [val]⟩
theorem sub_step {xs ys fs : List Int} {k : Nat} {lent v l2 : Int} (hx : Dg 65536 xs) (hy : Dg 65536 ys) (h : SubInv xs ys k lent fs) (hv : 0 ≤ v ∧ v < 65536) (hl : l2 = 0 ∨ l2 = 1) (e : xs.getD k 0 - lent - ys.getD k 0 = v - 65536 * l2) :
    SubInv xs ys (k + 1) l2 (fs ++ [v]) := by
  obtain ⟨h1, h2, h3, h4⟩ := h
  refine ⟨h1.append (Dg.one hv), by rw [List.length_append, h2]; rfl, hl, ?_⟩
  rw [val_append, h2, ← h4, drop_step (ds := xs) (i := k), drop_step (ds := ys) (i := k), Int.pow_succ]
  have e4 : val 65536 [v] = v := by simp [val]
  rw [e4]
  generalize val 65536 (xs.drop (k + 1)) = V
  generalize val 65536 (ys.drop (k + 1)) = U
  generalize (65536 : Int) ^ k = P
  generalize xs.getD k 0 = x at *
  generalize ys.getD k 0 = y at *
  have : x = v - 65536 * l2 + lent + y := by omega
  subst this
  grind
theorem sub_done {xs ys fs : List Int} {k : Nat} {lent : Int} (h : SubInv xs ys k lent fs) (hx : xs.length ≤ k) (hy : ys.length ≤ k) (hle : val 65536 ys ≤ val 65536 xs) : val 65536 fs = val 65536 xs - val 65536 ys := by
  obtain ⟨h1, h2, h3, h4⟩ := h
  rw [List.drop_of_length_le hx, List.drop_of_length_le hy, val_nil] at h4
  have l := val_lt (B := 65536) (by omega) h1
  rw [h2] at l
  rcases h3 with rfl | rfl
  · simpa using h4
  · have : (65536 : Int) ^ k * (0 - 0 - 1) = - 65536 ^ k := by grind
    rw [this] at h4
    omega
end Na

end Go.Proofs.Ytbdljmboilapeaa
