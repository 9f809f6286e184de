/- plumbref02: compare, Cmp. -/
import Derived.Test.YtbdljmboilapeaaRefPlus
namespace Go.Proofs.Ytbdljmboilapeaa
open Go.ChangeShapes Go.WideShapes Go.ChangeAt Go.RowKit
open Na
set_option linter.unusedVariables false

namespace Na
def ordN (a b : Int) : Int := if a < b then -1 else if b < a then 1 else 0
theorem ordN_lt {a b : Int} (h : a < b) : ordN a b = -1 := by unfold ordN; rw [if_pos h]
theorem ordN_gt {a b : Int} (h : b < a) : ordN a b = 1 := by unfold ordN; rw [if_neg (by omega), if_pos h]
theorem ordN_eq {a b : Int} (h : a = b) : ordN a b = 0 := by unfold ordN; rw [if_neg (by omega), if_neg (by omega)]
theorem dig_last {B : Nat} (hB : 2 ≤ B) (n : Nat) (h : n ≠ 0) : ∃ zs x, dig B n = zs ++ [x] ∧ x ≠ 0 := by
  induction n using Nat.strongRecOn with
  | _ n ih =>
    rw [dig_step hB h]
    by_cases e : n / B = 0
    · rw [e, dig_zero]
      refine ⟨[], _, rfl, ?_⟩
      have : n % B = n := Nat.mod_eq_of_lt ((Nat.div_eq_zero_iff_lt (by omega)).mp e)
      omega
    · obtain ⟨zs, x, hz, hx⟩ := ih (n / B) (Nat.div_lt_self (by omega) hB) e
      exact ⟨_ :: zs, x, by rw [hz]; rfl, hx⟩
theorem dig_ge {N : Int} (h : 0 < N) : (65536 : Int) ^ ((digs N).length - 1) ≤ N := by
  obtain ⟨zs, x, hz, hx⟩ := dig_last (B := 65536) (by omega) N.toNat (by omega)
  have hz' : digs N = zs ++ [x] := hz
  have dg := Dg_digs N
  have v := val_digs (N := N) (by omega)
  rw [hz'] at dg v ⊢
  have gx := dg x (List.mem_append_right _ (by simp))
  have gz : Dg 65536 zs := fun y hy => dg y (List.mem_append_left _ hy)
  have v0 := val_nonneg (B := 65536) (by omega) gz
  rw [val_append] at v
  have e : val 65536 [x] = x := by simp [val]
  rw [e] at v
  have l : (zs ++ [x]).length - 1 = zs.length := by simp
  rw [l]
  have p : 0 < (65536 : Int) ^ zs.length := Int.pow_pos (by omega)
  have m : (65536 : Int) ^ zs.length * 1 ≤ 65536 ^ zs.length * x := Int.mul_le_mul_of_nonneg_left (by omega) (by omega)
  omega
theorem len_lt {A B : Int} (hA : 0 ≤ A) (hB : 0 ≤ B) (h : (digs A).length < (digs B).length) : A < B := by
  have hb : 0 < B := by
    by_cases e : B = 0
    · subst e; simp [digs, dig_zero] at h
    · omega
  have g := dig_ge hb
  have l := val_lt (B := 65536) (by omega) (Dg_digs A)
  rw [val_digs hA] at l
  have m : (65536 : Int) ^ (digs A).length ≤ 65536 ^ ((digs B).length - 1) := by
    have c1 : ((65536 ^ (digs A).length : Nat) : Int) = (65536 : Int) ^ (digs A).length := by simp
    have c2 : ((65536 ^ ((digs B).length - 1) : Nat) : Int) = (65536 : Int) ^ ((digs B).length - 1) := by simp
    have : 65536 ^ (digs A).length ≤ 65536 ^ ((digs B).length - 1) := Nat.pow_le_pow_right (by omega) (by omega)
    omega
  omega
theorem val_at {xs : List Int} {i : Nat} (h : i < xs.length) : val 65536 xs = val 65536 (xs.take i) + 65536 ^ i * (xs.getD i 0 + 65536 * val 65536 (xs.drop (i + 1))) := by
  have e := congrArg (val 65536) (List.take_append_drop i xs).symm
  rw [val_append, List.length_take, Nat.min_eq_left (by omega), val_drop h] at e
  exact e
theorem digit_lt {xs ys : List Int} {i : Nat} (hx : Dg 65536 xs) (hy : Dg 65536 ys) (h1 : i < xs.length) (h2 : i < ys.length) (hd : xs.drop (i + 1) = ys.drop (i + 1)) (h : xs.getD i 0 < ys.getD i 0) : val 65536 xs < val 65536 ys := by
  rw [val_at h1, val_at h2, hd]
  have a := val_lt (B := 65536) (by omega) (hx.take i)
  rw [List.length_take, Nat.min_eq_left (by omega)] at a
  have b := val_nonneg (B := 65536) (by omega) (hy.take i)
  have p : 0 < (65536 : Int) ^ i := Int.pow_pos (by omega)
  generalize val 65536 (ys.drop (i + 1)) = V
  have m : (65536 : Int) ^ i * (xs.getD i 0 + 65536 * V + 1) ≤ 65536 ^ i * (ys.getD i 0 + 65536 * V) := Int.mul_le_mul_of_nonneg_left (by omega) (by omega)
  rw [Int.mul_add, Int.mul_one] at m
  omega
theorem drop_next {xs ys : List Int} {i : Nat} (h1 : i < xs.length) (h2 : i < ys.length) (hd : xs.drop (i + 1) = ys.drop (i + 1)) (h : xs.getD i 0 = ys.getD i 0) : xs.drop i = ys.drop i := by
  rw [List.drop_eq_getElem_cons h1, List.drop_eq_getElem_cons h2, hd]
  have e1 : xs.getD i 0 = xs[i] := by simp [List.getD_eq_getElem?_getD, List.getElem?_eq_getElem h1]
  have e2 : ys.getD i 0 = ys[i] := by simp [List.getD_eq_getElem?_getD, List.getElem?_eq_getElem h2]
  rw [← e1, ← e2, h]
end Na

theorem ret_i {k : IntKind} {a b : Int} (h : a = b) : Ending.returned (.int k a) = .returned (.int k b) := by rw [h]
end Go.Proofs.Ytbdljmboilapeaa
