/- plumbref03: Add, Sub, Shl: what holds on the way. -/
import Derived.Test.YtbbmoaipilmmdabGreatDoorBaseH
namespace Go.Proofs.YtbbmoaipilmmdabGreatDoor
open Go.ChangeShapes Go.WideShapes Go.ChangeAt Go.RowKit
open Na Ar
set_option linter.unusedVariables false
namespace Na
theorem num_snoc (zs : List Int) (x : Int) : num (zs ++ [x]) = num zs + 18446744073709551616 ^ zs.length * x := by
  show val _ _ = _
  rw [val_append]; simp [val]; rfl
theorem Ws.snoc {zs : List Int} {x : Int} (h : Ws zs) (hx : U x) : Ws (zs ++ [x]) := h.append (Dg.one hx)
def adW (x y c : Int) : Int := (x + y + c) % 18446744073709551616
def adC (x y c : Int) : Int := (x + y + c) / 18446744073709551616
def AdI (xs ys : List Int) (k : Nat) (c : Int) (zs : List Int) : Prop := Ws zs ∧ zs.length = k ∧ (c = 0 ∨ c = 1) ∧
  num zs + 18446744073709551616 ^ k * c = num (xs.take k) + num (ys.take k)
theorem adI_start (xs ys : List Int) : AdI xs ys 0 0 [] := ⟨Dg.nil _, rfl, Or.inl rfl, by simp [num, val]⟩
theorem adI_step {xs ys zs : List Int} {k : Nat} {c : Int} (h : AdI xs ys k c zs) (hx : Ws xs) (hy : Ws ys) (h1 : k < xs.length) (h2 : k < ys.length) : AdI xs ys (k + 1) (adC (xs.getD k 0) (ys.getD k 0) c) (zs ++ [adW (xs.getD k 0) (ys.getD k 0) c]) := by
  obtain ⟨g1, g2, g3, g4⟩ := h
  have ux : U (xs.getD k 0) := hx.get h1
  have uy : U (ys.getD k 0) := hy.get h2
  refine ⟨g1.snoc (by unfold adW U; omega), by simp [g2], by unfold adC; unfold U at *; omega, ?_⟩
  have t1 : num (xs.take (k + 1)) = num (xs.take k) + 18446744073709551616 ^ k * xs.getD k 0 := take_valB h1
  have t2 : num (ys.take (k + 1)) = num (ys.take k) + 18446744073709551616 ^ k * ys.getD k 0 := take_valB h2
  rw [num_snoc, g2, t1, t2, Int.pow_succ]
  have e : adW (xs.getD k 0) (ys.getD k 0) c + 18446744073709551616 * adC (xs.getD k 0) (ys.getD k 0) c = xs.getD k 0 + ys.getD k 0 + c := by unfold adW adC; omega
  generalize adW (xs.getD k 0) (ys.getD k 0) c = lo at *
  generalize adC (xs.getD k 0) (ys.getD k 0) c = hi at *
  generalize xs.getD k 0 = x at *
  generalize ys.getD k 0 = y at *
  generalize (18446744073709551616 : Int) ^ k = P at *
  have e2 : lo = x + y + c - 18446744073709551616 * hi := by omega
  subst e2
  grind
theorem adI_done {xs ys zs : List Int} {k : Nat} {c : Int} (h : AdI xs ys k c zs) (h1 : xs.length ≤ k) (h2 : ys.length ≤ k) : Ws (zs ++ [c]) ∧ num (zs ++ [c]) = num xs + num ys := by
  obtain ⟨g1, g2, g3, g4⟩ := h
  refine ⟨g1.snoc (by unfold U; omega), ?_⟩
  rw [num_snoc, g2, g4, List.take_of_length_le h1, List.take_of_length_le h2]
def SuI (xs ys : List Int) (k : Nat) (b : Int) (zs : List Int) : Prop := Ws zs ∧ zs.length = k ∧ (b = 0 ∨ b = 1) ∧
  num zs + num (ys.take k) = num (xs.take k) + 18446744073709551616 ^ k * b
theorem suI_start (xs ys : List Int) : SuI xs ys 0 0 [] := ⟨Dg.nil _, rfl, Or.inl rfl, by simp [num, val]⟩
theorem suI_step {xs ys zs : List Int} {k : Nat} {b : Int} (h : SuI xs ys k b zs) (hx : Ws xs) (hy : Ws ys) (h1 : k < xs.length) (h2 : k < ys.length) : SuI xs ys (k + 1) (sbB (xs.getD k 0) (ys.getD k 0) b) (zs ++ [sbW (xs.getD k 0) (ys.getD k 0) b]) := by
  obtain ⟨g1, g2, g3, g4⟩ := h
  have ux : U (xs.getD k 0) := hx.get h1
  have uy : U (ys.getD k 0) := hy.get h2
  have e := sb_eq ux uy g3
  refine ⟨g1.snoc (by unfold sbW U; omega), by simp [g2], sbB_01 _ _ _, ?_⟩
  have t1 : num (xs.take (k + 1)) = num (xs.take k) + 18446744073709551616 ^ k * xs.getD k 0 := take_valB h1
  have t2 : num (ys.take (k + 1)) = num (ys.take k) + 18446744073709551616 ^ k * ys.getD k 0 := take_valB h2
  rw [num_snoc, g2, t1, t2, Int.pow_succ]
  generalize sbW (xs.getD k 0) (ys.getD k 0) b = lo at *
  generalize sbB (xs.getD k 0) (ys.getD k 0) b = hi at *
  generalize xs.getD k 0 = x at *
  generalize ys.getD k 0 = y at *
  generalize (18446744073709551616 : Int) ^ k = P at *
  have e2 : lo = x - y - b + 18446744073709551616 * hi := by omega
  subst e2
  grind
theorem suI_done {xs ys zs : List Int} {b : Int} (h : SuI xs ys xs.length b zs) (hl : ys.length = xs.length) (hle : num ys ≤ num xs) : num zs = num xs - num ys := by
  obtain ⟨g1, g2, g3, g4⟩ := h
  rw [List.take_of_length_le (Nat.le_refl _), List.take_of_length_le (by omega)] at g4
  have l : num zs < 18446744073709551616 ^ zs.length := val_lt (by omega) g1
  rw [g2] at l
  rcases g3 with rfl | rfl
  · omega
  · omega
def SlI (xs : List Int) (t k : Nat) (c : Int) (zs : List Int) : Prop := Ws zs ∧ zs.length = k ∧ (0 ≤ c ∧ c < 2 ^ t) ∧
  num zs + 18446744073709551616 ^ k * c = num (xs.take k) * 2 ^ t
theorem slI_start (xs : List Int) (t : Nat) : SlI xs t 0 0 [] := ⟨Dg.nil _, rfl, ⟨Int.le_refl _, p2pos t⟩, by simp [num, val]⟩
def slW (x c : Int) (t : Nat) : Int := x * 2 ^ t % 18446744073709551616 + c
def slC (x : Int) (t : Nat) : Int := x / 2 ^ (64 - t)
theorem sl_eq {x c : Int} {t : Nat} (hx : U x) (ht : t ≤ 64) (hc : 0 ≤ c ∧ c < 2 ^ t) : x * 2 ^ t + c = slW x c t + 18446744073709551616 * slC x t ∧ U (slW x c t) ∧ (0 ≤ slC x t ∧ slC x t < 2 ^ t) := by
  have s := pow_split ht
  have p := p2pos t
  have q := p2pos (64 - t)
  have d := Int.mul_ediv_add_emod x (2 ^ (64 - t))
  have m0 := Int.emod_nonneg x (show (2 : Int) ^ (64 - t) ≠ 0 by omega)
  have m1 := Int.emod_lt_of_pos x q
  have c0 : 0 ≤ x / 2 ^ (64 - t) := Int.ediv_nonneg hx.1 (by omega)
  have c1 : x / 2 ^ (64 - t) < 2 ^ t := by
    refine Int.ediv_lt_of_lt_mul q ?_
    rw [Int.mul_comm, s]; exact hx.2
  unfold slW slC
  generalize x / 2 ^ (64 - t) = h at *
  generalize x % 2 ^ (64 - t) = l at *
  generalize (2 : Int) ^ (64 - t) = Q at *
  generalize (2 : Int) ^ t = P at *
  have e1 : x * P = l * P + 18446744073709551616 * h := by rw [← d, ← s]; grind
  have b1 : l * P + P ≤ 18446744073709551616 := by
    have : (l + 1) * P ≤ Q * P := Int.mul_le_mul_of_nonneg_right (by omega) (by omega)
    rw [s, Int.add_mul] at this
    omega
  have b0 : 0 ≤ l * P := Int.mul_nonneg m0 (by omega)
  have e2 : x * P % 18446744073709551616 = l * P := by rw [e1, Int.add_mul_emod_self_left, Int.emod_eq_of_lt (by omega) (by omega)]
  rw [e2]
  refine ⟨by omega, ?_, c0, c1⟩
  unfold U
  omega
theorem slI_step {xs zs : List Int} {t k : Nat} {c : Int} (h : SlI xs t k c zs) (hx : Ws xs) (ht : t ≤ 64) (h1 : k < xs.length) : SlI xs t (k + 1) (slC (xs.getD k 0) t) (zs ++ [slW (xs.getD k 0) c t]) := by
  obtain ⟨g1, g2, g3, g4⟩ := h
  have ux : U (xs.getD k 0) := hx.get h1
  obtain ⟨e, u, b⟩ := sl_eq ux ht g3
  refine ⟨g1.snoc u, by simp [g2], b, ?_⟩
  have t1 : num (xs.take (k + 1)) = num (xs.take k) + 18446744073709551616 ^ k * xs.getD k 0 := take_valB h1
  rw [num_snoc, g2, t1, Int.pow_succ]
  generalize slW (xs.getD k 0) c t = lo at *
  generalize slC (xs.getD k 0) t = hi at *
  generalize xs.getD k 0 = x at *
  generalize (18446744073709551616 : Int) ^ k = P at *
  generalize (2 : Int) ^ t = T at *
  have e2 : lo = x * T + c - 18446744073709551616 * hi := by omega
  subst e2
  grind
theorem slI_done {xs zs : List Int} {t : Nat} {c : Int} (h : SlI xs t xs.length c zs) (ht : t ≤ 64) : Ws (zs ++ [c]) ∧ num (zs ++ [c]) = num xs * 2 ^ t := by
  obtain ⟨g1, g2, g3, g4⟩ := h
  have s := pow_split ht
  have q := p2pos (64 - t)
  refine ⟨g1.snoc ?_, ?_⟩
  · unfold U
    have : (2 : Int) ^ t ≤ 18446744073709551616 := by
      rw [← s]
      have := Int.mul_le_mul_of_nonneg_right (show (1 : Int) ≤ 2 ^ (64 - t) by omega) (Int.le_of_lt (p2pos t))
      omega
    omega
  · rw [num_snoc, g2, g4, List.take_of_length_le (Nat.le_refl _)]
end Na
end Go.Proofs.YtbbmoaipilmmdabGreatDoor
