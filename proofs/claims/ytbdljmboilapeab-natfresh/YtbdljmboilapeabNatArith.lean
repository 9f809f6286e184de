/- Plain numbers: lists of digits in a base, the lowest first. -/
import Derived.Test.YtbdljmboilapeabSlices
namespace Go.Proofs.Ytbdljmboilapeab.Na
set_option linter.unusedVariables false

/-- the number of a list of digits -/
def val (B : Int) : List Int → Int
  | [] => 0
  | x :: xs => x + B * val B xs
/-- each is a digit -/
def Dg (B : Int) (xs : List Int) : Prop := ∀ x ∈ xs, 0 ≤ x ∧ x < B
/-- without zeros at the high end -/
def strip : List Int → List Int
  | [] => []
  | x :: xs => if strip xs = [] ∧ x = 0 then [] else x :: strip xs
/-- the digits of a number, the highest not 0 -/
def dig (B : Nat) (n : Nat) : List Int :=
  if h : n = 0 ∨ B < 2 then [] else ((n % B : Nat) : Int) :: dig B (n / B)
termination_by n
decreasing_by exact Nat.div_lt_self (by omega) (by omega)

theorem val_nil (B : Int) : val B [] = 0 := rfl
theorem val_cons (B x : Int) (xs : List Int) : val B (x :: xs) = x + B * val B xs := rfl
theorem Dg.tail {B x : Int} {xs : List Int} (h : Dg B (x :: xs)) : Dg B xs := fun y hy => h y (List.mem_cons_of_mem _ hy)
theorem Dg.head {B x : Int} {xs : List Int} (h : Dg B (x :: xs)) : 0 ≤ x ∧ x < B := h x List.mem_cons_self
theorem Dg.append {B : Int} {xs ys : List Int} (h : Dg B xs) (k : Dg B ys) : Dg B (xs ++ ys) := fun z hz => by
  rcases List.mem_append.mp hz with hz | hz
  · exact h z hz
  · exact k z hz
theorem Dg.one {B x : Int} (h : 0 ≤ x ∧ x < B) : Dg B [x] := fun y hy => by simp at hy; subst hy; exact h
theorem Dg.nil (B : Int) : Dg B [] := fun y hy => by simp at hy
theorem Dg.take {B : Int} {xs : List Int} (h : Dg B xs) (k : Nat) : Dg B (xs.take k) := fun y hy => h y (List.mem_of_mem_take hy)
theorem Dg.drop {B : Int} {xs : List Int} (h : Dg B xs) (k : Nat) : Dg B (xs.drop k) := fun y hy => h y (List.mem_of_mem_drop hy)
theorem Dg.get {B : Int} {xs : List Int} (h : Dg B xs) {i : Nat} (hi : i < xs.length) : 0 ≤ xs.getD i 0 ∧ xs.getD i 0 < B := by
  have e : xs.getD i 0 = xs[i] := by simp [List.getD_eq_getElem?_getD, List.getElem?_eq_getElem hi]
  rw [e]; exact h _ (List.getElem_mem hi)
theorem val_nonneg {B : Int} (hB : 0 ≤ B) {xs : List Int} (h : Dg B xs) : 0 ≤ val B xs := by
  induction xs with
  | nil => exact Int.le_refl _
  | cons x xs ih =>
    rw [val_cons]
    have h1 := h.head
    have h2 := Int.mul_nonneg hB (ih h.tail)
    omega
theorem dig_zero (B : Nat) : dig B 0 = [] := by unfold dig; simp
theorem dig_step {B n : Nat} (hB : 2 ≤ B) (hn : n ≠ 0) : dig B n = ((n % B : Nat) : Int) :: dig B (n / B) := by
  rw [dig, dif_neg (by omega)]
theorem dig_nil {B n : Nat} (hB : 2 ≤ B) : dig B n = [] ↔ n = 0 := by
  constructor
  · intro h
    by_cases e : n = 0
    · exact e
    · rw [dig_step hB e] at h; simp at h
  · intro h; rw [h, dig_zero]
/-- digits without zeros at the high end are the number's -/
theorem strip_dig {B : Nat} (hB : 2 ≤ B) {xs : List Int} (h : Dg B xs) : strip xs = dig B (val B xs).toNat := by
  induction xs with
  | nil => simp [strip, val, dig_zero]
  | cons x xs ih =>
    have i := ih h.tail
    have h1 := h.head
    have v0 := val_nonneg (B := (B : Int)) (by omega) h.tail
    have m0 : 0 ≤ (B : Int) * val B xs := Int.mul_nonneg (by omega) v0
    rw [val_cons]
    unfold strip
    by_cases e : x + (B : Int) * val B xs = 0
    · have x0 : x = 0 := by omega
      have y0 : (B : Int) * val B xs = 0 := by omega
      have v : val B xs = 0 := by
        rcases Int.mul_eq_zero.mp y0 with q | q
        · omega
        · exact q
      rw [e, i, v]
      simp [dig_zero, x0]
    · have n0 : (x + (B : Int) * val B xs).toNat ≠ 0 := by omega
      have d1 : (x + (B : Int) * val B xs) / B = val B xs := by
        rw [Int.add_mul_ediv_left _ _ (by omega), Int.ediv_eq_zero_of_lt h1.1 h1.2]; omega
      have d2 : (x + (B : Int) * val B xs) % B = x := by
        rw [Int.add_mul_emod_self_left, Int.emod_eq_of_lt h1.1 h1.2]
      have c1 : (((x + (B : Int) * val B xs).toNat / B : Nat) : Int) = val B xs := by
        rw [Int.natCast_ediv, Int.toNat_of_nonneg (by omega), d1]
      have c2 : (((x + (B : Int) * val B xs).toNat % B : Nat) : Int) = x := by
        rw [Int.natCast_emod, Int.toNat_of_nonneg (by omega), d2]
      have c3 : (x + (B : Int) * val B xs).toNat / B = (val B xs).toNat := by omega
      rw [dig_step hB n0, c2, c3, ← i]
      have ne : ¬ (strip xs = [] ∧ x = 0) := by
        rintro ⟨s, x0⟩
        rw [i, dig_nil hB] at s
        have : val B xs = 0 := by omega
        rw [this] at e
        simp [x0] at e
      rw [if_neg ne]
theorem val_append (B : Int) (xs ys : List Int) : val B (xs ++ ys) = val B xs + B ^ xs.length * val B ys := by
  induction xs with
  | nil => simp [val]
  | cons x xs ih =>
    rw [List.cons_append, val_cons, val_cons, ih, List.length_cons, Int.pow_succ, Int.mul_add]
    have : B * (B ^ xs.length * val B ys) = B ^ xs.length * B * val B ys := by grind
    omega
theorem strip_length (xs : List Int) : (strip xs).length ≤ xs.length := by
  induction xs with
  | nil => exact Nat.le_refl _
  | cons x xs ih =>
    unfold strip; split
    · simp
    · simp; exact ih
theorem strip_val (B : Int) (xs : List Int) : val B (strip xs) = val B xs := by
  induction xs with
  | nil => rfl
  | cons x xs ih =>
    rw [val_cons]
    unfold strip; split
    · rename_i h
      rw [h.1, val_nil] at ih
      rw [h.2, ← ih, val_nil]; simp
    · rw [val_cons, ih]
theorem strip_zero_end (xs : List Int) : strip (xs ++ [0]) = strip xs := by
  induction xs with
  | nil => simp [strip]
  | cons x xs ih => rw [List.cons_append]; unfold strip; rw [ih]
theorem strip_end (xs : List Int) (x : Int) (h : x ≠ 0) : strip (xs ++ [x]) = xs ++ [x] := by
  induction xs with
  | nil => simp [strip, h]
  | cons y ys ih =>
    rw [List.cons_append]; unfold strip; rw [ih]
    rw [if_neg]
    simp
theorem val_dig {B : Nat} (hB : 2 ≤ B) (n : Nat) : val B (dig B n) = n := by
  induction n using Nat.strongRecOn with
  | _ n ih =>
    by_cases e : n = 0
    · subst e; rw [dig_zero]; rfl
    · rw [dig_step hB e, val_cons, ih (n / B) (Nat.div_lt_self (by omega) hB)]
      have := Nat.mod_add_div n B
      have h2 : (((n % B + B * (n / B) : Nat)) : Int) = (n : Int) := by rw [this]
      rw [Int.natCast_add, Int.natCast_mul] at h2
      exact h2
theorem Dg_dig {B : Nat} (hB : 2 ≤ B) (n : Nat) : Dg B (dig B n) := by
  induction n using Nat.strongRecOn with
  | _ n ih =>
    by_cases e : n = 0
    · subst e; rw [dig_zero]; exact Dg.nil _
    · rw [dig_step hB e]
      intro x hx
      rcases List.mem_cons.mp hx with hx | hx
      · subst hx
        have := Nat.mod_lt n (show 0 < B by omega)
        omega
      · exact ih (n / B) (Nat.div_lt_self (by omega) hB) x hx
end Go.Proofs.Ytbdljmboilapeab.Na
