/- plumbref02: carried, plus, compare. -/
import Derived.Test.YtbdljmboilapeaaRefTold
namespace Go.Proofs.Ytbdljmboilapeaa
open Go.ChangeShapes Go.WideShapes Go.ChangeAt Go.RowKit
open Na
set_option linter.unusedVariables false

namespace Na
/-- numbers from 0 on, none above L -/
def Bd (L : Int) (xs : List Int) : Prop := ∀ x ∈ xs, 0 ≤ x ∧ x ≤ L
theorem Bd.get {L : Int} {xs : List Int} (h : Bd L xs) {i : Nat} (hi : i < xs.length) : 0 ≤ xs.getD i 0 ∧ xs.getD i 0 ≤ L := by
  have e : xs.getD i 0 = xs[i] := by simp [List.getD_eq_getElem?_getD, List.getElem?_eq_getElem hi]
  rw [e]; exact h _ (List.getElem_mem hi)
theorem Bd.val_nonneg {L B : Int} (hB : 0 ≤ B) {xs : List Int} (h : Bd L xs) : 0 ≤ val B xs := by
  induction xs with
  | nil => exact Int.le_refl _
  | cons x xs ih =>
    rw [val_cons]
    have h1 := h x List.mem_cons_self
    have h2 := Int.mul_nonneg hB (ih (fun y hy => h y (List.mem_cons_of_mem _ hy)))
    omega
theorem Bd.one {L x : Int} (h : 0 ≤ x ∧ x ≤ L) : Bd L [x] := fun y hy => by simp at hy; subst hy; exact h
theorem Bd.append {L : Int} {xs ys : List Int} (h : Bd L xs) (k : Bd L ys) : Bd L (xs ++ ys) := fun z hz => by
  rcases List.mem_append.mp hz with hz | hz
  · exact h z hz
  · exact k z hz
theorem Bd.nil (L : Int) : Bd L [] := fun y hy => by simp at hy
def CarInv (ds : List Int) (i : Nat) (C : Int) (es : List Int) : Prop := Dg 65536 es ∧ es.length = i ∧ 0 ≤ C ∧ C ≤ 281474976710656 ∧
  val 65536 es + 65536 ^ i * (C + val 65536 (ds.drop i)) = val 65536 ds
theorem car_start (ds : List Int) : CarInv ds 0 0 [] := ⟨Dg.nil _, rfl, by omega, by omega, by simp [val]⟩
theorem car_step {ds es : List Int} {i : Nat} {C x : Int} (h : CarInv ds i C es) (hx : 0 ≤ x ∧ x ≤ 281474976710656) (hd : val 65536 (ds.drop i) = x + 65536 * val 65536 (ds.drop (i + 1))) :
    CarInv ds (i + 1) ((C + x) / 65536) (es ++ [(C + x) % 65536]) := by
  obtain ⟨h1, h2, h3, h4, h5⟩ := h
  refine ⟨h1.append (Dg.one (by omega)), by rw [List.length_append, h2]; rfl, by omega, by omega, ?_⟩
  rw [val_append, h2, ← h5, hd, Int.pow_succ]
  have e4 : val 65536 [(C + x) % 65536] = (C + x) % 65536 := by simp [val]
  have e3 : C + x = (C + x) % 65536 + 65536 * ((C + x) / 65536) := by omega
  rw [e4]
  generalize val 65536 (ds.drop (i + 1)) = V
  generalize (65536 : Int) ^ i = P
  generalize (C + x) % 65536 = r at *
  generalize (C + x) / 65536 = q at *
  have e5 : C = r + 65536 * q - x := by omega
  subst e5
  grind
theorem drop_step {ds : List Int} {i : Nat} : val 65536 (ds.drop i) = ds.getD i 0 + 65536 * val 65536 (ds.drop (i + 1)) := by
  by_cases h : i < ds.length
  · exact val_drop h
  · rw [List.drop_of_length_le (by omega), List.drop_of_length_le (by omega)]
    have : ds.getD i 0 = 0 := by simp [List.getD_eq_getElem?_getD, List.getElem?_eq_none (Nat.le_of_not_lt h)]
    rw [this]; rfl
theorem car_done {ds es : List Int} {i : Nat} (h : CarInv ds i 0 es) (hi : ds.length ≤ i) : strip es = digs (val 65536 ds) := by
  obtain ⟨h1, h2, h3, h4, h5⟩ := h
  rw [List.drop_of_length_le hi, val_nil] at h5
  have e : val 65536 es = val 65536 ds := by simpa using h5
  unfold digs
  rw [← e]
  exact strip_dig (B := 65536) (by omega) h1
/-- beyond the digits what is carried melts away -/
def Melts (n k : Nat) (C : Int) : Prop := n ≤ k → C * 65536 ^ (k - n) ≤ 281474976710656
theorem melts_small {n k : Nat} {C : Int} (h : Melts n k C) (hC : 0 < C) : k ≤ n + 3 := by
  by_cases hk : n + 4 ≤ k
  · have g := h (by omega)
    have e : (65536 : Int) ^ (k - n) = 65536 ^ (k - n - 4) * 18446744073709551616 := by
      have : k - n = (k - n - 4) + 4 := by omega
      rw [this, Int.pow_add]; simp
    have p : 0 < (65536 : Int) ^ (k - n - 4) := Int.pow_pos (by omega)
    rw [e] at g
    have q := Int.mul_pos hC p
    have r : C * (65536 ^ (k - n - 4) * 18446744073709551616) = C * 65536 ^ (k - n - 4) * 18446744073709551616 := by rw [Int.mul_assoc]
    rw [r] at g
    omega
  · omega
theorem melts_next {n k : Nat} {C : Int} (h : Melts n k C) (hk : n ≤ k) (h0 : 0 ≤ C) : Melts n (k + 1) (C / 65536) := by
  intro _
  have g := h hk
  have e : (65536 : Int) ^ (k + 1 - n) = 65536 ^ (k - n) * 65536 := by
    have : k + 1 - n = (k - n) + 1 := by omega
    rw [this, Int.pow_succ]
  rw [e]
  have p : 0 < (65536 : Int) ^ (k - n) := Int.pow_pos (by omega)
  have r : C / 65536 * (65536 ^ (k - n) * 65536) = C / 65536 * 65536 * 65536 ^ (k - n) := by grind
  have s : C / 65536 * 65536 * 65536 ^ (k - n) ≤ C * 65536 ^ (k - n) := Int.mul_le_mul_of_nonneg_right (by omega) (by omega)
  omega
theorem melts_below {n k : Nat} {C : Int} (hk : k < n) (hC : C ≤ 281474976710656) : Melts n (k + 1) C := by
  intro h
  have : k + 1 - n = 0 := by omega
  rw [this]; simp; exact hC
end Na

end Go.Proofs.Ytbdljmboilapeaa
