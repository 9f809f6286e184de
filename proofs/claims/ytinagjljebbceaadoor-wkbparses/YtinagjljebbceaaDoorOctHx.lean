/- Layer 16: hex digits read: plain facts. -/
import Derived.Test.YtinagjljebbceaaDoorOctMath
namespace Go.Proofs.YtinagjljebbceaaDoor
namespace Oc
/-- what a digit is worth, 0 of none -/
def vv (c : UInt8) : Nat := (valD c).getD 0
theorem vv_lt (c : UInt8) : vv c < 16 := by
  unfold vv
  cases h : valD c with
  | none => decide
  | some k => exact valD_lt h
def unhexL : List UInt8 → List UInt8
  | a :: b :: r => UInt8.ofNat (16 * vv a + vv b) :: unhexL r
  | _ => []
theorem unhexL_len : ∀ (l : List UInt8), (unhexL l).length = l.length / 2
  | [] => rfl
  | [_] => by simp [unhexL]
  | a :: b :: r => by
    show (unhexL r).length + 1 = (r.length + 1 + 1) / 2
    rw [unhexL_len r]
    omega
theorem unhexL_two : ∀ (p : List UInt8) (a b : UInt8), p.length % 2 = 0 → unhexL (p ++ [a, b]) = unhexL p ++ [UInt8.ofNat (16 * vv a + vv b)]
  | [], a, b, _ => rfl
  | [_], a, b, h => by simp at h
  | x :: y :: r, a, b, h => by
    show UInt8.ofNat (16 * vv x + vv y) :: unhexL (r ++ [a, b]) = (UInt8.ofNat (16 * vv x + vv y) :: unhexL r) ++ _
    rw [unhexL_two r a b (by simp at h; omega)]
    rfl
/-- what is written so far -/
def ust (l : List UInt8) (m k : Nat) : List UInt8 :=
  if k % 2 = 0 then unhexL (l.take k) ++ List.replicate (m - k / 2) 0 else unhexL (l.take (k - 1)) ++ UInt8.ofNat (vv (l.getD (k - 1) 0)) :: List.replicate (m - k / 2 - 1) 0
theorem take_len {l : List UInt8} {k : Nat} (h : k ≤ l.length) : (l.take k).length = k := by rw [List.length_take]; omega
theorem ust_zero (l : List UInt8) (m : Nat) : ust l m 0 = List.replicate m 0 := by simp [ust, unhexL]
theorem ust_len {l : List UInt8} {m k : Nat} (hk : k ≤ l.length) (hm : l.length ≤ 2 * m) : (ust l m k).length = m := by
  unfold ust
  split
  · rw [List.length_append, unhexL_len, take_len hk, List.length_replicate]
    omega
  · rw [List.length_append, unhexL_len, take_len (by omega), List.length_cons, List.length_replicate]
    omega
theorem ust_even_at {l : List UInt8} {m j : Nat} (hk : 2 * j ≤ l.length) : (ust l m (2 * j)).getD j 0 = 0 := by
  unfold ust
  rw [if_pos (by omega), List.getD_eq_getElem?_getD, List.getElem?_append_right (by rw [unhexL_len, take_len hk]; omega)]
  rw [List.getElem?_replicate]
  split <;> rfl
theorem ust_even {l : List UInt8} {m j : Nat} (hk : 2 * j < l.length) (hm : l.length ≤ 2 * m) : (ust l m (2 * j)).set j (UInt8.ofNat (vv (l.getD (2 * j) 0))) = ust l m (2 * j + 1) := by
  unfold ust
  rw [if_pos (by omega), if_neg (by omega), show 2 * j + 1 - 1 = 2 * j by omega, List.set_append_right _ _ (by rw [unhexL_len, take_len (by omega)]; omega), unhexL_len, take_len (by omega), show j - 2 * j / 2 = 0 by omega,
    show m - 2 * j / 2 = (m - (2 * j + 1) / 2 - 1) + 1 by omega, List.replicate_succ]
  rfl
theorem ust_odd_at {l : List UInt8} {m j : Nat} (hk : 2 * j < l.length) : (ust l m (2 * j + 1)).getD j 0 = UInt8.ofNat (vv (l.getD (2 * j) 0)) := by
  unfold ust
  rw [if_neg (by omega), show 2 * j + 1 - 1 = 2 * j by omega, List.getD_eq_getElem?_getD, List.getElem?_append_right (by rw [unhexL_len, take_len (by omega)]; omega), unhexL_len, take_len (by omega), show j - 2 * j / 2 = 0 by omega]
  rfl
theorem takeU {xs : List UInt8} {k : Nat} (h : k < xs.length) : xs.take (k + 1) = xs.take k ++ [xs.getD k 0] := by
  rw [List.take_succ_eq_append_getElem h]
  simp [List.getD_eq_getElem?_getD, List.getElem?_eq_getElem h]
theorem ust_odd {l : List UInt8} {m j : Nat} (hk : 2 * j + 1 < l.length) (hm : l.length ≤ 2 * m) : (ust l m (2 * j + 1)).set j (UInt8.ofNat (16 * vv (l.getD (2 * j) 0) + vv (l.getD (2 * j + 1) 0))) = ust l m (2 * j + 1 + 1) := by
  have e : l.take (2 * j + 1 + 1) = l.take (2 * j) ++ [l.getD (2 * j) 0, l.getD (2 * j + 1) 0] := by rw [takeU hk, takeU (by omega), List.append_assoc]; rfl
  unfold ust
  rw [if_neg (by omega), if_pos (by omega), show 2 * j + 1 - 1 = 2 * j by omega, List.set_append_right _ _ (by rw [unhexL_len, take_len (by omega)]; omega), unhexL_len, take_len (by omega), show j - 2 * j / 2 = 0 by omega, e,
    unhexL_two _ _ _ (by rw [take_len (by omega)]; omega), List.append_assoc]
  show _ ++ (_ :: List.replicate (m - (2 * j + 1) / 2 - 1) 0) = _ ++ ([_] ++ List.replicate (m - (2 * j + 1 + 1) / 2) 0)
  rw [show m - (2 * j + 1) / 2 - 1 = m - (2 * j + 1 + 1) / 2 by omega]
  rfl
theorem ust_all {l : List UInt8} {m : Nat} (h : l.length = 2 * m) : ust l m (2 * m) = unhexL l := by
  unfold ust
  rw [if_pos (by omega), show m - 2 * m / 2 = 0 by omega, List.take_of_length_le (by omega)]
  simp
/-- how many digits stand at the beginning -/
def fb (l : List UInt8) : Nat := (l.takeWhile fun c => (valD c).isSome).length
theorem fb_le (l : List UInt8) : fb l ≤ l.length := (List.takeWhile_prefix _).length_le
theorem fb_at : ∀ {l : List UInt8} {k : Nat}, k < fb l → (valD (l.getD k 0)).isSome = true
  | [], k, h => by simp [fb] at h
  | c :: r, k, h => by
    unfold fb at h
    rw [List.takeWhile_cons] at h
    by_cases q : (valD c).isSome = true
    · rw [if_pos q] at h
      cases k with
      | zero => exact q
      | succ k => exact fb_at (l := r) (k := k) (by unfold fb; simpa using h)
    · rw [if_neg q] at h
      simp at h
theorem fb_stop : ∀ {l : List UInt8}, fb l < l.length → valD (l.getD (fb l) 0) = none
  | [], h => by simp [fb] at h
  | c :: r, h => by
    by_cases q : (valD c).isSome = true
    · have e : fb (c :: r) = fb r + 1 := by unfold fb; rw [List.takeWhile_cons, if_pos q]; rfl
      rw [e] at h ⊢
      exact fb_stop (l := r) (by simpa using h)
    · have e : fb (c :: r) = 0 := by unfold fb; rw [List.takeWhile_cons, if_neg q]; rfl
      rw [e]
      show valD c = none
      simpa using q
theorem fb_next {l : List UInt8} {k : Nat} (hk : k ≤ fb l) (hl : k < l.length) (h : (valD (l.getD k 0)).isSome = true) : k + 1 ≤ fb l := by
  by_cases q : k = fb l
  · have := fb_stop (l := l) (by omega)
    rw [← q] at this
    rw [this] at h
    cases h
  · omega
theorem fb_this {l : List UInt8} {k : Nat} (hk : k ≤ fb l) (h : valD (l.getD k 0) = none) : k = fb l := by
  by_cases q : k = fb l
  · exact q
  · have := fb_at (l := l) (k := k) (by omega)
    rw [h] at this
    cases this
theorem or_nib : ∀ (x : Fin 16) (y : Fin 16), (16 * x.val) ||| y.val = 16 * x.val + y.val := by decide
end Oc
end Go.Proofs.YtinagjljebbceaaDoor
