/- Lists of words of 64 bits and their numbers: what package nat leans on. -/
import Derived.Test.YtbdljmboilapeabRefSum
import Derived.Test.YtbdljmboilapeabBits
import Derived.Test.YtbdljmboilapeabShift
namespace Go.Proofs.Ytbdljmboilapeab
open Go.ChangeShapes Go.WideShapes Go.ChangeAt Go.RowKit
open Na
set_option linter.unusedVariables false
namespace Na
theorem take_valB {B : Int} {xs : List Int} {k : Nat} (h : k < xs.length) : val B (xs.take (k + 1)) = val B (xs.take k) + B ^ k * xs.getD k 0 := by
  rw [take_next h, val_append, List.length_take, Nat.min_eq_left (by omega)]
  simp [val]
theorem val_splitB (B : Int) (xs : List Int) {i : Nat} (h : i ≤ xs.length) : val B xs = val B (xs.take i) + B ^ i * val B (xs.drop i) := by
  have e := congrArg (val B) (List.take_append_drop i xs).symm
  rw [val_append, List.length_take, Nat.min_eq_left h] at e
  exact e
theorem val_atB {B : Int} {xs : List Int} {i : Nat} (h : i < xs.length) : val B xs = val B (xs.take i) + B ^ i * (xs.getD i 0 + B * val B (xs.drop (i + 1))) := by
  rw [val_splitB B xs (Nat.le_of_lt h), val_drop h]
theorem wpow_pos (k : Nat) : 0 < (18446744073709551616 : Int) ^ k := Int.pow_pos (by omega)
theorem wpow2 (k : Nat) : (18446744073709551616 : Int) ^ k = 2 ^ (64 * k) := by rw [Int.pow_mul]; rfl
theorem wpow_mono {a b : Nat} (h : a ≤ b) : (18446744073709551616 : Int) ^ a ≤ 18446744073709551616 ^ b := by
  have c1 : ((18446744073709551616 ^ a : Nat) : Int) = (18446744073709551616 : Int) ^ a := by simp
  have c2 : ((18446744073709551616 ^ b : Nat) : Int) = (18446744073709551616 : Int) ^ b := by simp
  have : 18446744073709551616 ^ a ≤ 18446744073709551616 ^ b := Nat.pow_le_pow_right (by omega) h
  omega
theorem p2mono {a b : Nat} (h : a ≤ b) : (2 : Int) ^ a ≤ 2 ^ b := by
  rw [← p2cast, ← p2cast]; exact Int.ofNat_le.mpr (Nat.pow_le_pow_right (by omega) h)
theorem num_bd {xs : List Int} (h : Ws xs) : num xs < 18446744073709551616 ^ xs.length := val_lt (by omega) h
theorem words_strip {xs : List Int} (h : Ws xs) : strip xs = words (num xs) := strip_dig (B := 18446744073709551616) (by omega) h
theorem words_short {N : Int} {k : Nat} (h0 : 0 ≤ N) (h : N < 18446744073709551616 ^ k) : (words N).length ≤ k := by
  refine dig_length (by omega) ?_
  have c : ((18446744073709551616 ^ k : Nat) : Int) = (18446744073709551616 : Int) ^ k := by simp
  omega
theorem words_le {xs : List Int} (h : Ws xs) : (words (num xs)).length ≤ xs.length := words_short (num_nonneg h) (num_bd h)
theorem num_words {N : Int} (h : 0 ≤ N) : num (words N) = N := val_words h
theorem strip_full {xs : List Int} (h : (strip xs).length = xs.length) : strip xs = xs := by
  induction xs with
  | nil => rfl
  | cons x xs ih =>
    unfold strip at h ⊢
    split at h
    · simp at h
    · rename_i hc
      rw [if_neg hc, ih (by simpa using h)]
theorem words_same {xs : List Int} (h : Ws xs) (hl : xs.length ≤ (words (num xs)).length) : xs = words (num xs) := by
  have s := words_strip h
  have l := words_le h
  rw [← s]
  exact (strip_full (by rw [s]; omega)).symm
theorem words_nil {N : Int} (h : 0 ≤ N) : (words N).length = 0 ↔ N = 0 := by
  rw [List.length_eq_zero_iff]
  unfold words
  rw [dig_nil (by omega)]
  omega
theorem words_last {N : Int} (h : 0 < N) : ∃ zs x, words N = zs ++ [x] ∧ x ≠ 0 := dig_last (B := 18446744073709551616) (by omega) N.toNat (by omega)
theorem words_ge {N : Int} (h : 0 < N) : (18446744073709551616 : Int) ^ ((words N).length - 1) ≤ N := by
  obtain ⟨zs, x, hz, hx⟩ := words_last h
  have dg := Dg_words N
  have v := val_words (N := N) (by omega)
  rw [hz] at dg v ⊢
  have gx := dg x (List.mem_append_right _ (by simp))
  have gz : Ws zs := fun y hy => dg y (List.mem_append_left _ hy)
  have v0 := val_nonneg (B := 18446744073709551616) (by omega) gz
  rw [val_append] at v
  have e : val 18446744073709551616 [x] = x := by simp [val]
  rw [e] at v
  have l : (zs ++ [x]).length - 1 = zs.length := by simp
  rw [l]
  have p := wpow_pos zs.length
  have m : (18446744073709551616 : Int) ^ zs.length * 1 ≤ 18446744073709551616 ^ zs.length * x := Int.mul_le_mul_of_nonneg_left (by omega) (by omega)
  omega
theorem words_lt {A B : Int} (hA : 0 ≤ A) (hB : 0 ≤ B) (h : (words A).length < (words B).length) : A < B := by
  have hb : 0 < B := by
    by_cases e : B = 0
    · have := (words_nil hB).mpr e; omega
    · omega
  have g := words_ge hb
  have l := num_bd (Dg_words A)
  rw [num_words hA] at l
  have m := wpow_mono (show (words A).length ≤ (words B).length - 1 by omega)
  omega
theorem word_lt {xs ys : List Int} {i : Nat} (hx : Ws xs) (hy : Ws ys) (h1 : i < xs.length) (h2 : i < ys.length) (hd : xs.drop (i + 1) = ys.drop (i + 1)) (h : xs.getD i 0 < ys.getD i 0) : num xs < num ys := by
  unfold num
  rw [val_atB h1, val_atB h2, hd]
  have a := val_lt (B := 18446744073709551616) (by omega) (hx.take i)
  rw [List.length_take, Nat.min_eq_left (by omega)] at a
  have b := val_nonneg (B := 18446744073709551616) (by omega) (hy.take i)
  have p := wpow_pos i
  generalize val 18446744073709551616 (ys.drop (i + 1)) = V
  have m : (18446744073709551616 : Int) ^ i * (xs.getD i 0 + 18446744073709551616 * V + 1) ≤ 18446744073709551616 ^ i * (ys.getD i 0 + 18446744073709551616 * V) := Int.mul_le_mul_of_nonneg_left (by omega) (by omega)
  rw [Int.mul_add, Int.mul_one] at m
  omega
theorem Dg.getAnyB {xs : List Int} (h : Ws xs) (k : Nat) : 0 ≤ xs.getD k 0 ∧ xs.getD k 0 < 18446744073709551616 := by
  by_cases hk : k < xs.length
  · have := h.get hk; omega
  · rw [getD_out (by omega)]; omega
/-- how many bits, told by two powers -/
theorem bits_some {N : Int} (h : 0 < N) : ∃ b : Nat, bitsN N = b + 1 ∧ 2 ^ b ≤ N ∧ N < 2 ^ (b + 1) := by
  refine ⟨N.toNat.log2, ?_, ?_, ?_⟩
  · unfold bitsN; rw [if_neg (by omega)]
  · have := Nat.log2_self_le (n := N.toNat) (by omega)
    rw [← p2cast]; omega
  · have := Nat.lt_log2_self (n := N.toNat)
    rw [← p2cast]; omega
theorem bits_none : bitsN 0 = 0 := rfl
theorem bits_nonneg (N : Int) : 0 ≤ bitsN N := by unfold bitsN; split <;> omega
theorem words_bits {N : Int} {b : Nat} (h1 : 2 ^ b ≤ N) (h2 : N < 2 ^ (b + 1)) : (words N).length = b / 64 + 1 := by
  have p := p2pos b
  have a : (words N).length ≤ b / 64 + 1 := by
    refine words_short (by omega) ?_
    rw [wpow2]
    have := p2mono (show b + 1 ≤ 64 * (b / 64 + 1) by omega)
    omega
  have c : b / 64 < (words N).length := by
    refine dig_len_ge ?_
    rw [wpow2]
    have := p2mono (show 64 * (b / 64) ≤ b by omega)
    omega
  omega
theorem bits_word {zs : List Int} {x : Int} {k : Nat} (hz : Ws zs) (h1 : 2 ^ k ≤ x) (h2 : x < 2 ^ (k + 1)) : bitsN (num (zs ++ [x])) = 64 * zs.length + k + 1 := by
  have e : num (zs ++ [x]) = num zs + 2 ^ (64 * zs.length) * x := by unfold num; rw [val_append, wpow2]; simp [val]
  rw [e]
  have v0 := num_nonneg hz
  have v1 := num_bd hz
  rw [wpow2] at v1
  have p := p2pos (64 * zs.length)
  have a : (2 : Int) ^ (64 * zs.length) * 2 ^ k ≤ 2 ^ (64 * zs.length) * x := Int.mul_le_mul_of_nonneg_left h1 (by omega)
  have b : (2 : Int) ^ (64 * zs.length) * (x + 1) ≤ 2 ^ (64 * zs.length) * 2 ^ (k + 1) := Int.mul_le_mul_of_nonneg_left (by omega) (by omega)
  rw [← Int.pow_add] at a b
  rw [Int.mul_add, Int.mul_one] at b
  have := bitsN_eq (N := num zs + 2 ^ (64 * zs.length) * x) (k := 64 * zs.length + k) (by omega) (by rw [Nat.add_assoc]; omega)
  rw [this]; omega
/-- the bits of a normal list -/
theorem bits_list {N : Int} {L : Nat} (h : 0 < N) (hl : (words N).length = L + 1) : 0 < (words N).getD L 0 ∧ bitsN N = (L : Int) * 64 + Ar.lenW ((words N).getD L 0) := by
  obtain ⟨zs, x, hz, hx⟩ := words_last h
  have dg := Dg_words N
  have v := num_words (N := N) (by omega)
  rw [hz] at dg v hl ⊢
  have gx := dg x (List.mem_append_right _ (by simp))
  have gz : Ws zs := fun y hy => dg y (List.mem_append_left _ hy)
  have l : zs.length = L := by simpa using hl
  subst l
  have e : (zs ++ [x]).getD zs.length 0 = x := by simp [List.getD_eq_getElem?_getD]
  rw [e]
  obtain ⟨k, hk, h1, h2, h3⟩ := Ar.lenW_pos (x := x) gx hx
  refine ⟨by omega, ?_⟩
  rw [← v, bits_word gz h2 h3, h1]
  omega
theorem zeros_word {xs : List Int} {i k : Nat} {m : Nat} (hx : Ws xs) (hi : i < xs.length) (hz : num (xs.take i) = 0) (hk : k < 64) (e : xs.getD i 0 = 2 ^ (k + 1) * m + 2 ^ k) : zerosN (num xs) = 64 * i + k := by
  have ev : num xs = 18446744073709551616 ^ i * (xs.getD i 0 + 18446744073709551616 * val 18446744073709551616 (xs.drop (i + 1))) := by
    have := val_atB (B := 18446744073709551616) hi
    have hz' : val 18446744073709551616 (xs.take i) = 0 := hz
    rw [hz', Int.zero_add] at this
    exact this
  have V0 := val_nonneg (B := 18446744073709551616) (by omega) (hx.drop (i + 1))
  generalize val 18446744073709551616 (xs.drop (i + 1)) = V at *
  have r : (18446744073709551616 : Int) = 2 ^ k * (2 * 2 ^ (63 - k)) := by
    have : (2 : Int) * 2 ^ (63 - k) = 2 ^ (64 - k) := by
      have : 64 - k = (63 - k) + 1 := by omega
      rw [this, Int.pow_succ, Int.mul_comm]
    rw [this, ← Int.pow_add]
    have : k + (64 - k) = 64 := by omega
    rw [this]; rfl
  have e2 : xs.getD i 0 + 18446744073709551616 * V = 2 ^ k * (2 * m + 1 + 2 * (2 ^ (63 - k) * V)) := by
    rw [e]
    have : (18446744073709551616 : Int) * V = 2 ^ k * (2 * 2 ^ (63 - k)) * V := by rw [← r]
    rw [this, Int.pow_succ]; grind
  rw [e2, wpow2, ← Int.mul_assoc, ← Int.pow_add] at ev
  have w0 : 0 ≤ (2 : Int) ^ (63 - k) * V := Int.mul_nonneg (Int.le_of_lt (p2pos _)) V0
  have := zerosN_eq ev (by omega) (by omega)
  rw [this]; omega
theorem zeros_skip {xs : List Int} {i : Nat} (hi : i < xs.length) (hz : num (xs.take i) = 0) (hx : xs.getD i 0 = 0) : num (xs.take (i + 1)) = 0 := by
  unfold num at *
  rw [take_valB hi, hz, hx]; simp
theorem word_bit {xs : List Int} {t : Nat} (hp : Ws xs) (h : t / 64 < xs.length) : num xs / 2 ^ t % 2 = xs.getD (t / 64) 0 / 2 ^ (t % 64) % 2 := by
  unfold num
  rw [val_atB h]
  have e : (2 : Int) ^ t = 18446744073709551616 ^ (t / 64) * 2 ^ (t % 64) := by
    rw [wpow2, ← Int.pow_add]
    congr 1; omega
  have v0 := val_nonneg (B := 18446744073709551616) (by omega) (hp.take (t / 64))
  have v1 := val_lt (B := 18446744073709551616) (by omega) (hp.take (t / 64))
  rw [List.length_take, Nat.min_eq_left (by omega)] at v1
  have p := wpow_pos (t / 64)
  rw [e, ← Int.ediv_ediv_of_nonneg (by omega), Int.add_mul_ediv_left _ _ (by omega), Int.ediv_eq_zero_of_lt v0 v1, Int.zero_add]
  have r : (18446744073709551616 : Int) = 2 ^ (t % 64) * (2 ^ (63 - t % 64) * 2) := by
    rw [← Int.pow_succ, ← Int.pow_add]
    have : t % 64 + (63 - t % 64 + 1) = 64 := by omega
    rw [Nat.succ_eq_add_one, this]; rfl
  have q := p2pos (t % 64)
  have e2 : xs.getD (t / 64) 0 + 18446744073709551616 * val 18446744073709551616 (xs.drop (t / 64 + 1)) = xs.getD (t / 64) 0 + 2 ^ (t % 64) * ((2 ^ (63 - t % 64) * 2) * val 18446744073709551616 (xs.drop (t / 64 + 1))) := by
    rw [← Int.mul_assoc, ← r]
  rw [e2, Int.add_mul_ediv_left _ _ (by omega)]
  have e3 : (2 : Int) ^ (63 - t % 64) * 2 * val 18446744073709551616 (xs.drop (t / 64 + 1)) = 2 * (2 ^ (63 - t % 64) * val 18446744073709551616 (xs.drop (t / 64 + 1))) := by grind
  rw [e3]
  omega
theorem word_bit_out {xs : List Int} {t : Nat} (hp : Ws xs) (h : xs.length ≤ t / 64) : num xs / 2 ^ t = 0 := by
  have h0 := num_nonneg hp
  have h1 := num_bd hp
  rw [wpow2] at h1
  have := p2mono (show 64 * xs.length ≤ t by omega)
  exact Int.ediv_eq_zero_of_lt h0 (by omega)
end Na
end Go.Proofs.Ytbdljmboilapeab
