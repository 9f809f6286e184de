/- Layer 18: a numeral by itself, by numbers alone. -/
import Derived.Test.YtnnpakllehldhaaGreatDoorTkN
import Derived.Test.YtnnpakllehldhaaGreatDoorLexForm
namespace Go.Proofs.YtnnpakllehldhaaGreatDoor
set_option linter.unusedVariables false
set_option linter.unusedSimpArgs false
open Lx
namespace Tk
theorem tk_take (t : UInt8 → Bool) (l : B) (j : Nat) : l.take ((l.takeWhile t).length + j) = l.takeWhile t ++ (l.dropWhile t).take j ∧ (l.takeWhile t ++ (l.dropWhile t).take j).takeWhile t = l.takeWhile t ∧ (l.takeWhile t ++ (l.dropWhile t).take j).dropWhile t = (l.dropWhile t).take j := by
  refine ⟨?_, tk_app (all_tk t l) ?_⟩
  · have h : l = l.takeWhile t ++ l.dropWhile t := (tk_dk t l).symm
    have : l.take ((l.takeWhile t).length + j) = (l.takeWhile t ++ l.dropWhile t).take ((l.takeWhile t).length + j) := by rw [← h]
    rw [this, List.take_length_add_append]
  · intro c q hq
    cases hd : l.dropWhile t with
    | nil => rw [hd] at hq; simp at hq
    | cons x r =>
      rw [hd] at hq
      cases j with
      | zero => simp at hq
      | succ j =>
        simp at hq
        obtain ⟨rfl, _⟩ := hq
        exact dk_head hd
theorem tkD_take (l : B) (j : Nat) : tkD (l.take ((tkD l).length + j)) = tkD l ∧ dkD (l.take ((tkD l).length + j)) = (dkD l).take j := by
  have h := tk_take isD l j
  unfold tkD dkD
  rw [h.1]
  exact h.2
theorem tkH_take (l : B) (j : Nat) : tkH (l.take ((tkH l).length + j)) = tkH l ∧ dkH (l.take ((tkH l).length + j)) = (dkH l).take j := by
  have h := tk_take isH l j
  unfold tkH dkH
  rw [h.1]
  exact h.2
theorem fst_take (cs l : B) (j : Nat) : fst cs (l.take (j + 1)) = fst cs l := by cases l <;> rfl
theorem fst_take0 (cs l : B) : fst cs (l.take 0) = false := by rw [List.take_zero]; rfl
theorem tail_take (l : B) (j : Nat) : (l.take (j + 1)).tail = l.tail.take j := by cases l <;> simp
theorem expo_take (l : B) : expoL (l.take (expoL l).length) = expoL l := by
  unfold expoL
  by_cases h : fst [43, 45] l = true
  · rw [if_pos h]
    by_cases hd : tkD l.tail = []
    · rw [if_pos hd]; simp [fst, tkD]
    · rw [if_neg hd]
      have hl : (l.take 1 ++ tkD l.tail).length = (tkD l.tail).length + 1 := by
        obtain ⟨x, r, rfl, _⟩ := fst_true h
        simp
      rw [hl, fst_take, if_pos h, tail_take]
      have := tkD_take l.tail 0
      rw [Nat.add_zero] at this
      rw [this.1, if_neg hd]
      congr 1
      obtain ⟨x, r, rfl, _⟩ := fst_true h
      rfl
  · have h' : fst [43, 45] l = false := by simpa using h
    rw [if_neg h]
    have := tkD_take l 0
    rw [Nat.add_zero] at this
    cases hn : (tkD l).length with
    | zero =>
      have e : tkD l = [] := List.length_eq_zero_iff.mp hn
      rw [e]; simp [fst, tkD]
    | succ n =>
      rw [fst_take, if_neg h, ← hn, this.1]
/-- a reading that ends at its stop is the same of the text up to there -/
def Cl (F : B → Pc) (wh : Pc) (k : Nat) (l : B) : Prop := F l = wh ∨ ∃ m, (F l).stop = k + m ∧ m ≤ l.length ∧ F (l.take m) = F l
theorem cl_E (rd wh : Pc) (k : Nat) (l : B) : Cl (finE rd wh k) wh k l := by
  unfold Cl
  by_cases h : expoL l = []
  · left; unfold finE; rw [if_pos h]
  · right
    refine ⟨(expoL l).length, ?_, expo_le l, ?_⟩
    · unfold finE; rw [if_neg h]
    · unfold finE; rw [expo_take, if_neg h]
theorem cl_Slash (rd wh : Pc) (k : Nat) (l : B) : Cl (finSlash rd wh k) wh k l := by
  unfold Cl
  by_cases h : tkD l = []
  · left; unfold finSlash; rw [if_pos h]
  · right
    have := tkD_take l 0
    rw [Nat.add_zero] at this
    have hl := tkD_le l
    refine ⟨(tkD l).length, ?_, by omega, ?_⟩
    · unfold finSlash; rw [if_neg h]
    · unfold finSlash; rw [this.1, if_neg h]
theorem cl_Point (rd wh : Pc) (k : Nat) (l : B) : Cl (finPoint rd wh k) wh k l := by
  unfold Cl
  have hl := tkD_le l
  by_cases hh : Pc.has { rd with behind := tkD l } = false
  · left; unfold finPoint; simp only [hh, if_true]
  · right
    have hh' : Pc.has { rd with behind := tkD l } = true := by simpa using hh
    clear hh
    by_cases he : fst [101, 69] (dkD l) = true
    · have ht := tail_len he
      rcases cl_E { rd with behind := tkD l, stop := k + (tkD l).length } { rd with behind := tkD l, stop := k + (tkD l).length } (k + (tkD l).length + 1) (dkD l).tail with h | ⟨m, h1, h2, h3⟩
      · have t0 := tkD_take l 0
        rw [Nat.add_zero] at t0
        refine ⟨(tkD l).length, ?_, by omega, ?_⟩
        · unfold finPoint; simp only [hh', Bool.true_eq_false, if_false, he, if_true]; rw [h]
        · unfold finPoint
          rw [t0.1, t0.2, fst_take0]
          simp only [hh', Bool.true_eq_false, if_false, he, if_true, Bool.false_eq_true]
          rw [h]
      · have t0 := tkD_take l (m + 1)
        refine ⟨(tkD l).length + (m + 1), ?_, by omega, ?_⟩
        · unfold finPoint; simp only [hh', Bool.true_eq_false, if_false, he, if_true]; rw [h1]; omega
        · unfold finPoint
          rw [t0.1, t0.2, fst_take, tail_take]
          simp only [hh', Bool.true_eq_false, if_false, he, if_true]
          exact h3
    · have t0 := tkD_take l 0
      rw [Nat.add_zero] at t0
      refine ⟨(tkD l).length, ?_, by omega, ?_⟩
      · unfold finPoint; simp only [hh', Bool.true_eq_false, if_false, he, Bool.false_eq_true]
      · unfold finPoint
        rw [t0.1, t0.2, fst_take0]
        simp only [hh', Bool.true_eq_false, if_false, he, Bool.false_eq_true]
theorem cl_HexPoint (rd wh : Pc) (k : Nat) (l : B) : Cl (finHexPoint rd wh k) wh k l := by
  unfold Cl
  have hl := tkH_le l
  by_cases hh : (Pc.has { rd with behind := tkH l } && fst [112, 80] (dkH l)) = true
  · have hp := hh
    rw [Bool.and_eq_true] at hp
    have ht := tail_len hp.2
    rcases cl_E { rd with behind := tkH l } wh (k + (tkH l).length + 1) (dkH l).tail with h | ⟨m, h1, h2, h3⟩
    · left; unfold finHexPoint; simp only [hh, if_true]; exact h
    · right
      have t0 := tkH_take l (m + 1)
      refine ⟨(tkH l).length + (m + 1), ?_, by omega, ?_⟩
      · unfold finHexPoint; simp only [hh, if_true]; rw [h1]; omega
      · unfold finHexPoint
        rw [t0.1, t0.2, fst_take, tail_take]
        simp only [hh, if_true]
        exact h3
  · left; unfold finHexPoint; simp only [hh, if_false, Bool.false_eq_true]
theorem cl_X (rd wh : Pc) (k : Nat) (l : B) : Cl (finX rd wh k) wh k l := by
  unfold Cl
  have hl := tkH_le l
  by_cases hp : fst [46] (dkH l) = true
  · have ht := tail_len hp
    rcases cl_HexPoint { rd with kind := 2, ahead := tkH l } wh (k + (tkH l).length + 1) (dkH l).tail with h | ⟨m, h1, h2, h3⟩
    · left; unfold finX; simp only [hp, if_true]; exact h
    · right
      have t0 := tkH_take l (m + 1)
      refine ⟨(tkH l).length + (m + 1), ?_, by omega, ?_⟩
      · unfold finX; simp only [hp, if_true]; rw [h1]; omega
      · unfold finX
        rw [t0.1, t0.2, fst_take, tail_take]
        simp only [hp, if_true]
        exact h3
  · by_cases hh : (Pc.has { rd with kind := 2, ahead := tkH l } && fst [112, 80] (dkH l)) = true
    · have hq := hh
      rw [Bool.and_eq_true] at hq
      have ht := tail_len hq.2
      rcases cl_E { rd with kind := 2, ahead := tkH l } wh (k + (tkH l).length + 1) (dkH l).tail with h | ⟨m, h1, h2, h3⟩
      · left; unfold finX; simp only [hp, hh, if_true, if_false, Bool.false_eq_true]; exact h
      · right
        have t0 := tkH_take l (m + 1)
        refine ⟨(tkH l).length + (m + 1), ?_, by omega, ?_⟩
        · unfold finX; simp only [hp, hh, if_true, if_false, Bool.false_eq_true]; rw [h1]; omega
        · unfold finX
          rw [t0.1, t0.2, fst_take, fst_take, tail_take]
          simp only [hp, hh, if_true, if_false, Bool.false_eq_true]
          exact h3
    · left; unfold finX; simp only [hp, hh, if_false, Bool.false_eq_true]
theorem cl_Digits (rd wh : Pc) (k : Nat) (l : B) : Cl (finDigits rd wh k) wh k l := by
  unfold Cl
  by_cases h46 : fst [46] l = true
  · have ht := tail_len h46
    rcases cl_Point rd wh (k + 1) l.tail with h | ⟨m, h1, h2, h3⟩
    · left; unfold finDigits; simp only [h46, if_true]; exact h
    · right
      refine ⟨m + 1, ?_, by omega, ?_⟩
      · unfold finDigits; simp only [h46, if_true]; rw [h1]; omega
      · unfold finDigits
        rw [fst_take, fst_take, fst_take, fst_take, tail_take]
        simp only [h46, if_true]
        exact h3
  · by_cases he : fst [101, 69] l = true
    · have ht := tail_len he
      rcases cl_E rd wh (k + 1) l.tail with h | ⟨m, h1, h2, h3⟩
      · left; unfold finDigits; simp only [h46, he, if_true, if_false, Bool.false_eq_true]; exact h
      · right
        refine ⟨m + 1, ?_, by omega, ?_⟩
        · unfold finDigits; simp only [h46, he, if_true, if_false, Bool.false_eq_true]; rw [h1]; omega
        · unfold finDigits
          rw [fst_take, fst_take, fst_take, fst_take, tail_take]
          simp only [h46, he, if_true, if_false, Bool.false_eq_true]
          exact h3
    · by_cases hs : fst [47] l = true
      · have ht := tail_len hs
        rcases cl_Slash rd wh (k + 1) l.tail with h | ⟨m, h1, h2, h3⟩
        · left; unfold finDigits; simp only [h46, he, hs, if_true, if_false, Bool.false_eq_true]; exact h
        · right
          refine ⟨m + 1, ?_, by omega, ?_⟩
          · unfold finDigits; simp only [h46, he, hs, if_true, if_false, Bool.false_eq_true]; rw [h1]; omega
          · unfold finDigits
            rw [fst_take, fst_take, fst_take, fst_take, tail_take]
            simp only [h46, he, hs, if_true, if_false, Bool.false_eq_true]
            exact h3
      · by_cases hx : (decide (rd.ahead = [48]) && fst [120, 88] l) = true
        · have hq := hx
          rw [Bool.and_eq_true] at hq
          have ht := tail_len hq.2
          rcases cl_X rd wh (k + 1) l.tail with h | ⟨m, h1, h2, h3⟩
          · left; unfold finDigits; simp only [h46, he, hs, hx, if_true, if_false, Bool.false_eq_true]; exact h
          · right
            refine ⟨m + 1, ?_, by omega, ?_⟩
            · unfold finDigits; simp only [h46, he, hs, hx, if_true, if_false, Bool.false_eq_true]; rw [h1]; omega
            · unfold finDigits
              rw [fst_take, fst_take, fst_take, fst_take, tail_take]
              simp only [h46, he, hs, hx, if_true, if_false, Bool.false_eq_true]
              exact h3
        · left; unfold finDigits; simp only [h46, he, hs, hx, if_false, Bool.false_eq_true]
theorem digits_nil (rd wh : Pc) (k : Nat) : finDigits rd wh k [] = wh := by
  unfold finDigits
  simp [fst]
theorem cl_Sign (rd wh : Pc) (k : Nat) (l : B) : Cl (finSign rd wh k) wh k l := by
  unfold Cl
  have hl := tkD_le l
  by_cases hh : Pc.has { rd with kind := 1, ahead := tkD l } = true
  · right
    rcases cl_Digits { rd with kind := 1, ahead := tkD l, stop := k + (tkD l).length } { rd with kind := 1, ahead := tkD l, stop := k + (tkD l).length } (k + (tkD l).length) (dkD l) with h | ⟨m, h1, h2, h3⟩
    · have t0 := tkD_take l 0
      rw [Nat.add_zero, List.take_zero] at t0
      refine ⟨(tkD l).length, ?_, by omega, ?_⟩
      · unfold finSign; simp only [hh, if_true]; rw [h]
      · unfold finSign
        rw [t0.1, t0.2]
        simp only [hh, if_true]
        rw [h, digits_nil]
    · have t0 := tkD_take l m
      refine ⟨(tkD l).length + m, ?_, by omega, ?_⟩
      · unfold finSign; simp only [hh, if_true]; rw [h1]; omega
      · unfold finSign
        rw [t0.1, t0.2]
        simp only [hh, if_true]
        exact h3
  · by_cases hp : fst [46] (dkD l) = true
    · have ht := tail_len hp
      rcases cl_Point { rd with kind := 1, ahead := tkD l } wh (k + (tkD l).length + 1) (dkD l).tail with h | ⟨m, h1, h2, h3⟩
      · left; unfold finSign; simp only [hh, hp, if_true, if_false, Bool.false_eq_true]; exact h
      · right
        have t0 := tkD_take l (m + 1)
        refine ⟨(tkD l).length + (m + 1), ?_, by omega, ?_⟩
        · unfold finSign; simp only [hh, hp, if_true, if_false, Bool.false_eq_true]; rw [h1]; omega
        · unfold finSign
          rw [t0.1, t0.2, fst_take, tail_take]
          simp only [hh, hp, if_true, if_false, Bool.false_eq_true]
          exact h3
    · left; unfold finSign; simp only [hh, hp, if_false, Bool.false_eq_true]
/-- the longest numeral, by itself, is itself -/
theorem longest_self {l : B} (hk : (longestL l).kind ≠ 0) : longestL (l.take (longestL l).stop) = longestL l := by
  have hz : ∀ p : Pc, p = Pc.zero → p.kind = 0 := fun p h => by rw [h]; rfl
  by_cases h45 : fst [45] l = true
  · have e : longestL l = finSign { Pc.zero with neg := true } Pc.zero (0 + 1) l.tail := by unfold longestL finStart; rw [if_pos h45]
    rcases cl_Sign { Pc.zero with neg := true } Pc.zero (0 + 1) l.tail with h | ⟨m, h1, h2, h3⟩
    · exact absurd (hz _ (e.trans h)) hk
    · rw [e, h1, show 0 + 1 + m = m + 1 from by omega]
      unfold longestL finStart
      rw [fst_take, if_pos h45, tail_take]
      exact h3
  · by_cases h43 : fst [43] l = true
    · have e : longestL l = finSign { Pc.zero with neg := false } Pc.zero (0 + 1) l.tail := by unfold longestL finStart; rw [if_neg h45, if_pos h43]
      rcases cl_Sign { Pc.zero with neg := false } Pc.zero (0 + 1) l.tail with h | ⟨m, h1, h2, h3⟩
      · exact absurd (hz _ (e.trans h)) hk
      · rw [e, h1, show 0 + 1 + m = m + 1 from by omega]
        unfold longestL finStart
        rw [fst_take, fst_take, if_neg h45, if_pos h43, tail_take]
        exact h3
    · have e : longestL l = finSign { Pc.zero with neg := false } Pc.zero 0 l := by unfold longestL finStart; rw [if_neg h45, if_neg h43]
      rcases cl_Sign { Pc.zero with neg := false } Pc.zero 0 l with h | ⟨m, h1, h2, h3⟩
      · exact absurd (hz _ (e.trans h)) hk
      · rw [e, h1, Nat.zero_add]
        cases m with
        | zero =>
          have hp := longest_pos l hk
          rw [e, h1] at hp
          omega
        | succ m =>
          unfold longestL finStart
          rw [fst_take, fst_take, if_neg h45, if_neg h43]
          exact h3
end Tk
end Go.Proofs.YtnnpakllehldhaaGreatDoor
