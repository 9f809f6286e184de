/- plumblaw02's helpers of the outright statements: add, mul, normal, alive, into. -/
import Derived.Test.YtbdljmboilapeabNatShr
import Derived.Test.YtbdljmboilapeabLawTold
namespace Go.Proofs.Ytbdljmboilapeab
open Go.ChangeShapes Go.WideShapes Go.ChangeAt Go.RowKit
open Na Ar
set_option linter.unusedVariables false

namespace Na
/-- a number of at most k words -/
def Lt (N : Int) (k : Nat) : Prop := 0 ≤ N ∧ N < 18446744073709551616 ^ k
theorem Lt.mono {N : Int} {k l : Nat} (h : Lt N k) (hl : k ≤ l) : Lt N l := ⟨h.1, Int.lt_of_lt_of_le h.2 (wpow_mono hl)⟩
theorem Lt.add {A B : Int} {k l : Nat} (h : Lt A k) (h' : Lt B l) : Lt (A + B) (k + l + 1) := by
  obtain ⟨a, b⟩ := h
  obtain ⟨c, d⟩ := h'
  have m1 := wpow_mono (show k ≤ k + l by omega)
  have m2 := wpow_mono (show l ≤ k + l by omega)
  have p := wpow_pos (k + l)
  refine ⟨by omega, ?_⟩
  rw [Int.pow_succ]
  omega
theorem Lt.mul {A B : Int} {k l : Nat} (h : Lt A k) (h' : Lt B l) : Lt (A * B) (k + l) := by
  obtain ⟨a, b⟩ := h
  obtain ⟨c, d⟩ := h'
  refine ⟨Int.mul_nonneg a c, ?_⟩
  rw [Int.pow_add]
  have p := wpow_pos k
  have x := Int.mul_le_mul_of_nonneg_right (Int.le_of_lt b) c
  have y := Int.mul_lt_mul_of_pos_left d p
  omega
theorem Lt.len {N : Int} {k : Nat} (h : Lt N k) : (words N).length ≤ k := words_short h.1 h.2
theorem Lt.fits {N : Int} {k : Nat} (h : Lt N k) (hk : k ≤ 4096) : resL N = words N ∧ resE N = 0 := res_fits (Nat.le_trans h.len hk)
theorem Lt.pow2 {A : Int} {k t : Nat} (h : Lt A k) : Lt (A * 2 ^ t) (k + (t / 64 + 1)) := by
  refine h.mul ⟨Int.le_of_lt (p2pos t), ?_⟩
  rw [wpow2]
  have e : (2 : Int) ^ t < 2 ^ (t + 1) := by rw [Int.pow_succ]; have := p2pos t; omega
  have := p2mono (show t + 1 ≤ 64 * (t / 64 + 1) by omega)
  omega
theorem Lt.le {A B : Int} {k : Nat} (h : Lt B k) (h0 : 0 ≤ A) (hl : A ≤ B) : Lt A k := ⟨h0, by have := h.2; omega⟩
/-- a list of words, its number, not too long for any of the calls -/
structure Nm (xs : List Int) (A : Int) : Prop where
  ws : Ws xs
  num : num xs = A
  len : xs.length ≤ 4000000
theorem Nm.nonneg {xs : List Int} {A : Int} (h : Nm xs A) : 0 ≤ A := by rw [← h.num]; exact num_nonneg h.ws
theorem Nm.lt {xs : List Int} {A : Int} (h : Nm xs A) {k : Nat} (hk : xs.length ≤ k) : Lt A k := by
  refine Lt.mono (k := xs.length) ⟨h.nonneg, ?_⟩ hk
  rw [← h.num]; exact num_bd h.ws
theorem Lt.nm {N : Int} {k : Nat} (h : Lt N k) (hk : k ≤ 4000000) : Nm (words N) N := ⟨Dg_words N, num_words h.1, Nat.le_trans h.len hk⟩
theorem Nm.nil : Nm [] 0 := ⟨Dg.nil _, rfl, by simp⟩
theorem Nm.one {x : Int} (h : 0 ≤ x ∧ x < 18446744073709551616) : Nm [x] x := ⟨Dg.one h, by simp [Na.num, val], by simp⟩
theorem Nm.two {x y : Int} (h : 0 ≤ x ∧ x < 18446744073709551616) (h' : 0 ≤ y ∧ y < 18446744073709551616) : Nm [x, y] (x + 18446744073709551616 * y) :=
  ⟨(Dg.one h).append (Dg.one h'), by simp [Na.num, val], by simp⟩
theorem nm_ten : Nm [1, 0] 1 := by
  have := Nm.two (x := 1) (y := 0) (by omega) (by omega)
  simpa using this
theorem nm_zeros : Nm [0, 0] 0 := by
  have := Nm.two (x := 0) (y := 0) (by omega) (by omega)
  simpa using this
theorem lt_one : Lt 1 1 := ⟨by omega, by rw [Int.pow_succ, Int.pow_zero]; omega⟩
theorem lt_zero : Lt 0 0 := ⟨by omega, by rw [Int.pow_zero]; omega⟩
theorem Lt.word {x : Int} (h : 0 ≤ x ∧ x < 18446744073709551616) : Lt x 1 := ⟨h.1, by rw [Int.pow_succ, Int.pow_zero]; omega⟩
theorem lt_two {x y : Int} (h : 0 ≤ x ∧ x < 18446744073709551616) (h' : 0 ≤ y ∧ y < 18446744073709551616) : Lt (x + 18446744073709551616 * y) 2 := by
  have e : (18446744073709551616 : Int) ^ 2 = 18446744073709551616 * 18446744073709551616 := by rw [Int.pow_succ, Int.pow_succ]; simp
  refine ⟨by omega, ?_⟩
  rw [e]; omega
theorem ordN_bd (A B : Int) : -1 ≤ ordN A B ∧ ordN A B ≤ 1 := by unfold ordN; split <;> (try split) <;> omega
theorem ordN_neg (A B : Int) : ordN B A = - ordN A B := by unfold ordN; split <;> split <;> (try split) <;> omega
theorem ordN_self (A : Int) : ordN A A = 0 := ordN_eq rfl
theorem ordN_add (A B C : Int) : ordN (A + C) (B + C) = ordN A B := by unfold ordN; split <;> split <;> (try split) <;> (try split) <;> omega
theorem ordN_mul {A B C : Int} (hC : 0 < C) : ordN (A * C) (B * C) = ordN A B := by
  rcases Int.lt_trichotomy A B with h | h | h
  · rw [ordN_lt h, ordN_lt (Int.mul_lt_mul_of_pos_right h hC)]
  · rw [ordN_eq h, ordN_eq (by rw [h])]
  · rw [ordN_gt h, ordN_gt (Int.mul_lt_mul_of_pos_right h hC)]
theorem ordN_zero (A B : Int) : decide (A = B) = (ordN A B == 0) := by
  rw [Bool.eq_iff_iff]
  rcases Int.lt_trichotomy A B with h | h | h
  · rw [ordN_lt h]; simp; omega
  · rw [ordN_eq h]; simp; exact h
  · rw [ordN_gt h]; simp; omega
theorem ordN_le {A B : Int} : ordN A B ≤ 0 ↔ A ≤ B := by
  rcases Int.lt_trichotomy A B with h | h | h
  · rw [ordN_lt h]; omega
  · rw [ordN_eq h]; omega
  · rw [ordN_gt h]; omega
theorem mod_both (A : Int) (n m : Nat) : A % 2 ^ (n + m) = A % 2 ^ n + 2 ^ n * (A / 2 ^ n % 2 ^ m) := by
  have pn := p2pos n
  have pm := p2pos m
  have d1 := Int.mul_ediv_add_emod A (2 ^ n)
  have d2 := Int.mul_ediv_add_emod (A / 2 ^ n) (2 ^ m)
  have r0 := Int.emod_nonneg A (show (2 : Int) ^ n ≠ 0 by omega)
  have r1 := Int.emod_lt_of_pos A pn
  have s0 := Int.emod_nonneg (A / 2 ^ n) (show (2 : Int) ^ m ≠ 0 by omega)
  have s1 := Int.emod_lt_of_pos (A / 2 ^ n) pm
  rw [Int.pow_add]
  generalize A % 2 ^ n = r at *
  generalize A / 2 ^ n % 2 ^ m = s at *
  generalize A / 2 ^ n / 2 ^ m = q at *
  generalize A / 2 ^ n = h at *
  generalize (2 : Int) ^ n = P at *
  generalize (2 : Int) ^ m = Q at *
  have e : A = r + P * s + P * Q * q := by rw [← d1, ← d2]; grind
  have up : P * (s + 1) ≤ P * Q := Int.mul_le_mul_of_nonneg_left (by omega) (by omega)
  have lo : 0 ≤ P * s := Int.mul_nonneg (by omega) s0
  rw [Int.mul_add, Int.mul_one] at up
  rw [e, Int.add_mul_emod_self_left, Int.emod_eq_of_lt (by omega) (by omega)]
theorem lost_both (A : Int) (n m : Nat) : (decide (A % 2 ^ n ≠ 0) || decide (A / 2 ^ n % 2 ^ m ≠ 0)) = decide (A % 2 ^ (n + m) ≠ 0) := by
  have pn := p2pos n
  have pm := p2pos m
  have e := mod_both A n m
  have r0 := Int.emod_nonneg A (show (2 : Int) ^ n ≠ 0 by omega)
  have s0 := Int.emod_nonneg (A / 2 ^ n) (show (2 : Int) ^ m ≠ 0 by omega)
  rw [e, Bool.eq_iff_iff]
  generalize A % 2 ^ n = r at *
  generalize A / 2 ^ n % 2 ^ m = s at *
  generalize (2 : Int) ^ n = P at *
  have z : P * s = 0 ↔ s = 0 := by
    constructor
    · intro h
      rcases Int.mul_eq_zero.mp h with h | h
      · omega
      · exact h
    · intro h; rw [h]; simp
  have lo : 0 ≤ P * s := Int.mul_nonneg (by omega) s0
  simp
  generalize P * s = Z at *
  omega
theorem take_one {xs : List Int} (h : 0 < xs.length) : xs.take 1 = [xs.getD 0 0] := by
  have := take_next (xs := xs) (k := 0) h
  simpa using this
end Na

theorem rowC_nil (w : World) : RowC w none 0 0 [] := ⟨⟨rfl, Or.inl rfl⟩, Nat.le_refl _, Nat.zero_le _⟩
theorem rowC_one (w : World) (x : Int) (t : TypeId) : RowC (w.alloc (.cells #[.int .u64 x] t)) (some ⟨w.heap.size, 0, none⟩) 1 1 [x] := by
  refine ⟨⟨rfl, Or.inr ⟨w.heap.size, 0, rfl, by simp, fun i hi => ?_⟩⟩, Nat.le_refl _, by decide⟩
  have : i = 0 := by omega
  subst this
  simp
theorem rowC_two (w : World) (x y : Int) (t : TypeId) : RowC (w.alloc (.cells #[.int .u64 x, .int .u64 y] t)) (some ⟨w.heap.size, 0, none⟩) 2 2 [x, y] := by
  refine ⟨⟨rfl, Or.inr ⟨w.heap.size, 0, rfl, by simp, fun i hi => ?_⟩⟩, Nat.le_refl _, by decide⟩
  have : i = 0 ∨ i = 1 := by omega
  rcases this with rfl | rfl <;> simp
theorem RowC.cut {w : World} {a : Option Addr} {n cap : Nat} {xs : List Int} (h : RowC w a n cap xs) {m : Nat} (hm : m ≤ n) : RowC w a m cap (xs.take m) := ⟨h.1.cut hm, Nat.le_trans hm h.2.1, h.2.2⟩

section
variable {a b : Option Addr} {n m c1 c2 : Nat} {xs ys : List Int} {A B : Int} {w : World} {k : Nat}
theorem addN (hr1 : RowC w a n c1 xs) (hr2 : RowC w b m c2 ys) (h1 : Nm xs A) (h2 : Nm ys B) (hL : Lt (A + B) k) (hk : k ≤ 4096) :
    Calls Try.prog 39 #[.slice a n c1, .slice b m c2] w fun e w' => ∃ v, e = .returned (.tuple #[v, .int .i64 0]) ∧ Own .u64 w' w.heap.size 47 v (words (A + B)) ∧ Below w.heap.size w w' := by
  have l1 := hr1.1.1
  have l2 := hr2.1.1
  have h := natAdd_any hr1 hr2 h1.ws h2.ws (by have := h1.len; omega) (by have := h2.len; omega)
  rw [h1.num, h2.num, (hL.fits hk).1, (hL.fits hk).2] at h
  exact h
theorem mulN (hr1 : RowC w a n c1 xs) (hr2 : RowC w b m c2 ys) (h1 : Nm xs A) (h2 : Nm ys B) (hL : Lt (A * B) k) (hk : k ≤ 4096) :
    Calls Try.prog 45 #[.slice a n c1, .slice b m c2] w fun e w' => ∃ v, e = .returned (.tuple #[v, .int .i64 0]) ∧ Own .u64 w' w.heap.size 47 v (words (A * B)) ∧ Below w.heap.size w w' := by
  have l1 := hr1.1.1
  have l2 := hr2.1.1
  have h := natMul_any hr1 hr2 h1.ws h2.ws (by have := h1.len; omega) (by have := h2.len; omega)
  rw [h1.num, h2.num, (hL.fits hk).1, (hL.fits hk).2] at h
  exact h
theorem subN (hr1 : RowC w a n c1 xs) (hr2 : RowC w b m c2 ys) (h1 : Nm xs A) (h2 : Nm ys B) (hle : B ≤ A) (hL : Lt (A - B) k) (hk : k ≤ 4096) :
    Calls Try.prog 41 #[.slice a n c1, .slice b m c2] w fun e w' => ∃ v, e = .returned (.tuple #[v, .int .i64 0]) ∧ Own .u64 w' w.heap.size 47 v (words (A - B)) ∧ Below w.heap.size w w' := by
  have l1 := hr1.1.1
  have l2 := hr2.1.1
  have h := natSub_any hr1 hr2 h1.ws h2.ws (by have := h1.len; omega) (by have := h2.len; omega)
  have e1 : subE A B = 0 := by unfold subE; rw [if_neg (by omega), (hL.fits hk).2]
  have e2 : subL A B = words (A - B) := by unfold subL; rw [if_neg (by omega), (hL.fits hk).1]
  rw [h1.num, h2.num, e1, e2] at h
  exact h
theorem subBelow (hr1 : RowC w a n c1 xs) (hr2 : RowC w b m c2 ys) (h1 : Nm xs A) (h2 : Nm ys B) (hlt : A < B) :
    Calls Try.prog 41 #[.slice a n c1, .slice b m c2] w fun e w' => ∃ v, e = .returned (.tuple #[v, .int .i64 20]) ∧ Own .u64 w' w.heap.size 47 v [] ∧ Below w.heap.size w w' := by
  have l1 := hr1.1.1
  have l2 := hr2.1.1
  have h := natSub_any hr1 hr2 h1.ws h2.ws (by have := h1.len; omega) (by have := h2.len; omega)
  have e1 : subE A B = 20 := by unfold subE; rw [if_pos hlt]
  have e2 : subL A B = [] := by unfold subL; rw [if_pos hlt]
  rw [h1.num, h2.num, e1, e2] at h
  exact h
theorem normN (hr1 : RowC w a n c1 xs) (h1 : Nm xs A) :
    Calls Try.prog 31 #[.slice a n c1] w fun e w' => ∃ v, e = .returned v ∧ Own .u64 w' w.heap.size 47 v (words A) ∧ Below w.heap.size w w' := by
  have l1 := hr1.1.1
  have h := natNorm_any hr1 h1.ws (by have := h1.len; omega)
  rw [h1.num] at h
  exact h
theorem cmpN (hr1 : RowC w a n c1 xs) (hr2 : RowC w b m c2 ys) (h1 : Nm xs A) (h2 : Nm ys B) :
    Calls Try.prog 33 #[.slice a n c1, .slice b m c2] w fun e w' => e = .returned (.int .i64 (ordN A B)) ∧ Below w.heap.size w w' := by
  have l1 := hr1.1.1
  have l2 := hr2.1.1
  have h := natCmp_any hr1 hr2 h1.ws h2.ws (by have := h1.len; omega) (by have := h2.len; omega)
  rw [h1.num, h2.num] at h
  exact h
theorem sameN (hr1 : RowC w a n c1 xs) (hr2 : RowC w b m c2 ys) (h1 : xs.length ≤ 4000000) (h2 : ys.length ≤ 4000000) (he : xs = ys) :
    Calls Try.prog 26 #[.slice a n c1, .slice b m c2] w fun e w' => e = .returned (.bool true) ∧ Below w.heap.size w w' := by
  have l1 := hr1.1.1
  have l2 := hr2.1.1
  exact same_true hr1.1 hr2.1 (by omega) (by omega) he
theorem normal_any {N : Int} (hr1 : RowC w a n c1 (words N)) (hN : 0 ≤ N) (hl : n ≤ 4000000) :
    Calls Try.prog 27 #[.slice a n c1] w fun e w' => e = .returned (.bool true) ∧ Below w.heap.size w w' := by
  have l := hr1.1.1
  by_cases hz : N = 0
  · have hw := (words_nil hN).mpr hz
    have hn0 : n = 0 := by omega
    subst hn0
    clear hr1 l hw hz
    go_enter Try.func27, Try.ntmps27
    go_wp2
    go_ret
    exact ⟨rfl, Below.refl _ _⟩
  · have hp : (words N).length ≠ 0 := fun h => hz ((words_nil hN).mp h)
    obtain ⟨j, rfl⟩ : ∃ j, n = j + 1 := ⟨n - 1, by omega⟩
    have hx := (bits_list (N := N) (L := j) (by omega) l).1
    obtain ⟨bb, off, rfl, hb, hc⟩ := hr1.1.at (by omega)
    have hcx := hc j (by omega)
    generalize (words N).getD j 0 = x at *
    have t1 : (x != 0) = true := by simp; omega
    have t2 : (((j : Int) + 1) == 0) = false := by simp; omega
    clear hr1 l hc hp hz hx hN
    go_enter Try.func27, Try.ntmps27
    go_wp2
    go_ret
    exact ⟨rfl, Below.refl _ _⟩
end

section
variable {a b : Option Addr} {n m c1 c2 : Nat} {xs ys : List Int} {A B : Int} {w : World} {k : Nat}
theorem Own.opens {N : Int} {base : Nat} {e : TypeId} {v : Value} (h : Own .u64 w base e v (words N)) (hL : Lt N k) (hk : k ≤ 4000000) : ∃ a n c l, v = .slice a n c ∧ RowC w a n c l ∧ Nm l N ∧ Hid (l = words N) := by
  obtain ⟨a, c, hv, r⟩ := h.readsC
  exact ⟨a, _, c, _, hv, r, hL.nm hk, rfl⟩
theorem addQ (hr1 : RowC w a n c1 xs) (hr2 : RowC w b m c2 ys) (h1 : Nm xs A) (h2 : Nm ys B) (hL : Lt (A + B) k) (hk : k ≤ 4096) :
    Calls Try.prog 39 #[.slice a n c1, .slice b m c2] w fun e w' => ∃ a' n' c' l', e = .returned (.tuple #[.slice a' n' c', .int .i64 0]) ∧ RowC w' a' n' c' l' ∧ Nm l' (A + B) ∧ Hid (l' = words (A + B)) ∧ Below w.heap.size w w' := by
  refine (addN hr1 hr2 h1 h2 hL hk).mono ?_
  rintro e w' ⟨v, rfl, ho, hb⟩
  obtain ⟨a', n', c', l', rfl, r, m, h⟩ := ho.opens hL (by omega)
  exact ⟨a', n', c', l', rfl, r, m, h, hb⟩
theorem mulQ (hr1 : RowC w a n c1 xs) (hr2 : RowC w b m c2 ys) (h1 : Nm xs A) (h2 : Nm ys B) (hL : Lt (A * B) k) (hk : k ≤ 4096) :
    Calls Try.prog 45 #[.slice a n c1, .slice b m c2] w fun e w' => ∃ a' n' c' l', e = .returned (.tuple #[.slice a' n' c', .int .i64 0]) ∧ RowC w' a' n' c' l' ∧ Nm l' (A * B) ∧ Hid (l' = words (A * B)) ∧ Below w.heap.size w w' := by
  refine (mulN hr1 hr2 h1 h2 hL hk).mono ?_
  rintro e w' ⟨v, rfl, ho, hb⟩
  obtain ⟨a', n', c', l', rfl, r, m, h⟩ := ho.opens hL (by omega)
  exact ⟨a', n', c', l', rfl, r, m, h, hb⟩
theorem subQ (hr1 : RowC w a n c1 xs) (hr2 : RowC w b m c2 ys) (h1 : Nm xs A) (h2 : Nm ys B) (hle : B ≤ A) (hL : Lt (A - B) k) (hk : k ≤ 4096) :
    Calls Try.prog 41 #[.slice a n c1, .slice b m c2] w fun e w' => ∃ a' n' c' l', e = .returned (.tuple #[.slice a' n' c', .int .i64 0]) ∧ RowC w' a' n' c' l' ∧ Nm l' (A - B) ∧ Hid (l' = words (A - B)) ∧ Below w.heap.size w w' := by
  refine (subN hr1 hr2 h1 h2 hle hL hk).mono ?_
  rintro e w' ⟨v, rfl, ho, hb⟩
  obtain ⟨a', n', c', l', rfl, r, m, h⟩ := ho.opens hL (by omega)
  exact ⟨a', n', c', l', rfl, r, m, h, hb⟩
theorem subBelowQ (hr1 : RowC w a n c1 xs) (hr2 : RowC w b m c2 ys) (h1 : Nm xs A) (h2 : Nm ys B) (hlt : A < B) :
    Calls Try.prog 41 #[.slice a n c1, .slice b m c2] w fun e w' => ∃ a' c', e = .returned (.tuple #[.slice a' 0 c', .int .i64 20]) ∧ Below w.heap.size w w' := by
  refine (subBelow hr1 hr2 h1 h2 hlt).mono ?_
  rintro e w' ⟨v, rfl, ho, hb⟩
  obtain ⟨a', c', rfl, r⟩ := ho.readsC
  exact ⟨a', c', rfl, hb⟩
theorem normQ (hr1 : RowC w a n c1 xs) (h1 : Nm xs A) (hL : Lt A k) (hk : k ≤ 4000000) :
    Calls Try.prog 31 #[.slice a n c1] w fun e w' => ∃ a' n' c' l', e = .returned (.slice a' n' c') ∧ RowC w' a' n' c' l' ∧ Nm l' A ∧ Hid (l' = words A) ∧ Below w.heap.size w w' := by
  refine (normN hr1 h1).mono ?_
  rintro e w' ⟨v, rfl, ho, hb⟩
  obtain ⟨a', n', c', l', rfl, r, m, h⟩ := ho.opens hL hk
  exact ⟨a', n', c', l', rfl, r, m, h, hb⟩
theorem shlQ (hr1 : RowC w a n c1 xs) (h1 : Nm xs A) (t : Nat) (ht : t ≤ 400000000) (hL : Lt (A * 2 ^ t) k) (hk : k ≤ 4096) :
    Calls Try.prog 10 #[.slice a n c1, .int .i64 (t : Int)] w fun e w' => ∃ a' n' c' l', e = .returned (.tuple #[.slice a' n' c', .int .i64 0]) ∧ RowC w' a' n' c' l' ∧ Nm l' (A * 2 ^ t) ∧ Hid (l' = words (A * 2 ^ t)) ∧ Below w.heap.size w w' := by
  have l1 := hr1.1.1
  have h := natShl_any hr1 h1.ws (by have := h1.len; omega) (t : Int) (by omega)
  have e1 : shlE A (t : Int) = 0 := by unfold shlE; rw [if_neg (by omega)]; simp; exact (hL.fits hk).2
  have e2 : shlL A (t : Int) = words (A * 2 ^ t) := by unfold shlL; rw [if_neg (by omega)]; simp; exact (hL.fits hk).1
  rw [h1.num, e1, e2] at h
  refine h.mono ?_
  rintro e w' ⟨v, rfl, ho, hb⟩
  obtain ⟨a', n', c', l', rfl, r, m, h⟩ := ho.opens hL (by omega)
  exact ⟨a', n', c', l', rfl, r, m, h, hb⟩
theorem shrQ {S : Bool} (hr1 : RowC w a n c1 xs) (h1 : Nm xs A) (t : Nat) (ht : t ≤ 400000000) (hL : Lt A k) (hk : k ≤ 4096) (hS : decide (A % 2 ^ t ≠ 0) = S) :
    Calls Try.prog 12 #[.slice a n c1, .int .i64 (t : Int)] w fun e w' => ∃ a' n' c' l', e = .returned (.tuple #[.slice a' n' c', .bool S, .int .i64 0]) ∧ RowC w' a' n' c' l' ∧ Nm l' (A / 2 ^ t) ∧ Hid (l' = words (A / 2 ^ t)) ∧ Below w.heap.size w w' := by
  have l1 := hr1.1.1
  have h := natShr_any hr1 h1.ws (by have := h1.len; omega) (t : Int) (by omega)
  have hL2 : Lt (A / 2 ^ t) k := hL.le (Int.ediv_nonneg hL.1 (Int.le_of_lt (p2pos t))) (Int.ediv_le_self _ hL.1)
  have e0 : resE (A / 2 ^ t) = 0 := (hL2.fits hk).2
  have e1 : shrE A (t : Int) = 0 := by unfold shrE; rw [if_neg (by omega)]; simp; exact e0
  have e2 : shrL A (t : Int) = words (A / 2 ^ t) := by unfold shrL; rw [if_neg (by omega)]; simp; exact (hL2.fits hk).1
  have e3 : shrB A (t : Int) = S := by unfold shrB; rw [if_neg (by omega)]; simp only [Int.toNat_natCast]; rw [if_pos e0]; exact hS
  rw [h1.num, e1, e2, e3] at h
  refine h.mono ?_
  rintro e w' ⟨v, rfl, ho, hb⟩
  obtain ⟨a', n', c', l', rfl, r, m, h⟩ := ho.opens hL2 (by omega)
  exact ⟨a', n', c', l', rfl, r, m, h, hb⟩
theorem cmpK {K : Int} (hr1 : RowC w a n c1 xs) (hr2 : RowC w b m c2 ys) (h1 : Nm xs A) (h2 : Nm ys B) (hK : ordN A B = K) :
    Calls Try.prog 33 #[.slice a n c1, .slice b m c2] w fun e w' => e = .returned (.int .i64 K) ∧ Below w.heap.size w w' := by
  have h := cmpN hr1 hr2 h1 h2
  rw [hK] at h
  exact h
theorem sameD {S : Bool} (hr1 : RowC w a n c1 xs) (hr2 : RowC w b m c2 ys) (h1 : Nm xs A) (h2 : Nm ys B) (e1 : Hid (xs = words A)) (e2 : Hid (ys = words B)) (hS : decide (A = B) = S) :
    Calls Try.prog 26 #[.slice a n c1, .slice b m c2] w fun e w' => e = .returned (.bool S) ∧ Below w.heap.size w w' := by
  have l1 := hr1.1.1
  have l2 := hr2.1.1
  have k1 := h1.len
  have k2 := h2.len
  have h := same_any (c1 := c1) (c2 := c2) hr1.1 hr2.1 (by omega) (by omega)
  have e : decide (xs = ys) = S := by
    rw [← hS, Bool.eq_iff_iff, decide_eq_true_iff, decide_eq_true_iff]
    constructor
    · intro g; rw [← h1.num, ← h2.num, g]
    · intro g; rw [e1.out, e2.out, g]
  rw [e] at h
  exact h
theorem sameQ (hr1 : RowC w a n c1 xs) (hr2 : RowC w b m c2 ys) (h1 : Nm xs A) (h2 : Nm ys B) (e1 : Hid (xs = words A)) (e2 : Hid (ys = words B)) (he : A = B) :
    Calls Try.prog 26 #[.slice a n c1, .slice b m c2] w fun e w' => e = .returned (.bool true) ∧ Below w.heap.size w w' :=
  sameN hr1 hr2 h1.len h2.len (by rw [e1.out, e2.out, he])
theorem normalQ (hr1 : RowC w a n c1 xs) (h1 : Nm xs A) (e1 : Hid (xs = words A)) :
    Calls Try.prog 27 #[.slice a n c1] w fun e w' => e = .returned (.bool true) ∧ Below w.heap.size w w' := by
  have l := hr1.1.1
  have h := h1.len
  have h0 := h1.nonneg
  rw [e1.out] at hr1
  exact normal_any hr1 h0 (by omega)
/-- cut of a list that came in: at most 60 words -/
theorem cutQ (hr : RowAt .u64 w a n xs) (hx : Ws xs) (hn : n ≤ maxLen) :
    Calls Try.prog 9 #[.slice a n c1] w fun e w' => ∃ a' n' c' l', e = .returned (.slice a' n' c') ∧ RowC w' a' n' c' l' ∧ Nm l' (num l') ∧ Lt (num l') 60 ∧ n' ≤ 60 ∧ Hid (l' = xs.take 60) ∧ Below w.heap.size w w' := by
  refine (lawCut_any hr hn).mono ?_
  rintro e w' ⟨v, rfl, ho, hb⟩
  obtain ⟨a', c', rfl, r⟩ := ho.readsC
  have hl : (xs.take 60).length ≤ 60 := by rw [List.length_take]; omega
  have hm : Nm (xs.take 60) (num (xs.take 60)) := ⟨hx.take 60, rfl, by omega⟩
  exact ⟨a', _, c', _, rfl, r, hm, hm.lt hl, hl, rfl, hb⟩
end

theorem RowC.cell0 {w : World} {b off n cap : Nat} {x : Int} {xs : List Int} (h : RowC w (some ⟨b, off, none⟩) (n + 1) cap (x :: xs)) : w.cell? ⟨b, off, none⟩ = some (.int .u64 x) := by
  rcases h.1.2 with h0 | ⟨b', off', ha, _, hc⟩
  · omega
  · simp only [Option.some.injEq, Addr.mk.injEq] at ha
    obtain ⟨rfl, rfl, _⟩ := ha
    simpa using hc 0 (by omega)
theorem addSame {a b c : Int} (ha : U a) (hb : U b) (hc : U c) (w : World) :
    Calls Try.prog 95 #[.int .u64 a, .int .u64 b, .int .u64 c] w fun e w' => e = .returned (.tuple #[.int .u64 (addLo a b c), .int .u64 (addHi a b c)]) ∧ w' = w := by
  refine (add_any ha hb hc w).mono ?_
  rintro e w' ⟨_, _, rfl, rfl, rfl, rfl⟩
  exact ⟨rfl, rfl⟩

theorem into_any (n : Int) (top : Nat) (h0 : -9223372036854775808 ≤ n) (h1 : n ≤ 9223372036854775807) (ht : 0 < top) (ht' : top ≤ 400000000) (w : World) :
    Calls Try.prog 21 #[.int .i64 n, .int .i64 (top : Int)] w fun e w' => ∃ r : Nat, e = .returned (.int .i64 (r : Int)) ∧ r < top ∧ w = w' := by
  have t1 : ((top : Int) == 0) = false := by simp; omega
  have t2 : ((top : Int) == -1) = false := by simp
  have hm := Int.tmod_eq_emod (a := n) (b := (top : Int))
  have e0 := Int.emod_nonneg n (show (top : Int) ≠ 0 by omega)
  have e1 := Int.emod_lt_of_pos n (show (0 : Int) < top by omega)
  have hq2 : n.tmod (top : Int) = n % (top : Int) ∨ n.tmod (top : Int) = n % (top : Int) - (top : Int) := by
    rw [hm]
    split
    · left; omega
    · right; simp
  obtain ⟨r, hr⟩ : ∃ r : Nat, (r : Int) = n % (top : Int) := ⟨(n % (top : Int)).toNat, by omega⟩
  have hrt : r < top := by omega
  by_cases hneg : n.tmod (top : Int) < 0
  · have HR : Hid (wrap64 (n.tmod (top : Int) + (top : Int)) = (r : Int)) := by
      show _ = _
      unfold wrap64
      omega
    clear hm hq2 hr e0 e1
    go_enter Try.func21, Try.ntmps21
    go_wp2
    go_ret
    exact ⟨r, ret_i HR.out, hrt, rfl⟩
  · have HR : Hid (n.tmod (top : Int) = (r : Int)) := by show _ = _; omega
    clear hm hq2 hr e0 e1
    go_enter Try.func21, Try.ntmps21
    go_wp2
    go_ret
    exact ⟨r, ret_i HR.out, hrt, rfl⟩

theorem alive_any (w : World) : Calls Try.prog 22 #[] w fun e w' => e = .returned (.bool true) ∧ Below w.heap.size w w' := by
  have n1 : Nm [18446744073709551615] 18446744073709551615 := Nm.one (by omega)
  have n2 : Nm [1] 1 := Nm.one (by omega)
  have hL : Lt ((18446744073709551615 : Int) + 1) 2 := by
    have e : (18446744073709551616 : Int) ^ 2 = 18446744073709551616 * 18446744073709551616 := by rw [Int.pow_succ, Int.pow_succ]; simp
    refine ⟨by omega, ?_⟩
    rw [e]; omega
  have e2 : words ((18446744073709551615 : Int) + 1) = [0, 1] := by
    unfold words
    rw [dig_step (by omega) (by decide), dig_step (by omega) (by decide)]
    have : ((18446744073709551615 : Int) + 1).toNat / 18446744073709551616 / 18446744073709551616 = 0 := by decide
    rw [this, dig_zero]
    decide
  have r1 := rowC_one w 18446744073709551615 47
  have b1 := alloc_below (w := w) (.cells #[.int .u64 18446744073709551615] 47)
  have r2 := rowC_one (w.alloc (.cells #[.int .u64 18446744073709551615] 47)) 1 47
  have b2 := alloc_below (w := w.alloc (.cells #[.int .u64 18446744073709551615] 47)) (.cells #[.int .u64 1] 47)
  have es : (w.alloc (.cells #[.int .u64 18446744073709551615] 47)).heap.size = w.heap.size + 1 := by simp
  rw [es] at r2
  have r1' := r1.later b2
  have h := addN r1' r2 n1 n2 hL (by omega)
  rw [e2] at h
  have bb := b1.trans (b2.mono b1.size)
  clear r1 r2 r1' n1 n2 hL b1 b2 e2 es
  go_enter Try.func22, Try.ntmps22
  go_wp2_with fail
  refine h.mono ?_
  rintro e w1 ⟨v, rfl, ho, hb⟩
  clear h
  obtain ⟨a, c, rfl, r⟩ := ho.readsC
  have bc := bb.trans (hb.mono bb.size)
  have al := alloc_below (w := w1) (.cells #[.int .u64 0, .int .u64 1] 47)
  have rl := rowC_two w1 0 1 47
  have r' := r.later al
  have hs := sameN r' rl (by simp) (by simp) rfl
  have bd := bc.trans (al.mono bc.size)
  clear ho r hb bb bc al rl r'
  go_wp2_with fail
  refine hs.mono ?_
  rintro e w2 ⟨rfl, hb2⟩
  have be := bd.trans (hb2.mono bd.size)
  clear hs bd hb2
  go_wp2
  go_ret
  exact ⟨rfl, be⟩
end Go.Proofs.Ytbdljmboilapeab
