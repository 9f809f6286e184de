/- plumbref02: Cmp, Add, Sub, From, Word. -/
import Derived.Test.YtbdljmboilapeabRefCmp
namespace Go.Proofs.Ytbdljmboilapeab
open Go.ChangeShapes Go.WideShapes Go.ChangeAt Go.RowKit
open Na
set_option linter.unusedVariables false

namespace Na
/-- the number of a list of words -/
def num (xs : List Int) : Int := val 18446744073709551616 xs
/-- a list of words -/
abbrev Ws (xs : List Int) : Prop := Dg 18446744073709551616 xs
theorem num_nonneg {xs : List Int} (h : Ws xs) : 0 ≤ num xs := val_nonneg (B := 18446744073709551616) (by omega) h
theorem digs_len_lt {N : Int} {k : Nat} (h0 : 0 ≤ N) (h : N < 65536 ^ k) : (digs N).length ≤ k := by
  refine dig_length (by omega) ?_
  have c : ((65536 ^ k : Nat) : Int) = (65536 : Int) ^ k := by simp
  omega
theorem num_lt {xs : List Int} (h : Ws xs) : num xs < 65536 ^ (4 * xs.length) := by
  have l := val_lt (by omega) h
  have e : (65536 : Int) ^ (4 * xs.length) = 18446744073709551616 ^ xs.length := by rw [Int.pow_mul]; rfl
  rw [e]; exact l
theorem digs_len {xs : List Int} (h : Ws xs) : (digs (num xs)).length ≤ 4 * xs.length := digs_len_lt (num_nonneg h) (num_lt h)
theorem pow_mono {a b : Nat} (h : a ≤ b) : (65536 : Int) ^ a ≤ 65536 ^ b := by
  have c1 : ((65536 ^ a : Nat) : Int) = (65536 : Int) ^ a := by simp
  have c2 : ((65536 ^ b : Nat) : Int) = (65536 : Int) ^ b := by simp
  have : 65536 ^ a ≤ 65536 ^ b := Nat.pow_le_pow_right (by omega) h
  omega
theorem add_lt {A B : Int} {p q : Nat} (hA : A < 65536 ^ p) (hB : B < 65536 ^ q) : A + B < 65536 ^ (p + q + 1) := by
  have m1 := pow_mono (show p ≤ p + q by omega)
  have m2 := pow_mono (show q ≤ p + q by omega)
  rw [Int.pow_succ]
  have p0 : 0 < (65536 : Int) ^ (p + q) := Int.pow_pos (by omega)
  omega
end Na

/-- digits, with all that a caller wants of what it gets -/
theorem digits_get {a : Option Addr} {n cap : Nat} {xs : List Int} {w : World} (hrow : RowAt .u64 w a n xs) (hx : Ws xs) (hn : n ≤ 1000000) :
    Calls Try.prog 62 #[.slice a n cap] w fun e w' => ∃ a2 cap2, e = .returned (.slice a2 (digs (num xs)).length cap2) ∧ (digs (num xs)).length ≤ cap2 ∧ cap2 ≤ maxLen ∧ RowAt .i64 w' a2 (digs (num xs)).length (digs (num xs)) ∧ Below w.heap.size w w' := by
  refine (digits_any hrow hx hn).mono ?_
  rintro e w' ⟨v, rfl, hown, hb⟩
  obtain ⟨a2, cap2, rfl, h1, h2, h3⟩ := hown.reads
  exact ⟨a2, cap2, rfl, h1, h2, h3, hb⟩

theorem refCmp_any {a b : Option Addr} {n m c1 c2 : Nat} {xs ys : List Int} {w : World} (hr1 : RowAt .u64 w a n xs) (hr2 : RowAt .u64 w b m ys) (hx : Ws xs) (hy : Ws ys) (hn : n ≤ 1000000) (hm : m ≤ 1000000) :
    Calls Try.prog 34 #[.slice a n c1, .slice b m c2] w fun e w' => e = .returned (.int .i64 (ordN (num xs) (num ys))) ∧ Below w.heap.size w w' := by
  have l1 := digs_len hx
  have l2 := digs_len hy
  have e1 := hr1.1
  have e2 := hr2.1
  have b1 : (digs (num xs)).length ≤ 10000000 := by omega
  have b2 : (digs (num ys)).length ≤ 10000000 := by omega
  have p1 := num_nonneg hx
  have p2 := num_nonneg hy
  clear l1 l2 e1 e2
  go_enter Try.func34, Try.ntmps34
  go_wp2_with fail
  refine (digits_get hr1 hx hn).mono ?_
  rintro e w1 ⟨a1, d1, rfl, _, _, r1, hb1⟩
  have hr2' := hr2.later hb1
  go_wp2_with fail
  refine (digits_get hr2' hy hm).mono ?_
  rintro e w2 ⟨a2, d2, rfl, _, _, r2, hb2⟩
  have r1' := r1.later hb2
  have hbb := hb1.trans (hb2.mono hb1.size)
  clear hr1 hr2 hr2' r1
  go_wp2_with fail
  refine (compare_any p1 p2 rfl rfl r1' r2 b1 b2).mono ?_
  rintro e w3 ⟨rfl, hb3⟩
  have hbc := hbb.trans (hb3.mono hbb.size)
  clear r1' r2 hb1 hb2 hb3 hbb
  go_wp2
  go_ret
  exact ⟨rfl, hbc⟩

theorem refAdd_any {a b : Option Addr} {n m c1 c2 : Nat} {xs ys : List Int} {w : World} (hr1 : RowAt .u64 w a n xs) (hr2 : RowAt .u64 w b m ys) (hx : Ws xs) (hy : Ws ys) (hn : n ≤ 100000) (hm : m ≤ 100000) :
    Calls Try.prog 40 #[.slice a n c1, .slice b m c2] w fun e w' => ∃ v, e = .returned (.tuple #[v, .int .i64 (resE (num xs + num ys))]) ∧ Own .u64 w' w.heap.size 47 v (resL (num xs + num ys)) ∧ Below w.heap.size w w' := by
  have e1 := hr1.1
  have e2 := hr2.1
  have l1 := digs_len hx
  have l2 := digs_len hy
  have p1 := num_nonneg hx
  have p2 := num_nonneg hy
  have l3 := digs_len_lt (N := num xs + num ys) (by omega) (add_lt (num_lt hx) (num_lt hy))
  have b1 : (digs (num xs)).length ≤ 5000000 := by omega
  have b2 : (digs (num ys)).length ≤ 5000000 := by omega
  have b3 : (digs (num xs + num ys)).length ≤ 10000000 := by omega
  have v1 : Hid (val 65536 (digs (num xs)) = num xs) := val_digs p1
  have v2 : Hid (val 65536 (digs (num ys)) = num ys) := val_digs p2
  have v3 : Hid (val 65536 (digs (num xs + num ys)) = num xs + num ys) := val_digs (by omega)
  clear l1 l2 l3 e1 e2 p1 p2
  go_enter Try.func40, Try.ntmps40
  go_wp2_with fail
  refine (digits_get hr1 hx (by omega)).mono ?_
  rintro e w1 ⟨a1, d1, rfl, _, _, r1, hb1⟩
  have hr2' := hr2.later hb1
  go_wp2_with fail
  refine (digits_get hr2' hy (by omega)).mono ?_
  rintro e w2 ⟨a2, d2, rfl, _, _, r2, hb2⟩
  have r1' := r1.later hb2
  have hbb := hb1.trans (hb2.mono hb1.size)
  clear hr1 hr2 hr2' r1
  go_wp2_with fail
  refine (plus_any r1' r2 (Dg_digs _) (Dg_digs _) b1 b2).mono ?_
  rintro e w3 ⟨v, rfl, hown, hb3⟩
  have hbc := hbb.trans (hb3.mono hbb.size)
  rw [v1.out, v2.out] at hown
  obtain ⟨a3, d3, hv, q1, q2, r3⟩ := hown.reads
  rw [hv]
  clear r1' r2 hb1 hb2 hb3 hbb hown hv
  go_wp2_with fail
  refine (told_any r3 (Dg_digs _) b3 q1 q2).mono ?_
  rintro e w4 ⟨v4, rfl, hown4, hb4⟩
  have hbd := hbc.trans (hb4.mono hbc.size)
  have hsz := hbc.size
  rw [v3.out] at hown4 ⊢
  clear r3 hbc hb4
  go_wp2
  go_ret2
  exact ⟨_, rfl, hown4.wider hsz, hbd⟩
end Go.Proofs.Ytbdljmboilapeab
