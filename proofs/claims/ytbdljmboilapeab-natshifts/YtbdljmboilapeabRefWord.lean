/- plumbref02: Word, Bits, Bit, Zeros. -/
import Derived.Test.YtbdljmboilapeabRefSub
namespace Go.Proofs.Ytbdljmboilapeab
open Go.ChangeShapes Go.WideShapes Go.ChangeAt Go.RowKit
open Na
set_option linter.unusedVariables false

namespace Na
def wordV (N : Int) : Int := if N < 18446744073709551616 then N else 0
def wordB (N : Int) : Bool := decide (N < 18446744073709551616)
theorem words_cases {N : Int} (h : 0 ≤ N) : (N = 0 ∧ words N = []) ∨ (0 < N ∧ N < 18446744073709551616 ∧ words N = [N]) ∨ (18446744073709551616 ≤ N ∧ 2 ≤ (words N).length) := by
  unfold words
  by_cases e : N = 0
  · subst e; exact Or.inl ⟨rfl, dig_zero _⟩
  · rw [dig_step (by omega) (by omega)]
    by_cases l : N < 18446744073709551616
    · right; left
      have e1 : N.toNat / 18446744073709551616 = 0 := by omega
      have e2 : ((N.toNat % 18446744073709551616 : Nat) : Int) = N := by omega
      rw [e1, dig_zero, e2]
      exact ⟨by omega, l, rfl⟩
    · right; right
      refine ⟨by omega, ?_⟩
      rw [dig_step (by omega) (by omega)]
      simp
end Na

theorem ret_ib {k : IntKind} {a b : Int} {p q : Bool} (h : a = b) (h' : p = q) : Ending.returned (.tuple #[.int k a, .bool p]) = .returned (.tuple #[.int k b, .bool q]) := by rw [h, h']
theorem refWord_any {a : Option Addr} {n cap : Nat} {xs : List Int} {w : World} (hrow : RowAt .u64 w a n xs) (hx : Ws xs) (hn : n ≤ 1000000) :
    Calls Try.prog 36 #[.slice a n cap] w fun e w' => e = .returned (.tuple #[.int .u64 (wordV (num xs)), .bool (wordB (num xs))]) ∧ Below w.heap.size w w' := by
  have p := num_nonneg hx
  rcases words_cases p with ⟨h0, hw⟩ | ⟨h1, h2, hw⟩ | ⟨h1, hw⟩
  · have E1 : Hid (0 = wordV (num xs)) := by show _ = _; rw [h0]; rfl
    have E2 : Hid (true = wordB (num xs)) := by show _ = _; rw [h0]; rfl
    clear h0
    go_enter Try.func36, Try.ntmps36
    go_wp2_with fail
    refine (refNorm_any hrow hx hn).mono ?_
    rintro e w' ⟨v, rfl, hown, hb⟩
    have hown' : Own .u64 w' w.heap.size 47 v (Na.words (num xs)) := hown
    rw [hw] at hown'
    obtain ⟨a2, c2, hv, _, _, r⟩ := hown'.reads
    rw [hv]
    clear hown hown' hv hrow hw r p
    go_wp2
    go_ret2
    exact ⟨ret_ib E1.out E2.out, hb⟩
  · have E1 : Hid (num xs = wordV (num xs)) := by show _ = _; unfold wordV; rw [if_pos h2]
    have E2 : Hid (true = wordB (num xs)) := by show _ = _; unfold wordB; rw [decide_eq_true h2]
    clear h1 h2
    go_enter Try.func36, Try.ntmps36
    go_wp2_with fail
    refine (refNorm_any hrow hx hn).mono ?_
    rintro e w' ⟨v, rfl, hown, hb⟩
    have hown' : Own .u64 w' w.heap.size 47 v (Na.words (num xs)) := hown
    rw [hw] at hown'
    obtain ⟨a2, c2, hv, _, _, r⟩ := hown'.reads
    rw [hv]
    obtain ⟨b, off, rfl, _, hc⟩ := r.at (by simp)
    have hcx : w'.cell? ⟨b, off, none⟩ = some (.int .u64 (num xs)) := by have := hc 0 (by simp); simpa using this
    clear hown hown' hv hrow hw r p hc
    go_wp2
    go_ret2
    exact ⟨ret_ib E1.out E2.out, hb⟩
  · have hge : ¬ num xs < 18446744073709551616 := by omega
    have E1 : Hid (0 = wordV (num xs)) := by show _ = _; unfold wordV; rw [if_neg hge]
    have E2 : Hid (false = wordB (num xs)) := by show _ = _; unfold wordB; rw [decide_eq_false hge]
    clear h1 hge
    go_enter Try.func36, Try.ntmps36
    go_wp2_with fail
    refine (refNorm_any hrow hx hn).mono ?_
    rintro e w' ⟨v, rfl, hown, hb⟩
    have hown' : Own .u64 w' w.heap.size 47 v (Na.words (num xs)) := hown
    obtain ⟨a2, c2, hv, _, _, r⟩ := hown'.reads
    rw [hv]
    generalize (Na.words (num xs)).length = L at *
    have t1 : ((L : Int) == 0) = false := by simp; omega
    have t2 : 1 < (L : Int) := by omega
    clear hown hown' hv hrow r p
    go_wp2
    go_ret2
    exact ⟨ret_ib E1.out E2.out, hb⟩
end Go.Proofs.Ytbdljmboilapeab
