/- plumbref02: told, Norm, carried, plus, Add, Sum .. -/
import Derived.Test.YtbdljmboilapeabRefWords
namespace Go.Proofs.Ytbdljmboilapeab
open Go.ChangeShapes Go.WideShapes Go.ChangeAt Go.RowKit
open Na
set_option linter.unusedVariables false

namespace Na
/-- the words of a number -/
def words (N : Int) : List Int := dig 18446744073709551616 N.toNat
/-- the digits of a number -/
def digs (N : Int) : List Int := dig 65536 N.toNat
/-- what is answered of a number: its words, unless there are more than 4096; and the error -/
def resL (N : Int) : List Int := if (words N).length ≤ 4096 then words N else []
def resE (N : Int) : Int := if (words N).length ≤ 4096 then 0 else 21
theorem Dg_words (N : Int) : Dg 18446744073709551616 (words N) := Dg_dig (B := 18446744073709551616) (by omega) _
theorem Dg_digs (N : Int) : Dg 65536 (digs N) := Dg_dig (B := 65536) (by omega) _
theorem val_digs {N : Int} (h : 0 ≤ N) : val 65536 (digs N) = N := by
  have := val_dig (B := 65536) (by omega) N.toNat
  unfold digs
  have e : val 65536 (dig 65536 N.toNat) = ((N.toNat : Nat) : Int) := this
  rw [e]; omega
theorem val_words {N : Int} (h : 0 ≤ N) : val 18446744073709551616 (words N) = N := by
  have := val_dig (B := 18446744073709551616) (by omega) N.toNat
  unfold words
  have e : val 18446744073709551616 (dig 18446744073709551616 N.toNat) = ((N.toNat : Nat) : Int) := this
  rw [e]; omega
/-- a number that is below a power has no more digits -/
theorem dig_length {B : Nat} (hB : 2 ≤ B) {n k : Nat} (h : n < B ^ k) : (dig B n).length ≤ k := by
  induction k generalizing n with
  | zero => simp at h; subst h; rw [dig_zero]; simp
  | succ k ih =>
    by_cases e : n = 0
    · subst e; rw [dig_zero]; simp
    · rw [dig_step hB e, List.length_cons]
      have : n / B < B ^ k := by
        rw [Nat.div_lt_iff_lt_mul (by omega), ← Nat.pow_succ]; exact h
      have := ih this
      omega
theorem val_lt {B : Int} (hB : 0 < B) {xs : List Int} (h : Dg B xs) : val B xs < B ^ xs.length := by
  induction xs with
  | nil => simp [val]
  | cons x xs ih =>
    have i := ih h.tail
    have g := h.head
    rw [val_cons, List.length_cons, Int.pow_succ, Int.mul_comm _ B]
    have : B * (val B xs + 1) ≤ B * B ^ xs.length := Int.mul_le_mul_of_nonneg_left (by omega) (by omega)
    rw [Int.mul_add] at this
    omega
end Na

theorem told_any {a : Option Addr} {n cap : Nat} {ds : List Int} {w : World} (hrow : RowAt .i64 w a n ds) (hx : Dg 65536 ds) (hn : n ≤ 10000000) (hcap : n ≤ cap) (hcap' : cap ≤ maxLen) :
    Calls Try.prog 63 #[.slice a n cap] w fun e w' => ∃ v, e = .returned (.tuple #[v, .int .i64 (resE (val 65536 ds))]) ∧ Own .u64 w' w.heap.size 47 v (resL (val 65536 ds)) ∧ Below w.heap.size w w' := by
  by_cases hl : (words (val 65536 ds)).length ≤ 4096
  · have e1 : Hid (resE (val 65536 ds) = 0) := by show _ = _; unfold resE; rw [if_pos hl]
    have e2 : Hid (resL (val 65536 ds) = words (val 65536 ds)) := by show _ = _; unfold resL; rw [if_pos hl]
    go_enter Try.func63, Try.ntmps63
    go_wp2_with fail
    refine (words_any hrow hx hn hcap hcap').mono ?_
    rintro e w' ⟨v, rfl, hown, hb⟩
    obtain ⟨a2, cap2, hv, hc2, hr2⟩ := hown.read
    rw [hv] at hown ⊢
    have hl' : (dig 18446744073709551616 (val 65536 ds).toNat).length ≤ 4096 := hl
    clear hr2 hc2 hl hv
    go_wp2
    go_ret2
    exact ⟨_, by rw [e1.out]; rfl, by rw [e2.out]; exact hown, hb⟩
  · have e1 : Hid (resE (val 65536 ds) = 21) := by show _ = _; unfold resE; rw [if_neg hl]
    have e2 : Hid (resL (val 65536 ds) = []) := by show _ = _; unfold resL; rw [if_neg hl]
    go_enter Try.func63, Try.ntmps63
    go_wp2_with fail
    refine (words_any hrow hx hn hcap hcap').mono ?_
    rintro e w' ⟨v, rfl, hown, hb⟩
    obtain ⟨a2, cap2, hv, hc2, hr2⟩ := hown.read
    rw [hv]
    have hl' : 4096 < (dig 18446744073709551616 (val 65536 ds).toNat).length := Nat.lt_of_not_le hl
    clear hr2 hc2 hl hv hown
    go_wp2
    go_ret2
    exact ⟨_, by rw [e1.out]; rfl, by rw [e2.out]; exact own_nil _ _ _ _, hb⟩

theorem refNorm_any {a : Option Addr} {n cap : Nat} {xs : List Int} {w : World} (hrow : RowAt .u64 w a n xs) (hx : Dg 18446744073709551616 xs) (hn : n ≤ 1000000) :
    Calls Try.prog 32 #[.slice a n cap] w fun e w' => ∃ v, e = .returned v ∧ Own .u64 w' w.heap.size 47 v (Na.words (val 18446744073709551616 xs)) ∧ Below w.heap.size w w' := by
  have v0 := val_nonneg (B := 18446744073709551616) (by omega) hx
  have hlen := hrow.1
  have HD : Hid (val 65536 (dig 65536 (val 18446744073709551616 xs).toNat) = val 18446744073709551616 xs) := val_digs v0
  have hdl : (dig 65536 (val 18446744073709551616 xs).toNat).length ≤ 4 * n := by
    refine dig_length (by omega) ?_
    have h1 := val_lt (by omega) hx
    rw [hlen] at h1
    have e : (65536 : Nat) ^ (4 * n) = 18446744073709551616 ^ n := by rw [Nat.pow_mul]
    rw [e]
    have c : ((18446744073709551616 ^ n : Nat) : Int) = (18446744073709551616 : Int) ^ n := by simp
    omega
  have hdd : Dg 65536 (dig 65536 (val 18446744073709551616 xs).toNat) := Dg_digs _
  go_enter Try.func32, Try.ntmps32
  go_wp2_with fail
  refine (digits_any hrow hx hn).mono ?_
  rintro e w' ⟨v, rfl, hown, hb⟩
  obtain ⟨a2, cap2, hv, hc2, hr2⟩ := hown.read
  have hcm : cap2 ≤ maxLen := by rw [hv] at hown; exact own_cap hown
  rw [hv]
  generalize dig 65536 (val 18446744073709551616 xs).toNat = ds at *
  clear hown hv
  go_wp2_with fail
  refine (words_any hr2 hdd (by omega) hc2 hcm).mono ?_
  rintro e w'' ⟨v2, rfl, hown2, hb2⟩
  have hbb := hb.trans (hb2.mono hb.size)
  have hsz := hb.size
  rw [HD.out] at hown2
  clear hr2 hb hb2
  go_wp2
  go_ret
  exact ⟨_, rfl, hown2.wider hsz, hbb⟩
end Go.Proofs.Ytbdljmboilapeab
