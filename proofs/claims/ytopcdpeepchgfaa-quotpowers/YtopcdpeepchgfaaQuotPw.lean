/- powers in the laws. -/
import Derived.Test.YtopcdpeepchgfaaQuotLive
namespace Go.Proofs.Ytopcdpeepchgfaa
open Go.ChangeShapes Go.WideShapes Go.ChangeAt Go.RowKit
open Na Ar
set_option linter.unusedVariables false
namespace Na
theorem Lt.pow {A : Int} {k : Nat} (h : Lt A k) (t : Nat) : Lt (A ^ t) (k * t + 1) := by
  refine ⟨Int.pow_nonneg h.1, ?_⟩
  have a := ipow_base h.1 (Int.le_of_lt h.2) t
  rw [← Int.pow_mul] at a
  have p := wpow_pos (k * t)
  rw [Int.pow_succ]
  omega
end Na
section
variable {a : Option Addr} {n c1 : Nat} {xs : List Int} {A : Int} {w : World}
theorem powNegQ (hr1 : RowC w a n c1 xs) (h1 : Nm xs A) (t : Int) (h0 : -9223372036854775808 ≤ t) (ht : t < 0) :
    Calls Try.prog 10 #[.slice a n c1, .int .i64 t] w fun e w' => ∃ a1 d1, e = .returned (.tuple #[.slice a1 0 d1, .int .i64 31]) ∧ Below w.heap.size w w' := by
  refine (pow_any hr1 h1.ws (by have := h1.len; have := hr1.1.1; omega) t h0 (by omega)).mono ?_
  rintro e w' ⟨v1, rfl, ho1, hb⟩
  have e1 : powE (num xs) t = 31 := by unfold powE; rw [if_pos ht]
  have e2 : powL (num xs) t = [] := by unfold powL; rw [if_pos ht]
  rw [e1]
  rw [e2] at ho1
  obtain ⟨a1, d1, rfl, q1⟩ := ho1.readsC
  exact ⟨a1, d1, rfl, hb⟩
theorem powBigQ (hr1 : RowC w a n c1 xs) (h1 : Nm xs A) (hA : 1 < bitsN A) :
    Calls Try.prog 10 #[.slice a n c1, .int .i64 4611686018427387904] w fun e w' => ∃ a1 d1, e = .returned (.tuple #[.slice a1 0 d1, .int .i64 21]) ∧ Below w.heap.size w w' := by
  refine (pow_any hr1 h1.ws (by have := h1.len; have := hr1.1.1; omega) 4611686018427387904 (by omega) (by omega)).mono ?_
  rintro e w' ⟨v1, rfl, ho1, hb⟩
  have hA0 : 0 < A := by
    have := h1.nonneg
    by_cases g : A = 0
    · rw [g, bits_none] at hA; omega
    · omega
  obtain ⟨b, hb2, a1, a2⟩ := bits_some hA0
  have hg : 262144 ≤ b * (4611686018427387904 : Int).toNat := by
    have hb1 : 1 ≤ b := by omega
    have e : (4611686018427387904 : Int).toNat = 4611686018427387904 := rfl
    rw [e]
    have := Nat.mul_le_mul_right 4611686018427387904 hb1
    omega
  have hh := res_huge (N := A ^ (4611686018427387904 : Int).toNat) (pow_huge a1 hg)
  have e1 : powE (num xs) 4611686018427387904 = 21 := by unfold powE; rw [if_neg (by omega), h1.num]; exact hh.2
  have e2 : powL (num xs) 4611686018427387904 = [] := by unfold powL; rw [if_neg (by omega), h1.num]; exact hh.1
  rw [e1]
  rw [e2] at ho1
  obtain ⟨a1, d1, rfl, q1⟩ := ho1.readsC
  exact ⟨a1, d1, rfl, hb⟩
theorem powFewQ (hr1 : RowC w a n c1 xs) (h1 : Nm xs A) (hA : bitsN A ≤ 1) :
    Calls Try.prog 10 #[.slice a n c1, .int .i64 4611686018427387904] w fun e w' => ∃ a1 n1 d1 l1, e = .returned (.tuple #[.slice a1 n1 d1, .int .i64 0]) ∧ RowC w' a1 n1 d1 l1 ∧ Nm l1 A ∧ Hid (l1 = words A) ∧ Below w.heap.size w w' := by
  refine (pow_any hr1 h1.ws (by have := h1.len; have := hr1.1.1; omega) 4611686018427387904 (by omega) (by omega)).mono ?_
  rintro e w' ⟨v1, rfl, ho1, hb⟩
  obtain ⟨s1, s2⟩ := pow_small h1.nonneg hA (n := (4611686018427387904 : Int).toNat) (by decide)
  have o1 := res_fits (N := A) (by omega)
  have e1 : powE (num xs) 4611686018427387904 = 0 := by unfold powE; rw [if_neg (by omega), h1.num, s1]; exact o1.2
  have e2 : powL (num xs) 4611686018427387904 = words A := by unfold powL; rw [if_neg (by omega), h1.num, s1]; exact o1.1
  rw [e1]
  rw [e2] at ho1
  obtain ⟨a1, d1, rfl, q1⟩ := ho1.readsC
  exact ⟨a1, _, d1, _, rfl, q1, ⟨Dg_words _, num_words h1.nonneg, by omega⟩, rfl, hb⟩
end
theorem within3_any (n : Int) (h0 : -9223372036854775808 ≤ n) (h1 : n ≤ 9223372036854775807) (w : World) :
    Calls Try.prog 25 #[.int .i64 n, .int .i64 12] w fun e w' => ∃ t : Nat, e = .returned (.int .i64 (t : Int)) ∧ t ≤ 12 ∧ Below w.heap.size w w' := by
  have hm := Int.tmod_eq_emod (a := n) (b := (13 : Int))
  have e0 := Int.emod_nonneg n (show (13 : Int) ≠ 0 by omega)
  have e1 := Int.emod_lt_of_pos n (show (0 : Int) < 13 by omega)
  have hq2 : n.tmod 13 = n % 13 ∨ n.tmod 13 = n % 13 - 13 := by
    rw [hm]
    split
    · left; omega
    · right; simp
  obtain ⟨r, hr⟩ : ∃ r : Nat, (r : Int) = n % 13 := ⟨(n % 13).toNat, by omega⟩
  have hrt : r ≤ 12 := by omega
  by_cases hneg : n.tmod 13 < 0
  · have HR : Hid (n.tmod 13 + 12 + 1 = (r : Int)) := by show _ = _; omega
    have b1 : -14 < n.tmod 13 := by omega
    clear hm hq2 hr e0 e1
    go_enter Try.func25, Try.ntmps25
    go_wp2
    go_ret
    exact ⟨r, ret_i HR.out, hrt, Below.refl _ _⟩
  · have HR : Hid (n.tmod 13 = (r : Int)) := by show _ = _; omega
    clear hm hq2 hr e0 e1
    go_enter Try.func25, Try.ntmps25
    go_wp2
    go_ret
    exact ⟨r, ret_i HR.out, hrt, Below.refl _ _⟩
end Go.Proofs.Ytopcdpeepchgfaa
