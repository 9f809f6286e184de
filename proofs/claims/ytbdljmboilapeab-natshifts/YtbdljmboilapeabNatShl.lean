/- package nat: Shl. -/
import Derived.Test.YtbdljmboilapeabNatUp
namespace Go.Proofs.Ytbdljmboilapeab
open Go.ChangeShapes Go.WideShapes Go.ChangeAt Go.RowKit
open Na Ar
set_option linter.unusedVariables false

set_option maxHeartbeats 3200000 in
set_option maxRecDepth 100000 in
theorem natShl_any {a : Option Addr} {m c1 : Nat} {xs : List Int} {w : World} (hr1 : RowC w a m c1 xs) (hx : Ws xs) (hm : m ≤ 4000000) (n : Int) (hn9 : n ≤ 9223372036854775807) :
    Calls Try.prog 10 #[.slice a m c1, .int .i64 n] w fun e w' => ∃ v, e = .returned (.tuple #[v, .int .i64 (shlE (num xs) n)]) ∧ Own .u64 w' w.heap.size 47 v (shlL (num xs) n) ∧ Below w.heap.size w w' := by
  by_cases hneg : n < 0
  · have E1 : Hid (shlE (num xs) n = 22) := by show _ = _; unfold shlE; rw [if_pos hneg]
    have E2 : Hid (shlL (num xs) n = []) := by show _ = _; unfold shlL; rw [if_pos hneg]
    go_enter Try.func10, Try.ntmps10
    go_wp2
    go_ret2
    exact ⟨_, by rw [E1.out]; rfl, by rw [E2.out]; exact own_nil _ _ _ _, Below.refl _ _⟩
  · obtain ⟨t, rfl⟩ : ∃ t : Nat, n = (t : Int) := ⟨n.toNat, by omega⟩
    have E1 : Hid (shlE (num xs) (t : Int) = resE (num xs * 2 ^ t)) := by show _ = _; unfold shlE; rw [if_neg hneg]; simp
    have E2 : Hid (shlL (num xs) (t : Int) = resL (num xs * 2 ^ t)) := by show _ = _; unfold shlL; rw [if_neg hneg]; simp
    have p1 := num_nonneg hx
    have hbit := bits0_any hr1 hx hm
    have l1 := hr1.1.1
    have hble := bits_le (N := num xs) (k := xs.length) p1 (num_bd hx)
    have hbn := bits_nonneg (num xs)
    clear hneg
    by_cases hz : num xs = 0
    · have E := res_zero (N := num xs * 2 ^ t) (by rw [hz]; simp)
      have F1 : Hid (shlL (num xs) (t : Int) = []) := by show _ = _; rw [E2.out]; exact E.1
      have F2 : Hid (shlE (num xs) (t : Int) = 0) := by show _ = _; rw [E1.out]; exact E.2
      have hb0 : bitsN (num xs) = 0 := by rw [hz]; rfl
      rw [hb0] at hbit
      clear E hz hb0 hble hbn p1 hr1
      go_enter Try.func10, Try.ntmps10
      go_wp2_with fail
      refine hbit.mono ?_
      rintro e w' ⟨rfl, rfl⟩
      go_wp2
      go_ret2
      exact ⟨_, by rw [F2.out]; rfl, by rw [F1.out]; exact own_nil _ _ _ _, Below.refl _ _⟩
    · obtain ⟨b, hb, a1, a2⟩ := bits_some (N := num xs) (by omega)
      rw [hb] at hbit hble
      obtain ⟨q, hq⟩ : ∃ q : Nat, q = b + 1 := ⟨_, rfl⟩
      have hqb : (b : Int) + 1 = (q : Int) := by omega
      rw [hqb] at hbit hble
      have t1 : ((q : Int) == 0) = false := by simp; omega
      have hsb := shl_bits (t := t) a1 a2
      have hwl := words_bits hsb.1 hsb.2
      have hwx := words_bits a1 a2
      by_cases hbig : 262144 - (q : Int) < (t : Int)
      · have E := res_huge (N := num xs * 2 ^ t) (by omega)
        have F1 : Hid (shlL (num xs) (t : Int) = []) := by show _ = _; rw [E2.out]; exact E.1
        have F2 : Hid (shlE (num xs) (t : Int) = 21) := by show _ = _; rw [E1.out]; exact E.2
        have hq9 : q ≤ 256000000 := by omega
        clear E hz hbn p1 hr1 hwl hsb a1 a2 hb hwx hqb hq hble l1
        go_enter Try.func10, Try.ntmps10
        go_wp2_with fail
        refine hbit.mono ?_
        rintro e w' ⟨rfl, rfl⟩
        go_wp2
        go_ret2
        exact ⟨_, by rw [F2.out]; rfl, by rw [F1.out]; exact own_nil _ _ _ _, Below.refl _ _⟩
      · have ht : t ≤ 262144 := by omega
        have E := res_fits (N := num xs * 2 ^ t) (by omega)
        have F1 : Hid (shlL (num xs) (t : Int) = words (num xs * 2 ^ t)) := by show _ = _; rw [E2.out]; exact E.1
        have F2 : Hid (shlE (num xs) (t : Int) = 0) := by show _ = _; rw [E1.out]; exact E.2
        have hup := up_any hr1 hx hm t (by omega)
        have hq9 : q ≤ 262144 := by omega
        clear E hz hbn p1 hr1 hwl hsb a1 a2 hb hwx hqb hq hble l1
        go_enter Try.func10, Try.ntmps10
        go_wp2_with fail
        refine hbit.mono ?_
        rintro e w' ⟨rfl, rfl⟩
        clear hbit
        go_wp2_with fail
        refine hup.mono ?_
        rintro e w' ⟨v, rfl, hou, hb6⟩
        clear hup
        go_wp2
        go_ret2
        exact ⟨_, by rw [F2.out]; rfl, by rw [F1.out]; exact hou, hb6⟩
end Go.Proofs.Ytbdljmboilapeab
