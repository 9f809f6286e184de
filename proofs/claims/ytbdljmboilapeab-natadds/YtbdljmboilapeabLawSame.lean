/- plumblaw02.same, told. -/
import Derived.Test.YtbdljmboilapeabLawNat
namespace Go.Proofs.Ytbdljmboilapeab
open Go.ChangeShapes Go.WideShapes Go.ChangeAt Go.RowKit
set_option linter.unusedVariables false

theorem ret_bool' {p q : Bool} (h : p = q) : Ending.returned (.bool p) = .returned (.bool q) := by rw [h]
theorem same_take {xs ys : List Int} {k : Nat} (h : xs.take k = ys.take k) (hx : k < xs.length) (hy : k < ys.length) (he : xs.getD k 0 = ys.getD k 0) : xs.take (k + 1) = ys.take (k + 1) := by
  rw [take_next hx, take_next hy, h, he]
theorem same_any {a b : Option Addr} {n m c1 c2 : Nat} {xs ys : List Int} {w : World} (hr1 : RowAt .u64 w a n xs) (hr2 : RowAt .u64 w b m ys) (hn : n * 8 ≤ 140737488351232) (hm : m * 8 ≤ 140737488351232) :
    Calls Try.prog 26 #[.slice a n c1, .slice b m c2] w fun e w' => e = .returned (.bool (decide (xs = ys))) ∧ Below w.heap.size w w' := by
  have hl1 := hr1.1
  have hl2 := hr2.1
  by_cases hnm : n = m
  · have t : ((n : Int) != (m : Int)) = false := by simp [hnm]
    have hnm' : n ≤ m := by omega
    have hmn' : m ≤ n := by omega
    have HL : Hid (xs.length = ys.length) := by show _ = _; omega
    clear hnm
    go_enter Try.func26, Try.ntmps26
    go_wp2
    go_loopw [5] (fun i wr => ∃ k : Nat, k ≤ n ∧ i = .int .i64 k ∧ Hid (xs.take k = ys.take k) ∧ Below w.heap.size w wr) (fun i _ => n - (intOf i).toNat)
    case atStart => exact ⟨0, Nat.zero_le _, rfl, (by simp : xs.take 0 = ys.take 0), Below.refl _ _⟩
    case round =>
      obtain ⟨k, hk, rfl, hs, hnx⟩ := hrel
      by_cases hlt : k < n
      · obtain ⟨b1, o1, rfl, hb1, hc1⟩ := hr1.at (by omega)
        obtain ⟨b2, o2, rfl, hb2, hc2⟩ := hr2.at (by omega)
        have hx1 := (hnx.cell (p := ⟨b1, o1 + k, none⟩) hb1).trans (hc1 k hlt)
        have hx2 := (hnx.cell (p := ⟨b2, o2 + k, none⟩) hb2).trans (hc2 k (by omega))
        have hst := same_take hs.out (by omega) (by omega)
        have hne : xs.getD k 0 ≠ ys.getD k 0 → ¬ xs = ys := fun h e => h (by rw [e])
        generalize xs.getD k 0 = x at *
        generalize ys.getD k 0 = y at *
        have hlt2 : k < m := by omega
        clear hc1 hc2 hr1 hr2
        by_cases e : x = y
        · have t2 : (x != y) = false := by simp [e]
          have HS : Hid (xs.take (k + 1) = ys.take (k + 1)) := hst e
          clear hst hne e hs
          go_wp2
          go_quiet (fail)
          go_wp2
          go_roundw
          case rel => exact ⟨k + 1, by omega, by go_num, HS, below_drewN hnx _⟩
          case measure => simp [intOf]; omega
        · have t2 : (x != y) = true := by simp [e]
          have HN : Hid (decide (xs = ys) = false) := decide_eq_false (hne e)
          clear hst hne e hs
          go_wp2
          go_quiet (fail)
          go_wp2
          go_ret
          exact ⟨ret_bool' HN.out.symm, below_drewN hnx _⟩
      · have HE : Hid (decide (xs = ys) = true) := decide_eq_true (by
          have h := hs.out
          rw [List.take_of_length_le (by omega), List.take_of_length_le (by omega)] at h
          exact h)
        go_wp2
        go_ret
        exact ⟨ret_bool' HE.out.symm, hnx⟩
  · have t : ((n : Int) != (m : Int)) = true := by simp; omega
    have HN : Hid (decide (xs = ys) = false) := decide_eq_false (fun e => hnm (by rw [← hl1, ← hl2, e]))
    clear hnm
    go_enter Try.func26, Try.ntmps26
    go_wp2
    go_ret
    exact ⟨ret_bool' HN.out.symm, Below.refl _ _⟩
end Go.Proofs.Ytbdljmboilapeab
