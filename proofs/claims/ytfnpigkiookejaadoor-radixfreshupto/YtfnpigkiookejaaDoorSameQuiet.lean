/- the law's own comparison of lists as a quiet call. -/
import Derived.Test.YtfnpigkiookejaaDoorBaseB
namespace Go.Proofs.YtfnpigkiookejaaDoor
open Go.ChangeShapes Go.WideShapes Go.ChangeAt Go.RowKit
open Na Ar
set_option linter.unusedVariables false
theorem sameQuiet {a b : Option Addr} {n m c1 c2 : Nat} {xs : List Int} {w : World} (hr1 : RowAt .u64 w a n xs) (hr2 : RowAt .u64 w b m xs) (hn : n * 8 ≤ 140737488351232) :
    Calls Tryd.prog 12 #[.slice a n c1, .slice b m c2] w fun e w' => e = .returned (.bool true) ∧ ∃ d, w' = w.drewN d := by
  have hl1 := hr1.1
  have hl2 := hr2.1
  have hnm : n = m := by omega
  subst hnm
  have HL : Hid (xs.length = n) := hl1
  have t : ((n : Int) != (n : Int)) = false := by simp
  clear hl1 hl2
  go_enter Tryd.func12, Tryd.ntmps12
  go_wp2
  go_loopw [5] (fun i wr => ∃ k d : Nat, k ≤ n ∧ i = .int .i64 k ∧ wr = w.drewN d) (fun i _ => n - (intOf i).toNat)
  case atStart => exact ⟨0, 0, Nat.zero_le _, rfl, rfl⟩
  case round =>
    obtain ⟨k, d, hk, rfl, rfl⟩ := hrel
    by_cases hlt : k < n
    · obtain ⟨b1, o1, rfl, hb1, hc1⟩ := hr1.at (by omega)
      obtain ⟨b2, o2, rfl, hb2, hc2⟩ := hr2.at (by omega)
      have hx1 := hc1 k hlt
      have hx2 := hc2 k hlt
      generalize xs.getD k 0 = x at *
      have t2 : (x != x) = false := by simp
      clear hc1 hc2 hr1 hr2
      go_wp2
      go_quiet (fail)
      go_wp2
      go_roundw
      case rel => exact ⟨k + 1, _, by omega, by go_num, rfl⟩
      case measure => simp [intOf]; omega
    · go_wp2
      go_ret
      exact ⟨rfl, d, rfl⟩
theorem drewNMore (w : World) (a b : Nat) : (w.drewN a).drewN b = w.drewN (a + b) := by
  simp [World.drewN, Nat.add_assoc]
theorem sameDrew {a b : Option Addr} {n m c1 c2 : Nat} {xs : List Int} {w : World} (hr1 : RowAt .u64 w a n xs) (hr2 : RowAt .u64 w b m xs) (hn : n * 8 ≤ 140737488351232) (k : Nat) :
    Calls Tryd.prog 12 #[.slice a n c1, .slice b m c2] (w.drewN k) fun e w' => e = .returned (.bool true) ∧ ∃ d, w' = w.drewN (k + d) := by
  refine (sameQuiet (c1 := c1) (c2 := c2) (hr1.later (below_drewN (Below.refl _ _) k)) (hr2.later (below_drewN (Below.refl _ _) k)) hn).mono ?_
  rintro e w' ⟨rfl, d, rfl⟩
  exact ⟨rfl, d, drewNMore _ _ _⟩
theorem drewPast {w w' : World} {a b : Nat} (h : ∃ d, w' = w.drewN (a + b + d)) : ∃ n, w' = w.drewN (a + n) := by
  obtain ⟨d, hd⟩ := h
  exact ⟨b + d, by rw [hd, Nat.add_assoc]⟩
theorem drewAny {w w' : World} {a : Nat} (h : ∃ d, w' = w.drewN (a + d)) : ∃ n, w' = w.drewN n := by
  obtain ⟨d, hd⟩ := h
  exact ⟨a + d, hd⟩
end Go.Proofs.YtfnpigkiookejaaDoor
