/- plumbref03: Bits. -/
import Derived.Test.YthjfjpdgjhidfabGreatRef3Norm
namespace Go.Proofs.YthjfjpdgjhidfabGreat
open Go.ChangeShapes Go.WideShapes Go.ChangeAt Go.RowKit
open Na Ar
set_option linter.unusedVariables false
namespace Na
theorem lenW_half {v : Int} (h : U v) (h0 : v ≠ 0) : lenW v = lenW (v / 2) + 1 := by
  obtain ⟨k, hk, e, h1, h2⟩ := lenW_pos h h0
  rw [e]
  cases k with
  | zero =>
    have : v / 2 = 0 := by simp at h1 h2; omega
    rw [this, lenW_zero]; rfl
  | succ k =>
    have e1 : (2 : Int) ^ (k + 1) = 2 * 2 ^ k := by rw [Int.pow_succ, Int.mul_comm]
    have e2 : (2 : Int) ^ (k + 1 + 1) = 2 * 2 ^ (k + 1) := by rw [Int.pow_succ, Int.mul_comm]
    rw [lenW_eq (x := v / 2) (k := k) (by omega) (by omega)]
    omega
theorem take_zero_end {xs : List Int} {j : Nat} (hj : j < xs.length) (h : xs.getD j 0 = 0) : num (xs.take (j + 1)) = num (xs.take j) := by
  have t : num (xs.take (j + 1)) = num (xs.take j) + 18446744073709551616 ^ j * xs.getD j 0 := take_valB hj
  rw [t, h, Int.mul_zero, Int.add_zero]
theorem bits_at {xs : List Int} {j : Nat} (hx : Ws xs) (hj : j < xs.length) (h : xs.getD j 0 ≠ 0) : bitsN (num (xs.take (j + 1))) = 64 * (j : Int) + lenW (xs.getD j 0) := by
  have g := hx.getAnyB j
  obtain ⟨k, hk, e, h1, h2⟩ := lenW_pos (x := xs.getD j 0) g h
  rw [take_next hj, bits_word (hx.take j) h1 h2, List.length_take, Nat.min_eq_left (by omega), e]
  omega
end Na
set_option maxHeartbeats 1600000 in
set_option maxRecDepth 100000 in
theorem ref3Bits_any {a : Option Addr} {n cap : Nat} {xs : List Int} {w : World} (hrow : RowAt .u64 w a n xs) (hx : Ws xs) (hn : n ≤ 12000000) :
    Calls Tryz.prog 69 #[.slice a n cap] w fun e w' => e = .returned (.int .i64 (bitsN (num xs))) ∧ w = w' := by
  have hlen := hrow.1
  go_enter Tryz.func69, Tryz.ntmps69
  go_wp2
  go_loop [3, 4, 5] (fun i _ _ => ∃ (k : Nat) (I : Int), i = .int .i64 I ∧ I = (k : Int) - 1 ∧ k ≤ n ∧ Hid (num xs = num (xs.take k))) (fun i _ _ => (intOf i + 1).toNat)
  case atStart => exact ⟨n, _, rfl, rfl, Nat.le_refl _, (by rw [List.take_of_length_le (by omega)] : num xs = num (xs.take n))⟩
  case round =>
    obtain ⟨k, I, rfl, hI, hk, hs⟩ := hrel
    cases k with
    | zero =>
      have HZ : Hid (bitsN (num xs) = 0) := by
        show _ = _
        rw [hs.out, List.take_zero]; rfl
      have hneg : I < 0 := by omega
      clear hI
      go_wp2
      go_ret
      exact ⟨by rw [HZ.out]; rfl, rfl⟩
    | succ j =>
      have hI' : I = (j : Int) := by omega
      clear hI
      subst hI'
      obtain ⟨b, off, rfl, hbB, hc⟩ := hrow.at (by omega)
      have hcx := hc j (by omega)
      have gx : U (xs.getD j 0) := hx.getAnyB j
      by_cases h0 : xs.getD j 0 = 0
      · have HZ : Hid (num xs = num (xs.take j)) := by show _ = _; rw [hs.out, take_zero_end (by omega) h0]
        have t0 : ¬ 0 < xs.getD j 0 := by omega
        generalize xs.getD j 0 = x at *
        clear hc hrow h0
        go_wp2
        go_round
        case rel => exact ⟨j, _, rfl, by omega, by omega, HZ⟩
        case measure => simp [intOf]
      · have HB : Hid (bitsN (num xs) = 64 * (j : Int) + lenW (xs.getD j 0)) := by show _ = _; rw [hs.out, bits_at hx (by omega) h0]
        have t0 : 0 < xs.getD j 0 := by unfold U at gx; omega
        have hlb := lenW_bd gx
        generalize xs.getD j 0 = x at *
        clear hc hrow h0
        go_wp2
        go_loop [4, 5] (fun c v => ∃ (C V : Int), c = .int .i64 C ∧ v = .int .u64 V ∧ U V ∧ C + lenW V = 64 * (j : Int) + lenW x ∧ 64 * (j : Int) ≤ C) (fun _ v => (intOf v).toNat)
        case atStart => exact ⟨_, x, rfl, rfl, gx, rfl, Int.le_refl _⟩
        case round =>
          obtain ⟨C, V, rfl, rfl, hV, hCV, hC0⟩ := hrel
          have hVb := lenW_bd hV
          by_cases hz : V = 0
          · subst hz
            rw [lenW_zero, Int.add_zero] at hCV
            have HE : Hid (C = bitsN (num xs)) := by show _ = _; rw [HB.out]; exact hCV
            clear hCV
            go_wp2
            go_ret
            exact ⟨by rw [← HE.out]; rfl, rfl⟩
          · have hl := lenW_half hV hz
            have hVp : 0 < V := by unfold U at hV; omega
            have hV2 : U (V / 2) := by unfold U at *; omega
            have hN : C + 1 + lenW (V / 2) = 64 * (j : Int) + lenW x := by omega
            have hC9 : C ≤ 1000000000 := by omega
            have HN : Hid (C + 1 + lenW (V / 2) = 64 * (j : Int) + lenW x) := hN
            unfold U at hV
            clear hl hN hCV
            go_wp2
            go_round
            case rel => exact ⟨C + 1, V / 2, rfl, rfl, hV2, HN.out, by omega⟩
            case measure => simp [intOf]; omega
end Go.Proofs.YthjfjpdgjhidfabGreat
