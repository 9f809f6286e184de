/- plumbref03: Norm, at, Word; plumblaw03: lent, kept. -/
import Derived.Test.YthjfjpdgjhidfabGreatBaseB
namespace Go.Proofs.YthjfjpdgjhidfabGreat
open Go.ChangeShapes Go.WideShapes Go.ChangeAt Go.RowKit
open Na Ar
set_option linter.unusedVariables false
set_option maxHeartbeats 1600000 in
set_option maxRecDepth 100000 in
theorem ref3Norm_any {a : Option Addr} {n cap : Nat} {xs : List Int} {w : World} (hrow : RowAt .u64 w a n xs) (hx : Ws xs) (hn : n ≤ 12000000) :
    Calls Tryz.prog 68 #[.slice a n cap] w fun e w' => ∃ v, e = .returned v ∧ Own .u64 w' w.heap.size 53 v (words (num xs)) ∧ Below w.heap.size w w' := by
  obtain ⟨i_u64, hi_u64, hz0_u64, hz1_u64, hz2_u64⟩ := info_parts info_u64
  have hlen := hrow.1
  have HW : Hid (strip xs = words (num xs)) := words_strip hx
  go_enter Tryz.func68, Tryz.ntmps68
  go_wp2
  go_loop [3] (fun i => ∃ m : Nat, m ≤ n ∧ i = .int .i64 m ∧ Hid (strip xs = strip (xs.take m))) (fun i => (intOf i).toNat)
  case atStart => exact ⟨n, Nat.le_refl _, rfl, (by rw [List.take_of_length_le (by omega)] : strip xs = strip (xs.take n))⟩
  case round =>
    obtain ⟨m, hm, rfl, hs⟩ := hrel
    by_cases hgo : ∃ j, m = j + 1 ∧ xs.getD j 0 = 0
    · obtain ⟨j, rfl, hx0⟩ := hgo
      obtain ⟨b, off, rfl, hbB, hc⟩ := hrow.at (by omega)
      have hcx := hc j (by omega)
      have hl : xs.take (j + 1) = xs.take j ++ [xs.getD j 0] := take_next (by omega)
      have HG : Hid (strip xs = strip (xs.take j)) := by show _ = _; rw [hs.out, hl, hx0, strip_zero_end]
      have t : (xs.getD j 0 == 0) = true := beq_of hx0
      generalize xs.getD j 0 = x at *
      clear hc hrow hl hs hx0
      go_wp2
      go_round
      case rel => exact ⟨j, by omega, by go_num, HG⟩
      case measure => simp [intOf]
    · have HF : Hid (strip xs = xs.take m) := by
        by_cases h0 : m = 0
        · exact take_strip (by omega) hs.out (Or.inl h0)
        · obtain ⟨j, rfl⟩ : ∃ j, m = j + 1 := ⟨m - 1, by omega⟩
          refine take_strip (by omega) hs.out (Or.inr ?_)
          intro h
          exact hgo ⟨j, rfl, by simpa using h⟩
      have hlast : m = 0 ∨ ∃ j, m = j + 1 ∧ xs.getD j 0 ≠ 0 := by
        by_cases h0 : m = 0
        · exact Or.inl h0
        · exact Or.inr ⟨m - 1, by omega, fun h => hgo ⟨m - 1, by omega, h⟩⟩
      clear hgo hs
      rcases hlast with h0 | ⟨j, hj, hne⟩
      · have t0 : ¬ (0 : Int) < (m : Int) := by omega
        clear h0
        go_wp2
        go_loopw [4, 5] (fun v i wr => ∃ k : Nat, k ≤ m ∧ i = .int .i64 k ∧ Own .u64 wr w.heap.size 53 v (xs.take k) ∧ Below w.heap.size w wr) (fun _ i _ => m - (intOf i).toNat)
        case atStart => exact ⟨0, Nat.zero_le _, rfl, own_nil _ _ _ _, Below.refl _ _⟩
        case round =>
          obtain ⟨k, hk, rfl, hown, hnx⟩ := hrel
          have hsz := hnx.size
          by_cases hlt : k < m
          · exact absurd hlt (by omega)
          · have e : k = m := by omega
            have i1 : ¬ (k : Int) < (m : Int) := by omega
            have HE : Hid (words (num xs) = xs.take k) := by show _ = _; rw [← HW.out, HF.out, e]
            clear e
            go_wp2
            go_ret
            exact ⟨_, rfl, by rw [HE.out]; exact hown, hnx⟩
      · have t0 : (0 : Int) < (m : Int) := by omega
        obtain ⟨b0, off0, hab, hbB0, hc0⟩ := hrow.at (by omega)
        have hcx0 := hc0 j (by omega)
        have hjm : ((m : Int) - 1).toNat = j := by omega
        have t1 : (xs.getD j 0 == 0) = false := beq_no hne
        generalize xs.getD j 0 = x0 at *
        subst hab
        clear hc0 hne hj
        go_wp2
        go_loopw [4, 5] (fun v i wr => ∃ k : Nat, k ≤ m ∧ i = .int .i64 k ∧ Own .u64 wr w.heap.size 53 v (xs.take k) ∧ Below w.heap.size w wr) (fun _ i _ => m - (intOf i).toNat)
        case atStart => exact ⟨0, Nat.zero_le _, rfl, own_nil _ _ _ _, Below.refl _ _⟩
        case round =>
          obtain ⟨k, hk, rfl, hown, hnx⟩ := hrel
          have hsz := hnx.size
          by_cases hlt : k < m
          · have i1 : (k : Int) < (m : Int) := by omega
            obtain ⟨b, off, hab2, hbB, hc⟩ := hrow.at (by omega)
            simp only [Option.some.injEq, Addr.mk.injEq] at hab2
            obtain ⟨rfl, rfl, _⟩ := hab2
            have hcx := (hnx.cell (p := ⟨b0, off0 + k, none⟩) hbB).trans (hc k (by omega))
            have hlk : (xs.take k).length = k := by rw [List.length_take]; omega
            have htk : Hid (xs.take (k + 1) = xs.take k ++ [xs.getD k 0]) := take_next (by omega)
            generalize xs.getD k 0 = x at *
            generalize xs.take k = ys at *
            clear hc hrow
            go_wp2_with (at_builtin; refine wpList_append_own _ rfl _ _ 22 rfl w.heap.size 53 i_u64 (.int .u64 0) 1 8 Tryz.underlying22 hi_u64 hz0_u64 hz1_u64 hz2_u64 rfl (by decide) _ _ _ rfl (hown.row.alloc _) ⟨wr.heap.size, 0, none⟩ 1 1 [.int .u64 x] rfl rfl one_new one_cell (by unfold maxLen; omega) (by omega) (by simp; omega) ?_)
            intro v' w1 hown' hgrow _
            have hb' := grow_below hsz hown.row hnx hgrow
            have ho' := own_next hown' (by omega)
            rw [← htk.out] at ho'
            clear hown' hgrow hown hnx hcx
            go_wp2
            go_roundw
            case rel => exact ⟨k + 1, by omega, by go_num, ho', hb'⟩
            case measure => simp [intOf]; omega
          · have e : k = m := by omega
            have i1 : ¬ (k : Int) < (m : Int) := by omega
            have HE : Hid (words (num xs) = xs.take k) := by show _ = _; rw [← HW.out, HF.out, e]
            clear e
            go_wp2
            go_ret
            exact ⟨_, rfl, by rw [HE.out]; exact hown, hnx⟩
end Go.Proofs.YthjfjpdgjhidfabGreat
