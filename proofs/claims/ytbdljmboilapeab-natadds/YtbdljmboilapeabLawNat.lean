/- The helpers of plumblaw02: cut, same, told. -/
import Derived.Test.YtbdljmboilapeabSlices
namespace Go.Proofs.Ytbdljmboilapeab
open Go.ChangeShapes Go.WideShapes Go.ChangeAt Go.RowKit
set_option linter.unusedVariables false

theorem info_u64 : (Try.prog.info? 47).map (fun i => (i.zero, i.size, i.bytes)) = some (some (.int .u64 0), 1, 8) := by kernel_rfl
theorem info_int : (Try.prog.info? 3).map (fun i => (i.zero, i.size, i.bytes)) = some (some (.int .i64 0), 1, 8) := by kernel_rfl

set_option maxHeartbeats 1600000 in
set_option maxRecDepth 100000 in
theorem lawCut_any {a : Option Addr} {n cap : Nat} {xs : List Int} {w : World} (hrow : RowAt .u64 w a n xs) (hn : n ≤ maxLen) :
    Calls Try.prog 9 #[.slice a n cap] w fun e w' => ∃ v, e = .returned v ∧ Own .u64 w' w.heap.size 47 v (xs.take 60) ∧ Below w.heap.size w w' := by
  obtain ⟨i_u64, hi_u64, hz0_u64, hz1_u64, hz2_u64⟩ := info_parts info_u64
  have hlen := hrow.1
  unfold maxLen at hn
  go_enter Try.func9, Try.ntmps9
  go_wp2
  go_loopw [3, 4] (fun v i wr => ∃ k : Nat, k ≤ n ∧ k ≤ 60 ∧ i = .int .i64 k ∧ Own .u64 wr w.heap.size 47 v (xs.take k) ∧ Below w.heap.size w wr) (fun _ i _ => 60 - (intOf i).toNat)
  case atStart => exact ⟨0, Nat.zero_le _, Nat.zero_le _, rfl, own_nil _ _ _ _, Below.refl _ _⟩
  case round =>
    obtain ⟨k, hk, hk', rfl, hown, hnx⟩ := hrel
    have hsz := hnx.size
    by_cases hlt : k < n
    · by_cases hlt' : k < 60
      · obtain ⟨b, off, rfl, hbB, hc⟩ := hrow.at (by omega)
        have hcx := (hnx.cell (p := ⟨b, off + k, none⟩) hbB).trans (hc k hlt)
        have hlk : (xs.take k).length = k := by rw [List.length_take]; omega
        have htk : Hid (xs.take (k + 1) = xs.take k ++ [xs.getD k 0]) := take_next (by omega)
        generalize xs.getD k 0 = x at *
        generalize xs.take k = ys at *
        clear hc hrow
        go_wp2_with (at_builtin; refine wpList_append_own _ rfl _ _ 22 rfl w.heap.size 47 i_u64 (.int .u64 0) 1 8 Try.underlying22 hi_u64 hz0_u64 hz1_u64 hz2_u64 rfl (by decide) _ _ _ rfl (hown.row.alloc _) ⟨wr.heap.size, 0, none⟩ 1 1 [.int .u64 x] rfl rfl one_new one_cell (by unfold maxLen; omega) (by omega) (by simp; omega) ?_)
        intro v' w1 hown' hgrow _
        have hb' := grow_below hsz hown.row hnx hgrow
        have ho' := own_next hown' (by omega)
        rw [← htk.out] at ho'
        clear hown' hgrow hown hnx hcx
        go_wp2
        go_roundw
        case rel => exact ⟨k + 1, by omega, by omega, by go_num, ho', hb'⟩
        case measure => simp [intOf]; omega
      · have e : k = 60 := by omega
        subst e
        go_wp2
        go_ret
        exact ⟨_, rfl, hown, hnx⟩
    · have e : k = n := by omega
      have HE : Hid (xs.take 60 = xs.take k) := by
        show _ = _
        rw [List.take_of_length_le (by omega), List.take_of_length_le (by omega)]
      go_wp2
      go_ret
      exact ⟨_, rfl, by rw [HE.out]; exact hown, hnx⟩
end Go.Proofs.Ytbdljmboilapeab
