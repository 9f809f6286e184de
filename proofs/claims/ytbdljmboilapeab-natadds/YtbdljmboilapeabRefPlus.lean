/- plumbref02: plus, compare. -/
import Derived.Test.YtbdljmboilapeabRefCarry
namespace Go.Proofs.Ytbdljmboilapeab
open Go.ChangeShapes Go.WideShapes Go.ChangeAt Go.RowKit
open Na
set_option linter.unusedVariables false

namespace Na
def PlusInv (xs ys : List Int) (k : Nat) (fs : List Int) : Prop := Bd 131070 fs ∧ fs.length = k ∧ val 65536 fs + 65536 ^ k * (val 65536 (xs.drop k) + val 65536 (ys.drop k)) = val 65536 xs + val 65536 ys
theorem plus_start (xs ys : List Int) : PlusInv xs ys 0 [] := ⟨Bd.nil _, rfl, by simp [val]⟩
theorem getD_out {xs : List Int} {k : Nat} (h : xs.length ≤ k) : xs.getD k 0 = 0 := by simp [List.getD_eq_getElem?_getD, List.getElem?_eq_none h]
theorem Dg.getAny {xs : List Int} (h : Dg 65536 xs) (k : Nat) : 0 ≤ xs.getD k 0 ∧ xs.getD k 0 ≤ 65535 := by
  by_cases hk : k < xs.length
  · have := h.get hk; omega
  · rw [getD_out (by omega)]; omega
theorem plus_step {xs ys fs : List Int} {k : Nat} (hx : Dg 65536 xs) (hy : Dg 65536 ys) (h : PlusInv xs ys k fs) : PlusInv xs ys (k + 1) (fs ++ [xs.getD k 0 + ys.getD k 0]) := by
  obtain ⟨h1, h2, h3⟩ := h
  have gx := hx.getAny k
  have gy := hy.getAny k
  refine ⟨h1.append (Bd.one (by omega)), by rw [List.length_append, h2]; rfl, ?_⟩
  rw [val_append, h2, ← h3, drop_step (ds := xs) (i := k), drop_step (ds := ys) (i := k), Int.pow_succ]
  have e4 : val 65536 [xs.getD k 0 + ys.getD k 0] = xs.getD k 0 + ys.getD k 0 := by simp [val]
  rw [e4]
  generalize val 65536 (xs.drop (k + 1)) = V
  generalize val 65536 (ys.drop (k + 1)) = U
  generalize (65536 : Int) ^ k = P
  grind
theorem plus_done {xs ys fs : List Int} {k : Nat} (h : PlusInv xs ys k fs) (hx : xs.length ≤ k) (hy : ys.length ≤ k) : val 65536 fs = val 65536 xs + val 65536 ys := by
  obtain ⟨h1, h2, h3⟩ := h
  rw [List.drop_of_length_le hx, List.drop_of_length_le hy, val_nil] at h3
  simpa using h3
end Na

set_option maxHeartbeats 1600000 in
set_option maxRecDepth 100000 in
theorem plus_any {a b : Option Addr} {n m c1 c2 : Nat} {xs ys : List Int} {w : World} (hr1 : RowAt .i64 w a n xs) (hr2 : RowAt .i64 w b m ys) (hx : Dg 65536 xs) (hy : Dg 65536 ys) (hn : n ≤ 5000000) (hm : m ≤ 5000000) :
    Calls Try.prog 73 #[.slice a n c1, .slice b m c2] w fun e w' => ∃ v, e = .returned v ∧ Own .i64 w' w.heap.size 3 v (digs (val 65536 xs + val 65536 ys)) ∧ Below w.heap.size w w' := by
  obtain ⟨i_i64, hi_i64, hz0_i64, hz1_i64, hz2_i64⟩ := info_parts info_int
  have hl1 := hr1.1
  have hl2 := hr2.1
  go_enter Try.func73, Try.ntmps73
  go_wp2
  go_loopw [5, 6, 7] (fun d i _ wr => ∃ (k : Nat) (fs : List Int), i = .int .i64 k ∧ k ≤ n + m ∧ Own .i64 wr w.heap.size 3 d fs ∧ PlusInv xs ys k fs ∧ Below w.heap.size w wr) (fun _ i _ _ => (n + m) - (intOf i).toNat)
  case atStart => exact ⟨0, [], rfl, by omega, own_nil _ _ _ _, plus_start xs ys, Below.refl _ _⟩
  case round =>
    obtain ⟨k, fs, rfl, hk, hown, hinv, hnx⟩ := hrel
    have hsz := hnx.size
    have hel := hinv.2.1
    have hst := plus_step hx hy hinv
    have gx := hx.getAny k
    have gy := hy.getAny k
    have ox := fun h => getD_out (xs := xs) (k := k) h
    have oy := fun h => getD_out (xs := ys) (k := k) h
    by_cases h1 : k < n
    · by_cases h2 : k < m
      · obtain ⟨b1, o1, rfl, hb1, hc1⟩ := hr1.at (by omega)
        obtain ⟨b2, o2, rfl, hb2, hc2⟩ := hr2.at (by omega)
        have hx1 := (hnx.cell (p := ⟨b1, o1 + k, none⟩) hb1).trans (hc1 k h1)
        have hx2 := (hnx.cell (p := ⟨b2, o2 + k, none⟩) hb2).trans (hc2 k h2)
        generalize xs.getD k 0 = x at *
        generalize ys.getD k 0 = y at *
        obtain ⟨gx0, gx1⟩ := gx
        obtain ⟨gy0, gy1⟩ := gy
        clear hc1 hc2 hinv hr1 hr2 ox oy
        go_wp2_with (at_builtin; refine wpList_append_own _ rfl _ _ 71 rfl w.heap.size 3 i_i64 (.int .i64 0) 1 8 Try.underlying71 hi_i64 hz0_i64 hz1_i64 hz2_i64 rfl (by decide) _ _ _ rfl (hown.row.alloc _) ⟨wr.heap.size, 0, none⟩ 1 1 [.int .i64 (x + y)] rfl rfl one_new one_cell (by unfold maxLen; omega) (by omega) (by simp; omega) ?_)
        intro v' w1 hown' hgrow _
        have hb' := grow_below hsz hown.row hnx hgrow
        have ho' := own_next hown' (by omega)
        clear hown' hgrow hown hnx hx1 hx2
        go_wp2
        go_roundw
        case rel => exact ⟨k + 1, _, by go_num, by omega, ho', hst, hb'⟩
        case measure => simp [intOf]; omega
      · obtain ⟨b1, o1, rfl, hb1, hc1⟩ := hr1.at (by omega)
        have hx1 := (hnx.cell (p := ⟨b1, o1 + k, none⟩) hb1).trans (hc1 k h1)
        rw [oy (by omega), Int.add_zero] at hst
        generalize xs.getD k 0 = x at *
        obtain ⟨gx0, gx1⟩ := gx
        clear hc1 hinv hr1 hr2 ox oy gy
        go_wp2_with (at_builtin; refine wpList_append_own _ rfl _ _ 71 rfl w.heap.size 3 i_i64 (.int .i64 0) 1 8 Try.underlying71 hi_i64 hz0_i64 hz1_i64 hz2_i64 rfl (by decide) _ _ _ rfl (hown.row.alloc _) ⟨wr.heap.size, 0, none⟩ 1 1 [.int .i64 x] rfl rfl one_new one_cell (by unfold maxLen; omega) (by omega) (by simp; omega) ?_)
        intro v' w1 hown' hgrow _
        have hb' := grow_below hsz hown.row hnx hgrow
        have ho' := own_next hown' (by omega)
        clear hown' hgrow hown hnx hx1
        go_wp2
        go_roundw
        case rel => exact ⟨k + 1, _, by go_num, by omega, ho', hst, hb'⟩
        case measure => simp [intOf]; omega
    · by_cases h2 : k < m
      · obtain ⟨b2, o2, rfl, hb2, hc2⟩ := hr2.at (by omega)
        have hx2 := (hnx.cell (p := ⟨b2, o2 + k, none⟩) hb2).trans (hc2 k h2)
        rw [ox (by omega), Int.zero_add] at hst
        generalize ys.getD k 0 = y at *
        obtain ⟨gy0, gy1⟩ := gy
        clear hc2 hinv hr1 hr2 ox oy gx
        go_wp2_with (at_builtin; refine wpList_append_own _ rfl _ _ 71 rfl w.heap.size 3 i_i64 (.int .i64 0) 1 8 Try.underlying71 hi_i64 hz0_i64 hz1_i64 hz2_i64 rfl (by decide) _ _ _ rfl (hown.row.alloc _) ⟨wr.heap.size, 0, none⟩ 1 1 [.int .i64 y] rfl rfl one_new one_cell (by unfold maxLen; omega) (by omega) (by simp; omega) ?_)
        intro v' w1 hown' hgrow _
        have hb' := grow_below hsz hown.row hnx hgrow
        have ho' := own_next hown' (by omega)
        clear hown' hgrow hown hnx hx2
        go_wp2
        go_roundw
        case rel => exact ⟨k + 1, _, by go_num, by omega, ho', hst, hb'⟩
        case measure => simp [intOf]; omega
      · have hd := plus_done hinv (by omega) (by omega)
        have HD : Hid (val 65536 fs = val 65536 xs + val 65536 ys) := hd
        have hbd : Bd 281474976710656 fs := fun z hz => by have := hinv.1 z hz; omega
        obtain ⟨a2, cap2, rfl, hcap2, hcm, hrow2⟩ := hown.reads
        have hfl : fs.length ≤ 10000000 := by omega
        clear hd hinv hr1 hr2 hel hst gx gy ox oy hown
        go_wp2_with fail
        refine (carried_any hrow2 hbd hfl).mono ?_
        rintro e w' ⟨v, rfl, hown2, hb2⟩
        have hbb := hnx.trans (hb2.mono hnx.size)
        rw [HD.out] at hown2
        clear hrow2 hnx hb2
        go_wp2
        go_ret
        exact ⟨_, rfl, hown2.wider hsz, hbb⟩
end Go.Proofs.Ytbdljmboilapeab
