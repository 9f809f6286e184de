/- plumbref02: Sub, From, Word. -/
import Derived.Test.YtbdljmboilapeabRefAdd
namespace Go.Proofs.Ytbdljmboilapeab
open Go.ChangeShapes Go.WideShapes Go.ChangeAt Go.RowKit
open Na
set_option linter.unusedVariables false

namespace Na
def subE (A B : Int) : Int := if A < B then 20 else resE (A - B)
def subL (A B : Int) : List Int := if A < B then [] else resL (A - B)
def SubInv (xs ys : List Int) (k : Nat) (lent : Int) (fs : List Int) : Prop := Dg 65536 fs ∧ fs.length = k ∧ (lent = 0 ∨ lent = 1) ∧ val 65536 fs + 65536 ^ k * (val 65536 (xs.drop k) - val 65536 (ys.drop k) - lent) = val 65536 xs - val 65536 ys
theorem sub_start (xs ys : List Int) : SubInv xs ys 0 0 [] := ⟨Dg.nil _, rfl, Or.inl rfl, by simp [val]⟩
theorem sub_step {xs ys fs : List Int} {k : Nat} {lent v l2 : Int} (hx : Dg 65536 xs) (hy : Dg 65536 ys) (h : SubInv xs ys k lent fs) (hv : 0 ≤ v ∧ v < 65536) (hl : l2 = 0 ∨ l2 = 1) (e : xs.getD k 0 - lent - ys.getD k 0 = v - 65536 * l2) :
    SubInv xs ys (k + 1) l2 (fs ++ [v]) := by
  obtain ⟨h1, h2, h3, h4⟩ := h
  refine ⟨h1.append (Dg.one hv), by rw [List.length_append, h2]; rfl, hl, ?_⟩
  rw [val_append, h2, ← h4, drop_step (ds := xs) (i := k), drop_step (ds := ys) (i := k), Int.pow_succ]
  have e4 : val 65536 [v] = v := by simp [val]
  rw [e4]
  generalize val 65536 (xs.drop (k + 1)) = V
  generalize val 65536 (ys.drop (k + 1)) = U
  generalize (65536 : Int) ^ k = P
  generalize xs.getD k 0 = x at *
  generalize ys.getD k 0 = y at *
  have : x = v - 65536 * l2 + lent + y := by omega
  subst this
  grind
theorem sub_done {xs ys fs : List Int} {k : Nat} {lent : Int} (h : SubInv xs ys k lent fs) (hx : xs.length ≤ k) (hy : ys.length ≤ k) (hle : val 65536 ys ≤ val 65536 xs) : val 65536 fs = val 65536 xs - val 65536 ys := by
  obtain ⟨h1, h2, h3, h4⟩ := h
  rw [List.drop_of_length_le hx, List.drop_of_length_le hy, val_nil] at h4
  have l := val_lt (B := 65536) (by omega) h1
  rw [h2] at l
  rcases h3 with rfl | rfl
  · simpa using h4
  · have : (65536 : Int) ^ k * (0 - 0 - 1) = - 65536 ^ k := by grind
    rw [this] at h4
    omega
end Na

set_option maxHeartbeats 1600000 in
set_option maxRecDepth 100000 in
theorem refSub_any {a b : Option Addr} {n m c1 c2 : Nat} {xs ys : List Int} {w : World} (hr1 : RowAt .u64 w a n xs) (hr2 : RowAt .u64 w b m ys) (hx : Ws xs) (hy : Ws ys) (hn : n ≤ 100000) (hm : m ≤ 100000) :
    Calls Try.prog 42 #[.slice a n c1, .slice b m c2] w fun e w' => ∃ v, e = .returned (.tuple #[v, .int .i64 (subE (num xs) (num ys))]) ∧ Own .u64 w' w.heap.size 47 v (subL (num xs) (num ys)) ∧ Below w.heap.size w w' := by
  obtain ⟨i_i64, hi_i64, hz0_i64, hz1_i64, hz2_i64⟩ := info_parts info_int
  have e1 := hr1.1
  have e2 := hr2.1
  have l1 := digs_len hx
  have l2 := digs_len hy
  have p1 := num_nonneg hx
  have p2 := num_nonneg hy
  have b1 : (digs (num xs)).length ≤ 10000000 := by omega
  have b2 : (digs (num ys)).length ≤ 10000000 := by omega
  have v1 : Hid (val 65536 (digs (num xs)) = num xs) := val_digs p1
  have v2 : Hid (val 65536 (digs (num ys)) = num ys) := val_digs p2
  have dx := Dg_digs (num xs)
  have dy := Dg_digs (num ys)
  have ll : num ys ≤ num xs → (digs (num ys)).length ≤ (digs (num xs)).length := fun h => Nat.le_of_not_lt (fun g => by have := len_lt p1 p2 g; omega)
  clear l1 l2 e1 e2
  by_cases hlt : num xs < num ys
  · have ho := ordN_lt hlt
    have E1 : Hid (subE (num xs) (num ys) = 20) := if_pos hlt
    have E2 : Hid (subL (num xs) (num ys) = []) := if_pos hlt
    go_enter Try.func42, Try.ntmps42
    go_wp2_with fail
    refine (digits_get hr1 hx (by omega)).mono ?_
    rintro e w1 ⟨a1, d1, rfl, _, _, r1, hb1⟩
    have hr2' := hr2.later hb1
    go_wp2_with fail
    refine (digits_get hr2' hy (by omega)).mono ?_
    rintro e w2 ⟨a2, d2, rfl, _, _, r2, hb2⟩
    have r1' := r1.later hb2
    have hbb := hb1.trans (hb2.mono hb1.size)
    clear hr1 hr2 hr2' r1
    go_wp2_with fail
    refine (compare_any p1 p2 rfl rfl r1' r2 b1 b2).mono ?_
    rintro e w3 ⟨rfl, hb3⟩
    have hbc := hbb.trans (hb3.mono hbb.size)
    clear r1' r2 hb1 hb2 hb3 hbb
    go_wp2
    go_ret2
    exact ⟨_, by rw [E1.out]; rfl, by rw [E2.out]; exact own_nil _ _ _ _, hbc⟩
  · have ho : ¬ ordN (num xs) (num ys) < 0 := by
      unfold ordN; rw [if_neg hlt]; split <;> omega
    have E1 : Hid (subE (num xs) (num ys) = resE (num xs - num ys)) := if_neg hlt
    have E2 : Hid (subL (num xs) (num ys) = resL (num xs - num ys)) := if_neg hlt
    have hle : Hid (num ys ≤ num xs) := (by omega : num ys ≤ num xs)
    have ll' := ll hle.out
    clear ll hlt
    go_enter Try.func42, Try.ntmps42
    go_wp2_with fail
    refine (digits_get hr1 hx (by omega)).mono ?_
    rintro e w1 ⟨a1, d1, rfl, _, _, r1, hb1⟩
    have hr2' := hr2.later hb1
    go_wp2_with fail
    refine (digits_get hr2' hy (by omega)).mono ?_
    rintro e w2 ⟨a2, d2, rfl, _, _, r2, hb2⟩
    have r1' := r1.later hb2
    have hbb := hb1.trans (hb2.mono hb1.size)
    clear hr1 hr2 hr2' r1
    go_wp2_with fail
    refine (compare_any p1 p2 rfl rfl r1' r2 b1 b2).mono ?_
    rintro e w3 ⟨rfl, hb3⟩
    have hbc := hbb.trans (hb3.mono hbb.size)
    have rx := r1'.later hb3
    have ry := r2.later hb3
    clear r1' r2 hb1 hb2 hb3 hbb p1 p2
    generalize hA : num xs = A at *
    generalize hB : num ys = B at *
    generalize hda : digs A = ps at *
    generalize hdb : digs B = qs at *
    obtain ⟨n1, hn1⟩ : ∃ n1, n1 = ps.length := ⟨_, rfl⟩
    obtain ⟨m1, hm1⟩ : ∃ m1, m1 = qs.length := ⟨_, rfl⟩
    rw [← hn1] at b1 ll' rx ⊢
    rw [← hm1] at b2 ll' ry ⊢
    have HA : Hid (num xs = A) := hA
    have HB : Hid (num ys = B) := hB
    clear hA hB hda hdb
    have hw3 : w.heap.size ≤ w3.heap.size := hbc.size
    go_wp2
    go_loopw [8, 9, 10, 11] (fun d l i _ wr => ∃ (k : Nat) (lent : Int) (fs : List Int), i = .int .i64 k ∧ l = .int .i64 lent ∧ k ≤ n1 ∧ Own .i64 wr w3.heap.size 3 d fs ∧ SubInv ps qs k lent fs ∧ Below w3.heap.size w3 wr) (fun _ _ i _ _ => n1 - (intOf i).toNat)
    case atStart => exact ⟨0, 0, [], rfl, rfl, by omega, own_nil _ _ _ _, sub_start ps qs, Below.refl _ _⟩
    case round =>
      obtain ⟨k, lent, fs, rfl, rfl, hk, hown, hinv, hnx⟩ := hrel
      have hsz := hnx.size
      have hel := hinv.2.1
      have hl01 := hinv.2.2.1
      have hl0 : 0 ≤ lent := by omega
      have hl1 : lent ≤ 1 := by omega
      have hs := fun v l2 hv hl e => sub_step (k := k) (v := v) (l2 := l2) dx dy hinv hv hl e
      have gx := dx.getAny k
      have gy := dy.getAny k
      have oy := fun h => getD_out (xs := qs) (k := k) h
      clear hl01
      by_cases h1 : k < n1
      · obtain ⟨b1', o1, rfl, hb1', hc1⟩ := rx.at (by omega)
        have hx1 := (hnx.cell (p := ⟨b1', o1 + k, none⟩) hb1').trans (hc1 k h1)
        by_cases h2 : k < m1
        · obtain ⟨b2', o2, rfl, hb2', hc2⟩ := ry.at (by omega)
          have hx2 := (hnx.cell (p := ⟨b2', o2 + k, none⟩) hb2').trans (hc2 k h2)
          generalize ps.getD k 0 = x at *
          generalize qs.getD k 0 = y at *
          obtain ⟨gx0, gx1⟩ := gx
          obtain ⟨gy0, gy1⟩ := gy
          clear hc1 hc2 hinv rx ry oy hbc hw3
          by_cases hneg : x - lent - y < 0
          · have hst := hs (x - lent - y + 65536) 1 (by omega) (Or.inr rfl) (by omega)
            clear hs
            go_wp2_with (at_builtin; refine wpList_append_own _ rfl _ _ 71 rfl w3.heap.size 3 i_i64 (.int .i64 0) 1 8 Try.underlying71 hi_i64 hz0_i64 hz1_i64 hz2_i64 rfl (by decide) _ _ _ rfl (hown.row.alloc _) ⟨wr.heap.size, 0, none⟩ 1 1 [.int .i64 (x - lent - y + 65536)] rfl rfl one_new one_cell (by unfold maxLen; omega) (by omega) (by simp; omega) ?_)
            intro v' w4 hown' hgrow _
            have hb' := grow_below hsz hown.row hnx hgrow
            have ho' := own_next hown' (by omega)
            clear hown' hgrow hown hnx
            go_wp2
            go_roundw
            case rel => exact ⟨k + 1, 1, _, by go_num, rfl, by omega, ho', hst, hb'⟩
            case measure => simp [intOf]; omega
          · have hst := hs (x - lent - y) 0 (by omega) (Or.inl rfl) (by omega)
            clear hs
            go_wp2_with (at_builtin; refine wpList_append_own _ rfl _ _ 71 rfl w3.heap.size 3 i_i64 (.int .i64 0) 1 8 Try.underlying71 hi_i64 hz0_i64 hz1_i64 hz2_i64 rfl (by decide) _ _ _ rfl (hown.row.alloc _) ⟨wr.heap.size, 0, none⟩ 1 1 [.int .i64 (x - lent - y)] rfl rfl one_new one_cell (by unfold maxLen; omega) (by omega) (by simp; omega) ?_)
            intro v' w4 hown' hgrow _
            have hb' := grow_below hsz hown.row hnx hgrow
            have ho' := own_next hown' (by omega)
            clear hown' hgrow hown hnx
            go_wp2
            go_roundw
            case rel => exact ⟨k + 1, 0, _, by go_num, rfl, by omega, ho', hst, hb'⟩
            case measure => simp [intOf]; omega
        · rw [oy (by omega)] at hs
          generalize ps.getD k 0 = x at *
          obtain ⟨gx0, gx1⟩ := gx
          clear hc1 hinv rx ry oy gy hbc hw3
          by_cases hneg : x - lent < 0
          · have hst := hs (x - lent + 65536) 1 (by omega) (Or.inr rfl) (by omega)
            clear hs
            go_wp2_with (at_builtin; refine wpList_append_own _ rfl _ _ 71 rfl w3.heap.size 3 i_i64 (.int .i64 0) 1 8 Try.underlying71 hi_i64 hz0_i64 hz1_i64 hz2_i64 rfl (by decide) _ _ _ rfl (hown.row.alloc _) ⟨wr.heap.size, 0, none⟩ 1 1 [.int .i64 (x - lent + 65536)] rfl rfl one_new one_cell (by unfold maxLen; omega) (by omega) (by simp; omega) ?_)
            intro v' w4 hown' hgrow _
            have hb' := grow_below hsz hown.row hnx hgrow
            have ho' := own_next hown' (by omega)
            clear hown' hgrow hown hnx
            go_wp2
            go_roundw
            case rel => exact ⟨k + 1, 1, _, by go_num, rfl, by omega, ho', hst, hb'⟩
            case measure => simp [intOf]; omega
          · have hst := hs (x - lent) 0 (by omega) (Or.inl rfl) (by omega)
            clear hs
            go_wp2_with (at_builtin; refine wpList_append_own _ rfl _ _ 71 rfl w3.heap.size 3 i_i64 (.int .i64 0) 1 8 Try.underlying71 hi_i64 hz0_i64 hz1_i64 hz2_i64 rfl (by decide) _ _ _ rfl (hown.row.alloc _) ⟨wr.heap.size, 0, none⟩ 1 1 [.int .i64 (x - lent)] rfl rfl one_new one_cell (by unfold maxLen; omega) (by omega) (by simp; omega) ?_)
            intro v' w4 hown' hgrow _
            have hb' := grow_below hsz hown.row hnx hgrow
            have ho' := own_next hown' (by omega)
            clear hown' hgrow hown hnx
            go_wp2
            go_roundw
            case rel => exact ⟨k + 1, 0, _, by go_num, rfl, by omega, ho', hst, hb'⟩
            case measure => simp [intOf]; omega
      · have hv := sub_done hinv (by omega) (by omega) (by rw [v1.out, v2.out]; exact hle.out)
        rw [v1.out, v2.out] at hv
        have HV : Hid (val 65536 fs = A - B) := hv
        have hfd := hinv.1
        obtain ⟨a3, d3, rfl, q1, q2, r3⟩ := hown.reads
        have hfl : fs.length ≤ 10000000 := by omega
        have hbd := hbc.trans (hnx.mono hw3)
        clear hv hinv rx ry hs gx gy oy hown hel hnx hbc
        go_wp2_with fail
        refine (told_any r3 hfd hfl q1 q2).mono ?_
        rintro e w5 ⟨v5, rfl, hown5, hb5⟩
        have hbe := hbd.trans (hb5.mono hbd.size)
        have hsz2 := hbd.size
        rw [HV.out, ← E2.out] at hown5
        rw [HV.out, ← E1.out]
        clear r3 hbd hb5
        go_wp2
        go_ret2
        exact ⟨_, by rw [HA.out, HB.out]; rfl, by rw [HA.out, HB.out]; exact hown5.wider hsz2, hbe⟩

theorem refFrom_any {v : Int} (hv : 0 ≤ v ∧ v < 18446744073709551616) (w : World) :
    Calls Try.prog 38 #[.int .u64 v] w fun e w' => ∃ r, e = .returned r ∧ Own .u64 w' w.heap.size 47 r (Na.words v) ∧ Below w.heap.size w w' := by
  have hd : Ws [v] := Dg.one hv
  have hnum : val 18446744073709551616 [v] = v := by simp [val]
  go_enter Try.func38, Try.ntmps38
  go_wp2_with fail
  have hrow : RowAt .u64 (w.alloc (.cells #[.int .u64 v] 47)) (some ⟨w.heap.size, 0, none⟩) 1 [v] := by
    refine ⟨rfl, Or.inr ⟨w.heap.size, 0, rfl, by simp, fun i hi => ?_⟩⟩
    have : i = 0 := by omega
    subst this
    simp
  refine (refNorm_any hrow hd (by omega)).mono ?_
  rintro e w' ⟨r, rfl, hown, hb⟩
  rw [hnum] at hown
  have hb0 : Below w.heap.size w (w.alloc (.cells #[.int .u64 v] 47)) := (Below.refl _ _).alloc (Nat.le_refl _) _
  have hbb := hb0.trans (hb.mono hb0.size)
  have hsz := hb0.size
  clear hrow hb hb0
  go_wp2
  go_ret
  exact ⟨_, rfl, hown.wider hsz, hbb⟩
end Go.Proofs.Ytbdljmboilapeab
