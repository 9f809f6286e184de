/- package nat: Sum, Add. -/
import Derived.Test.YtbdljmboilapeabNatSub
namespace Go.Proofs.Ytbdljmboilapeab
open Go.ChangeShapes Go.WideShapes Go.ChangeAt Go.RowKit
open Na Ar
set_option linter.unusedVariables false

namespace Na
theorem words_mono {A B : Int} (hA : 0 ≤ A) (h : A ≤ B) : (words A).length ≤ (words B).length :=
  Nat.le_of_not_lt (fun g => by have := words_lt (A := B) (B := A) (by omega) hA g; omega)
/-- the most words of one of them -/
def maxL : List (List Int) → Nat
  | [] => 0
  | x :: xs => max (words (num x)).length (maxL xs)
theorem maxL_append (xs ys : List (List Int)) : maxL (xs ++ ys) = max (maxL xs) (maxL ys) := by
  induction xs with
  | nil => simp [maxL]
  | cons x xs ih => rw [List.cons_append, maxL, maxL, ih, Nat.max_assoc]
theorem maxL_next {xss : List (List Int)} {k : Nat} (h : k < xss.length) : maxL (xss.take (k + 1)) = max (maxL (xss.take k)) (words (num (xss.getD k []))).length := by
  rw [List.take_succ_eq_append_getElem h, maxL_append]
  simp [maxL, List.getD_eq_getElem?_getD, List.getElem?_eq_getElem h]
theorem sumN_cons (x : List Int) (xs : List (List Int)) : sumN (x :: xs) = num x + sumN xs := by simp [sumN]
theorem sumN_nonneg {xss : List (List Int)} (h : Wss xss) : 0 ≤ sumN xss := by
  induction xss with
  | nil => exact Int.le_refl _
  | cons x xs ih =>
    rw [sumN_cons]
    have a := num_nonneg (h x (by simp)).1
    have b := ih (fun y hy => h y (by simp [hy]))
    omega
theorem maxL_words {xss : List (List Int)} (h : Wss xss) : maxL xss ≤ (words (sumN xss)).length := by
  induction xss with
  | nil => exact Nat.zero_le _
  | cons x xs ih =>
    have a := num_nonneg (h x (by simp)).1
    have hx : Wss xs := fun y hy => h y (by simp [hy])
    have b := sumN_nonneg hx
    rw [sumN_cons, maxL]
    exact Nat.max_le.mpr ⟨words_mono a (by omega), Nat.le_trans (ih hx) (words_mono b (by omega))⟩
theorem maxL_bd {xss : List (List Int)} (h : Wss xss) : maxL xss ≤ 4000000 := by
  induction xss with
  | nil => exact Nat.zero_le _
  | cons x xs ih =>
    have a := words_le (h x (by simp)).1
    have a2 := (h x (by simp)).2
    have hx : Wss xs := fun y hy => h y (by simp [hy])
    rw [maxL]
    exact Nat.max_le.mpr ⟨by omega, ih hx⟩
theorem num_maxL {xss : List (List Int)} (h : Wss xss) {M : Nat} (hM : maxL xss ≤ M) : sumN xss ≤ xss.length * 18446744073709551616 ^ M := by
  induction xss with
  | nil => simp [sumN]
  | cons x xs ih =>
    have hx : Wss xs := fun y hy => h y (by simp [hy])
    rw [maxL] at hM
    have m1 := Nat.le_trans (Nat.le_max_left _ _) hM
    have m2 := Nat.le_trans (Nat.le_max_right _ _) hM
    have i := ih hx m2
    have n0 := num_nonneg (h x (by simp)).1
    have b := num_bd (Dg_words (num x))
    rw [num_words n0] at b
    have p := wpow_mono m1
    rw [sumN_cons, List.length_cons]
    have e : ((xs.length + 1 : Nat) : Int) * 18446744073709551616 ^ M = (xs.length : Int) * 18446744073709551616 ^ M + 18446744073709551616 ^ M := by
      rw [Int.natCast_add, Int.add_mul]; simp
    rw [e]
    omega
theorem Wss.take {xss : List (List Int)} (h : Wss xss) (k : Nat) : Wss (xss.take k) := fun y hy => h y (List.mem_of_mem_take hy)
theorem maxL_take (xss : List (List Int)) (k : Nat) : maxL (xss.take k) ≤ maxL xss := by
  have e : maxL xss = max (maxL (xss.take k)) (maxL (xss.drop k)) := by rw [← maxL_append, List.take_append_drop]
  rw [e]; exact Nat.le_max_left _ _
theorem word_maxL {xss : List (List Int)} {k : Nat} (h : k < xss.length) : (words (num (xss.getD k []))).length ≤ maxL xss := by
  refine Nat.le_trans ?_ (maxL_take xss (k + 1))
  rw [maxL_next h]; exact Nat.le_max_right _ _
theorem sum_room {xss : List (List Int)} (h : Wss xss) {k : Nat} (hk : k ≤ xss.length) (hn : xss.length ≤ 4000000) : sumN (xss.take k) < 18446744073709551616 ^ (maxL xss + 1) := by
  have a := num_maxL (h.take k) (maxL_take xss k)
  have p := wpow_pos (maxL xss)
  have l : (xss.take k).length ≤ 4000000 := by rw [List.length_take]; omega
  have b : ((xss.take k).length : Int) * 18446744073709551616 ^ maxL xss ≤ 4000000 * 18446744073709551616 ^ maxL xss := Int.mul_le_mul_of_nonneg_right (by omega) (by omega)
  rw [Int.pow_succ]
  omega
end Na

set_option maxHeartbeats 1600000 in
set_option maxRecDepth 100000 in
theorem natSum_any {a : Option Addr} {n cap : Nat} {xss : List (List Int)} {w : World} (hr : RowsC w a n xss) (hx : Wss xss) (hn : n ≤ 4000000) :
    Calls Try.prog 43 #[.slice a n cap] w fun e w' => ∃ v, e = .returned (.tuple #[v, .int .i64 (resE (sumN xss))]) ∧ Own .u64 w' w.heap.size 47 v (resL (sumN xss)) ∧ Below w.heap.size w w' := by
  obtain ⟨i_u64, hi_u64, hz0_u64, hz1_u64, hz2_u64⟩ := info_parts info_u64
  have HL : Hid (xss.length = n) := hr.1
  have hmb := maxL_bd hx
  go_enter Try.func43, Try.ntmps43
  go_wp2
  go_loop [4, 6, 12] (fun l _ i => ∃ k : Nat, i = .int .i64 k ∧ k ≤ n ∧ l = .int .i64 (maxL (xss.take k) : Int)) (fun _ _ i => n - (intOf i).toNat)
  case atStart => exact ⟨0, rfl, by omega, rfl⟩
  case round =>
    obtain ⟨k, rfl, hk, rfl⟩ := hrel
    by_cases hlt : k < n
    · have hkl : k < xss.length := by rw [HL.out]; exact hlt
      have hnext := maxL_next hkl
      have gk := hx.get hkl
      have hb1 := maxL_bd (hx.take k)
      rcases hr.2 with h0 | ⟨b, off, rfl, hb, hc⟩
      · omega
      · obtain ⟨ai, ci, hcx, hri⟩ := hc k hlt
        have htr := trim_any hri gk.1 gk.2
        have hwl := words_le gk.1
        generalize xss.getD k [] = xs at *
        have HN : Hid (maxL (xss.take (k + 1)) = max (maxL (xss.take k)) (words (num xs)).length) := hnext
        have hwl2 : (words (num xs)).length ≤ 4000000 := by have := gk.2; omega
        generalize maxL (xss.take k) = M at *
        generalize (words (num xs)).length = L at *
        clear hc hr hri hkl hnext gk hwl
        have HM : Hid ((if M < L then (L : Int) else (M : Int)) = ((maxL (xss.take (k + 1)) : Nat) : Int)) := by
          show _ = _
          rw [HN.out]
          split <;> omega
        go_wp2_with (go_at_call 66; refine htr.mono ?_; rintro e w' ⟨rfl, _, _, _, rfl⟩)
        go_round
        case rel => exact ⟨k + 1, by go_num, by omega, by rw [HM.out]⟩
        case measure => simp [intOf]; omega
    · have hkn : k = n := by omega
      have HT : Hid (xss.take k = xss) := List.take_of_length_le (by rw [HL.out]; omega)
      rw [HT.out]
      have hmw := maxL_words hx
      have hroom := fun (q : Nat) (h : q ≤ n) => sum_room hx (k := q) (by rw [HL.out]; exact h) (by rw [HL.out]; exact hn)
      have hword := fun (q : Nat) (h : q < n) => word_maxL (xss := xss) (k := q) (by rw [HL.out]; exact h)
      obtain ⟨M, hM⟩ : ∃ M, M = maxL xss := ⟨_, rfl⟩
      rw [← hM] at hmb hmw hroom hword ⊢
      clear hkn HT hM
      by_cases hbig : 4096 < M
      · have E := res_huge (N := sumN xss) (by omega)
        have E1 : Hid (resL (sumN xss) = []) := E.1
        have E2 : Hid (resE (sumN xss) = 21) := E.2
        clear E hmw hroom hword hr
        go_wp2
        go_ret2
        exact ⟨_, by rw [E2.out]; rfl, by rw [E1.out]; exact own_nil _ _ _ _, Below.refl _ _⟩
      · clear hmw
        go_wp2_with (at_make; refine wpList_make_full _ rfl _ _ 22 rfl w.heap.size 47 i_u64 (.int .u64 0) 1 Try.underlying22 hi_u64 hz0_u64 hz1_u64 .i64 .i64 _ _ (M + 1) rfl rfl (by omega) (by omega) (by rw [hz2_u64]; omega) (by unfold maxLen; omega) (Nat.le_refl _) ?_)
        intro w3 hmade hgr
        have hown := own_zeros hmade
        have hb3 : Below w.heap.size w w3 := (Below.refl _ _).grown hgr (Nat.le_refl _) (fun k hk => by cases hk)
        obtain ⟨g, hg⟩ : ∃ g, g = w.heap.size := ⟨_, rfl⟩
        have hown2 : Own .u64 w3 w.heap.size 47 (.slice (some ⟨g, 0, none⟩) (M + 1) (M + 1)) (List.replicate (M + 1) 0) := by rw [hg]; exact hown
        rw [← hg]
        clear hmade hgr hown hg
        go_wp2
        go_loopw [9, 29] (fun _ i wr => ∃ (q : Nat) (us : List Int), i = .int .i64 q ∧ q ≤ n ∧ Own .u64 wr w.heap.size 47 (.slice (some ⟨g, 0, none⟩) (M + 1) (M + 1)) us ∧ Hid (us.length = M + 1) ∧ Ws us ∧ Hid (num us = sumN (xss.take q)) ∧ Below w.heap.size w wr) (fun _ i _ => n - (intOf i).toNat)
        case atStart => exact ⟨0, _, rfl, by omega, hown2, (by simp : (List.replicate (M + 1) (0 : Int)).length = M + 1), Dg_zeros (by omega) _, (by unfold num; rw [val_zeros]; rfl : num (List.replicate (M + 1) 0) = sumN (xss.take 0)), hb3⟩
        case round =>
          obtain ⟨q, us, rfl, hq, hou, hul, hwu, hnu, hnx⟩ := hrel
          clear hown2 hb3
          by_cases hlt2 : q < n
          · have hkl : q < xss.length := by rw [HL.out]; exact hlt2
            have gk := hx.get hkl
            have hsn := sum_next hkl
            have hrm := hroom (q + 1) (by omega)
            have hwd := hword q hlt2
            rcases hr.2 with h0 | ⟨b, off, rfl, hb, hc⟩
            · omega
            · obtain ⟨ai, ci, hcx0, hri⟩ := hc q hlt2
              have hcx := (hnx.cell (p := ⟨b, off + q, none⟩) hb).trans hcx0
              have htr := trim_any (hri.later hnx) gk.1 gk.2
              have hrw := hri.own_words gk.1
              have v1 := num_words (num_nonneg gk.1)
              have dw := Dg_words (num (xss.getD q []))
              generalize xss.getD q [] = xs at *
              have hbd : num us + num (words (num xs)) < 18446744073709551616 ^ (M + 1) := by rw [v1, hnu.out, ← hsn]; exact hrm
              have HS : Hid (num us + num (words (num xs)) = sumN (xss.take (q + 1))) := by show _ = _; rw [v1, hnu.out, ← hsn]
              have hadd := addTo_any (cap2 := ci) hou hul.out.symm hwu hrw hnx dw (by omega) (by omega) hbd
              clear hc hr hri hkl hsn gk hrm hcx0 hrw v1 dw hbd hroom hword hou hnx
              generalize words (num xs) = ps at *
              obtain ⟨L, hL⟩ : ∃ L, L = ps.length := ⟨_, rfl⟩
              rw [← hL] at htr hadd hwd
              clear hL
              go_wp2_with (go_at_call 66; refine htr.mono ?_; rintro e w' ⟨rfl, _, _, _, rfl⟩)
              go_wp2_with fail
              refine hadd.mono ?_
              rintro e w5 ⟨rfl, vs, hov, hvl, hwv, hnv, hb5⟩
              have HVL : Hid (vs.length = M + 1) := hvl
              have HNV : Hid (num vs = sumN (xss.take (q + 1))) := by show _ = _; rw [hnv]; exact HS.out
              clear hvl hnv htr hadd
              go_wp2
              go_roundw
              case rel => exact ⟨q + 1, vs, by go_num, by omega, hov, HVL, hwv, HNV, hb5⟩
              case measure => simp [intOf]; omega
          · have HT : Hid (xss.take q = xss) := List.take_of_length_le (by rw [HL.out]; omega)
            have HNU : Hid (num us = sumN xss) := by have := hnu.out; rw [HT.out] at this; exact this
            clear hr hroom hword hnu HT
            go_wp2_with fail
            refine (answer_any hou hul.out.symm hwu (by omega)).mono ?_
            rintro e w6 ⟨v, rfl, ho6, rfl⟩
            rw [HNU.out]
            rw [HNU.out] at ho6
            clear hou
            go_wp2
            go_ret2
            exact ⟨_, rfl, ho6, hnx⟩

/-- two lists laid into one slice -/
theorem rows_two {w : World} {a b : Option Addr} {n m c1 c2 : Nat} {xs ys : List Int} (t : TypeId) (h1 : RowC w a n c1 xs) (h2 : RowC w b m c2 ys) :
    RowsC (w.alloc (.cells #[.slice a n c1, .slice b m c2] t)) (some ⟨w.heap.size, 0, none⟩) 2 [xs, ys] := by
  have hb : Below w.heap.size w (w.alloc (.cells #[.slice a n c1, .slice b m c2] t)) := (Below.refl _ _).alloc (Nat.le_refl _) _
  have e1 := h1.1.1
  have e2 := h2.1.1
  have g1 := h1.later hb
  have g2 := h2.later hb
  subst e1 e2
  refine ⟨rfl, Or.inr ⟨w.heap.size, 0, rfl, by simp, fun i hi => ?_⟩⟩
  have hi3 : i = 0 ∨ i = 1 := by omega
  rcases hi3 with rfl | rfl
  · exact ⟨a, c1, by simp, g1⟩
  · exact ⟨b, c2, by simp, g2⟩
theorem rowsC_three {w : World} {a b c : Option Addr} {n m k c1 c2 c3 : Nat} {xs ys zs : List Int} (t : TypeId) (h1 : RowC w a n c1 xs) (h2 : RowC w b m c2 ys) (h3 : RowC w c k c3 zs) :
    RowsC (w.alloc (.cells #[.slice a n c1, .slice b m c2, .slice c k c3] t)) (some ⟨w.heap.size, 0, none⟩) 3 [xs, ys, zs] := by
  have hb : Below w.heap.size w (w.alloc (.cells #[.slice a n c1, .slice b m c2, .slice c k c3] t)) := (Below.refl _ _).alloc (Nat.le_refl _) _
  have e1 := h1.1.1
  have e2 := h2.1.1
  have e3 := h3.1.1
  have g1 := h1.later hb
  have g2 := h2.later hb
  have g3 := h3.later hb
  subst e1 e2 e3
  refine ⟨rfl, Or.inr ⟨w.heap.size, 0, rfl, by simp, fun i hi => ?_⟩⟩
  have hi3 : i = 0 ∨ i = 1 ∨ i = 2 := by omega
  rcases hi3 with rfl | rfl | rfl
  · exact ⟨a, c1, by simp, g1⟩
  · exact ⟨b, c2, by simp, g2⟩
  · exact ⟨c, c3, by simp, g3⟩

theorem natAdd_any {a b : Option Addr} {n m c1 c2 : Nat} {xs ys : List Int} {w : World} (hr1 : RowC w a n c1 xs) (hr2 : RowC w b m c2 ys) (hx : Ws xs) (hy : Ws ys) (hn : n ≤ 4000000) (hm : m ≤ 4000000) :
    Calls Try.prog 39 #[.slice a n c1, .slice b m c2] w fun e w' => ∃ v, e = .returned (.tuple #[v, .int .i64 (resE (num xs + num ys))]) ∧ Own .u64 w' w.heap.size 47 v (resL (num xs + num ys)) ∧ Below w.heap.size w w' := by
  have hrows := rows_two 22 hr1 hr2
  have l1 := hr1.1.1
  have l2 := hr2.1.1
  have hw : Wss [xs, ys] := by
    intro q hq
    simp at hq
    rcases hq with e | e
    · rw [e]; exact ⟨hx, by omega⟩
    · rw [e]; exact ⟨hy, by omega⟩
  have hs : sumN [xs, ys] = num xs + num ys := by simp [sumN]
  have hb0 := alloc_below (w := w) (.cells #[.slice a n c1, .slice b m c2] 22)
  have hsum := natSum_any (cap := 2) hrows hw (by omega)
  rw [hs] at hsum
  clear hrows hr1 hr2 hs l1 l2
  go_enter Try.func39, Try.ntmps39
  go_wp2_with fail
  refine hsum.mono ?_
  rintro e w1 ⟨v, rfl, ho, hb⟩
  have hbb := hb0.trans (hb.mono hb0.size)
  have ho' := ho.wider hb0.size
  clear hsum ho hb hb0
  go_wp2
  go_ret2
  exact ⟨_, rfl, ho', hbb⟩
end Go.Proofs.Ytbdljmboilapeab
