/- What is no Rat; plumbref05: normal, rest, common, lowest, Check. -/
import Derived.Test.YtopcdpeepchgfacGreatDoorRatL
import Derived.Test.YtopcdpeepchgfacGreatDoorBaseH
import Derived.Deep.LoopGhost
namespace Go.Proofs.YtopcdpeepchgfacGreatDoor
open Go.ChangeShapes Go.WideShapes Go.ChangeAt Go.RowKit
open Na Ar
set_option linter.unusedVariables false
/-- no word 0 at the end, not too long -/
def nrmB (xs : List Int) : Bool := decide (xs.length ≤ 4096) && (decide (xs.length = 0) || decide (xs.getD (xs.length - 1) 0 ≠ 0))
/-- is it a Rat? -/
def isR (s : Bool) (xs ys : List Int) : Bool := nrmB xs && nrmB ys && decide (ys.length ≠ 0) && !(s && decide (xs.length = 0)) && decide (Int.gcd (num xs) (num ys) = 1)
theorem nrmB_words {xs : List Int} (hx : Ws xs) (h : nrmB xs = true) : words (num xs) = xs := by
  unfold nrmB at h
  simp only [Bool.and_eq_true, Bool.or_eq_true, decide_eq_true_eq] at h
  rcases h.2 with h0 | h0
  · have : xs = [] := List.eq_nil_of_length_eq_zero h0
    subst this
    exact dig_zero _
  · by_cases hz : xs.length = 0
    · have : xs = [] := List.eq_nil_of_length_eq_zero hz
      subst this
      exact dig_zero _
    · symm
      apply words_same hx
      obtain ⟨j, hj⟩ : ∃ j, xs.length = j + 1 := ⟨xs.length - 1, by omega⟩
      rw [hj] at h0
      have e := take_next (xs := xs) (k := j) (by omega)
      rw [List.take_of_length_le (by omega), show j + 1 - 1 = j by omega] at *
      have g := hx.getAnyB j
      have a0 : 0 ≤ num (xs.take j) := num_nonneg (hx.take j)
      have lt : (xs.take j).length = j := by rw [List.length_take]; omega
      have hv : num xs = num (xs.take j) + 18446744073709551616 ^ j * xs.getD j 0 := by
        conv => lhs; rw [e]
        show val _ (xs.take j ++ [xs.getD j 0]) = _
        rw [val_append, lt]
        simp [val]
        rfl
      have p := wpow_pos j
      have m : 18446744073709551616 ^ j * 1 ≤ 18446744073709551616 ^ j * xs.getD j 0 := Int.mul_le_mul_of_nonneg_left (by have := g.1; omega) (Int.le_of_lt p)
      have := dig_len_ge (N := num xs) (k := j) (by rw [hv]; omega)
      omega
set_option maxHeartbeats 1600000 in
theorem rnorm_any {w : World} {a : Option Addr} {n c : Nat} {xs : List Int} {B : Bool} (hr : RowC w a n c xs) (hB : nrmB xs = B) :
    Calls Tryz.prog 47 #[.slice a n c] w fun e w' => e = .returned (.bool B) ∧ w' = w := by
  have l := hr.1.1
  unfold nrmB at hB
  rw [l] at hB
  by_cases h4 : n ≤ 4096
  · have t4 : (n : Int) ≤ 4096 := by omega
    by_cases h0 : n = 0
    · have HN : Hid (true = B) := by show _ = _; rw [← hB]; simp [h0]
      subst h0
      clear hB h4 l hr
      go_enter Tryz.func47, Tryz.ntmps47
      go_wp2
      go_ret
      exact ⟨ret_bool' HN.out, rfl⟩
    · obtain ⟨j, rfl⟩ : ∃ j, n = j + 1 := ⟨n - 1, by omega⟩
      obtain ⟨bb, off, rfl, hb, hc⟩ := hr.1.at (by omega)
      have hcx := hc j (by omega)
      have t2 : (((j : Int) + 1) == 0) = false := beq_no (by omega)
      rw [show j + 1 - 1 = j by omega] at hB
      generalize xs.getD j 0 = x at *
      have t5 : (j : Int) + 1 ≤ 4096 := by omega
      by_cases hx : x = 0
      · have t1 : (x != 0) = false := bne_of hx
        have HN : Hid (false = B) := by show _ = _; rw [← hB]; simp [hx]
        clear hB hx hc hr h4 h0 l
        go_enter Tryz.func47, Tryz.ntmps47
        go_wp2
        go_ret
        exact ⟨ret_bool' HN.out, rfl⟩
      · have t1 : (x != 0) = true := bne_yes hx
        have HN : Hid (true = B) := by show _ = _; rw [← hB]; simp [hx, h4]
        clear hB hx hc hr h4 h0 l
        go_enter Tryz.func47, Tryz.ntmps47
        go_wp2
        go_ret
        exact ⟨ret_bool' HN.out, rfl⟩
  · have t4 : ¬ (n : Int) ≤ 4096 := by omega
    have HN : Hid (false = B) := by show _ = _; rw [← hB]; simp [h4]
    clear hB hr l h4
    go_enter Tryz.func47, Tryz.ntmps47
    go_wp2
    go_ret
    exact ⟨ret_bool' HN.out, rfl⟩
set_option maxHeartbeats 1600000 in
theorem refNrm_any {w : World} {a : Option Addr} {n c : Nat} {xs : List Int} {B : Bool} (hr : RowC w a n c xs) (hB : nrmB xs = B) :
    Calls Tryz.prog 49 #[.slice a n c] w fun e w' => e = .returned (.bool B) ∧ w' = w := by
  have l := hr.1.1
  unfold nrmB at hB
  rw [l] at hB
  by_cases h4 : n ≤ 4096
  · have t4 : (n : Int) ≤ 4096 := by omega
    by_cases h0 : n = 0
    · have HN : Hid (true = B) := by show _ = _; rw [← hB]; simp [h0]
      subst h0
      clear hB h4 l hr
      go_enter Tryz.func49, Tryz.ntmps49
      go_wp2
      go_ret
      exact ⟨ret_bool' HN.out, rfl⟩
    · obtain ⟨j, rfl⟩ : ∃ j, n = j + 1 := ⟨n - 1, by omega⟩
      obtain ⟨bb, off, rfl, hb, hc⟩ := hr.1.at (by omega)
      have hcx := hc j (by omega)
      have t2 : (((j : Int) + 1) == 0) = false := beq_no (by omega)
      rw [show j + 1 - 1 = j by omega] at hB
      generalize xs.getD j 0 = x at *
      have t5 : (j : Int) + 1 ≤ 4096 := by omega
      by_cases hx : x = 0
      · have t1 : (x != 0) = false := bne_of hx
        have HN : Hid (false = B) := by show _ = _; rw [← hB]; simp [hx]
        clear hB hx hc hr h4 h0 l
        go_enter Tryz.func49, Tryz.ntmps49
        go_wp2
        go_ret
        exact ⟨ret_bool' HN.out, rfl⟩
      · have t1 : (x != 0) = true := bne_yes hx
        have HN : Hid (true = B) := by show _ = _; rw [← hB]; simp [hx, h4]
        clear hB hx hc hr h4 h0 l
        go_enter Tryz.func49, Tryz.ntmps49
        go_wp2
        go_ret
        exact ⟨ret_bool' HN.out, rfl⟩
  · have t4 : ¬ (n : Int) ≤ 4096 := by omega
    have HN : Hid (false = B) := by show _ = _; rw [← hB]; simp [h4]
    clear hB hr l h4
    go_enter Tryz.func49, Tryz.ntmps49
    go_wp2
    go_ret
    exact ⟨ret_bool' HN.out, rfl⟩
section
variable {w : World} {s : Bool} {a b : Option Addr} {n c m d : Nat} {xs ys : List Int}
set_option maxHeartbeats 6400000 in
set_option maxRecDepth 100000 in
theorem check_no (h1 : RowC w a n c xs) (h2 : RowC w b m d ys) (hx : Ws xs) (hy : Ws ys) (hn : n ≤ 3700000) (hm : m ≤ 3700000) (hR : isR s xs ys = false) :
    Calls Tryz.prog 23 #[.agg #[.bool s, .slice a n c, .slice b m d]] w fun e w' => e = .returned (.int .i64 51) ∧ Below w.heap.size w w' := by
  have hb0 := alloc_below (w := w) (.cells #[.bool s, .slice a n c, .slice b m d] 25)
  have r1 := h1.later hb0
  have r2 := h2.later hb0
  have l1 := h1.1.1
  have l2 := h2.1.1
  have n1 := rnorm_any r1 rfl
  have n2 := rnorm_any r2 rfl
  have g := gcd_any r1 r2 hx hy hn hm
  have lg : (words (Int.gcd (num xs) (num ys) : Int)).length ≤ 4000000 := by
    have x0 := num_nonneg hx
    have y0 := num_nonneg hy
    by_cases hz : num xs = 0
    · rw [hz, Int.gcd_zero_left]
      have e : ((num ys).natAbs : Int) = num ys := by omega
      rw [e]
      have := words_le hy
      omega
    · have h := Int.le_of_dvd (show 0 < num xs by omega) (Int.gcd_dvd_left (a := num xs) (b := num ys))
      have := words_mono (show 0 ≤ (Int.gcd (num xs) (num ys) : Int) by omega) h
      have := words_le hx
      omega
  unfold isR at hR
  rw [l1, l2] at hR
  clear h1 h2 r1 r2 hx hy hm hn l1 l2
  cases hN : nrmB xs
  · rw [hN] at n1
    clear n2 g hR hN lg
    go_enter Tryz.func23, Tryz.ntmps23
    go_wp2_with fail
    refine n1.mono ?_
    rintro e w1 ⟨rfl, rfl⟩
    go_wp2
    go_ret
    exact ⟨rfl, hb0⟩
  · rw [hN] at n1 hR
    cases hM : nrmB ys
    · rw [hM] at n2
      clear g hR hN hM lg
      go_enter Tryz.func23, Tryz.ntmps23
      go_wp2_with fail
      refine n1.mono ?_
      rintro e w1 ⟨rfl, rfl⟩
      go_wp2_with fail
      refine n2.mono ?_
      rintro e w1 ⟨rfl, rfl⟩
      go_wp2
      go_ret
      exact ⟨rfl, hb0⟩
    · rw [hM] at n2 hR
      clear hN hM
      by_cases hm0 : m = 0
      · have tm : ((m : Int) == 0) = true := beq_of (by omega)
        clear g hR hm0 lg
        go_enter Tryz.func23, Tryz.ntmps23
        go_wp2_with fail
        refine n1.mono ?_
        rintro e w1 ⟨rfl, rfl⟩
        go_wp2_with fail
        refine n2.mono ?_
        rintro e w1 ⟨rfl, rfl⟩
        go_wp2
        go_ret
        exact ⟨rfl, hb0⟩
      · have tm : ((m : Int) == 0) = false := beq_no (by omega)
        by_cases hs : s = true ∧ n = 0
        · obtain ⟨rfl, hn0⟩ := hs
          have tn : ((n : Int) == 0) = true := beq_of (by omega)
          clear g hR hm0 hn0 lg
          go_enter Tryz.func23, Tryz.ntmps23
          go_wp2_with fail
          refine n1.mono ?_
          rintro e w1 ⟨rfl, rfl⟩
          go_wp2_with fail
          refine n2.mono ?_
          rintro e w1 ⟨rfl, rfl⟩
          go_wp2
          go_ret
          exact ⟨rfl, hb0⟩
        · have tn : s = true → ((n : Int) == 0) = false := fun h => beq_no (by intro e; exact hs ⟨h, by omega⟩)
          have hg1 : decide ((Int.gcd (num xs) (num ys) : Int) = 1) = false := by
            have e : (s && decide (n = 0)) = false := by
              rw [Bool.and_eq_false_iff]
              by_cases h : s = true
              · right; exact decide_eq_false (fun h' => hs ⟨h, h'⟩)
              · left; simpa using h
            rw [e] at hR
            simp [hm0] at hR
            exact decide_eq_false (by omega)
          clear hR hm0 hs
          cases s
          all_goals (try replace tn := tn rfl)
          all_goals go_enter Tryz.func23, Tryz.ntmps23
          all_goals go_wp2_with fail
          all_goals refine n1.mono ?_
          all_goals rintro e w1 ⟨rfl, rfl⟩
          all_goals go_wp2_with fail
          all_goals refine n2.mono ?_
          all_goals rintro e w2 ⟨rfl, rfl⟩
          all_goals go_wp2_with fail
          all_goals refine g.mono ?_
          all_goals rintro e w3 ⟨v, rfl, ho, hb⟩
          all_goals obtain ⟨a', c', rfl, r⟩ := ho.readsC
          all_goals clear n1 n2 g ho
          all_goals go_wp2_with fail
          all_goals refine (isOne_any (B := false) r ⟨Dg_words _, num_words (by omega), lg⟩ lg hg1).mono ?_
          all_goals rintro e w4 ⟨rfl, hb4⟩
          all_goals go_wp2
          all_goals go_ret
          all_goals exact ⟨rfl, hb0.trans ((hb.trans (hb4.mono hb.size)).mono hb0.size)⟩
set_option maxHeartbeats 1600000 in
theorem ref5Rest_any {xs ys : List Int} (hr1 : RowAt .u64 w a n xs) (hr2 : RowAt .u64 w b m ys) (hx : Ws xs) (hy : Ws ys) (hn : n ≤ 3000000) (hm : m ≤ 3000000) (hD : 0 < num ys) :
    Calls Tryz.prog 87 #[.slice a n c, .slice b m d] w fun e w' => ∃ a2 n2 d2, e = .returned (.slice a2 n2 d2) ∧ RowC w' a2 n2 d2 (words (num xs % num ys)) ∧ Below w.heap.size w w' := by
  have h := ref3Div_any (c1 := c) (c2 := d) hr1 hr2 hx hy hn hm hD
  clear hr1 hr2 hx hy hD
  go_enter Tryz.func87, Tryz.ntmps87
  go_wp2_with fail
  refine h.mono ?_
  rintro e w1 ⟨qa, qn, qc, ra, rn, rc, rfl, hq, hr, hb⟩
  clear h
  go_wp2
  go_ret
  exact ⟨_, _, _, rfl, hr, hb⟩
set_option maxHeartbeats 3200000 in
set_option maxRecDepth 100000 in
theorem common_any {a b : Option Addr} {n m c1 c2 : Nat} {xs ys : List Int} {w : World} (hr1 : RowAt .u64 w a n xs) (hr2 : RowAt .u64 w b m ys) (hx : Ws xs) (hy : Ws ys) (hn : n ≤ 1000000) (hm : m ≤ 1000000) :
    Calls Tryz.prog 50 #[.slice a n c1, .slice b m c2] w fun e w' => ∃ va l c, e = .returned (.slice va l c) ∧ RowC w' va l c (words (Int.gcd (num xs) (num ys) : Int)) ∧ Below w.heap.size w w' := by
  have hX0 := num_nonneg hx
  have hY0 := num_nonneg hy
  have wx := words_le hx
  have wy := words_le hy
  rw [hr1.1] at wx
  rw [hr2.1] at wy
  go_enter Tryz.func50, Tryz.ntmps50
  go_wp2_with fail
  refine (refNorm_any hr1 hx (by omega)).mono ?_
  rintro e w1 ⟨v1, rfl, hv1, hb1⟩
  change Own _ _ _ _ v1 (words (num xs)) at hv1
  obtain ⟨xa, xc, rfl, hxr⟩ := hv1.readsC
  have hr2' := hr2.later hb1
  clear hr1 hr2 hv1
  generalize hX : num xs = X at *
  generalize hlx : (words X).length = lx at *
  clear hlx
  go_wp2_with fail
  refine (refNorm_any hr2' hy (by omega)).mono ?_
  rintro e w2 ⟨v2, rfl, hv2, hb2⟩
  change Own _ _ _ _ v2 (words (num ys)) at hv2
  obtain ⟨ya, yc, rfl, hyr⟩ := hv2.readsC
  have hxr2 := hxr.later hb2
  have hB2 := hb1.trans (hb2.mono hb1.size)
  clear hr2' hv2 hxr
  generalize hY : num ys = Y at *
  generalize hly : (words Y).length = ly at *
  have HX : Hid (num xs = X) := hX
  have HY : Hid (num ys = Y) := hY
  clear hly hX hY
  go_wp2
  go_loopg [0, 1, 5] Y.toNat (fun g sa sb _ wr => ∃ (A' B' : Int) (va vb : Option Addr) (l1 l2 d1 d2 : Nat), g = B'.toNat ∧ sa = .slice va l1 d1 ∧ sb = .slice vb l2 d2 ∧ RowC wr va l1 d1 (words A') ∧ RowC wr vb l2 d2 (words B') ∧ 0 ≤ A' ∧ 0 ≤ B' ∧ l1 ≤ 3000000 ∧ l2 ≤ 3000000 ∧ Hid (Int.gcd A' B' = Int.gcd X Y) ∧ Below w.heap.size w wr)
  case atStart => exact ⟨X, Y, xa, ya, lx, ly, xc, yc, rfl, rfl, rfl, hxr2, hyr, hX0, hY0, by omega, by omega, rfl, hB2⟩
  case round =>
    obtain ⟨A', B', va, vb, l1, l2, d1, d2, hg, rfl, rfl, hra, hrb, hA', hB', hl1, hl2, hgc, hBw⟩ := hrel
    clear hxr2 hyr hB2
    have e2 := hrb.1.1
    have nz := words_nil hB'
    have nA := num_words hA'
    have nB := num_words hB'
    have dA := Dg_words A'
    have dB := Dg_words B'
    by_cases hz : B' = 0
    · have l0 : ¬ (0 : Int) < (l2 : Int) := by omega
      have HE : Hid ((Int.gcd (num xs) (num ys) : Int) = A') := by
        show _ = _
        have g := hgc.out
        rw [hz, Int.gcd_zero_right] at g
        rw [HX.out, HY.out, ← g]
        omega
      clear nz e2 hz hg
      go_wp2
      go_ret
      exact ⟨_, _, _, rfl, by rw [HE.out]; exact hra, hBw⟩
    · have hBp : 0 < B' := by omega
      have l0 : (0 : Int) < (l2 : Int) := by omega
      have hdm := ref5Rest_any (c := d1) (d := d2) hra.1 hrb.1 dA dB (by omega) (by omega) (by rw [nB]; exact hBp)
      rw [nA, nB] at hdm
      have r0 := Int.emod_nonneg A' (show B' ≠ 0 by omega)
      have r1 := Int.emod_lt_of_pos A' hBp
      have HG : Hid (Int.gcd B' (A' % B') = Int.gcd X Y) := (gcd_step A' B').trans hgc.out
      have m1 := words_mono r0 (Int.le_of_lt r1)
      have HM : Hid ((words (A' % B')).length ≤ l2) := by show _ ≤ _; omega
      clear nz e2 m1
      go_wp2_with fail
      refine hdm.mono ?_
      rintro e w4 ⟨ra, rn, rc, rfl, hr, hb4⟩
      have hB4 := hBw.trans (hb4.mono hBw.size)
      have hrb4 := hrb.later hb4
      have hrn := hr.1.1
      have hrl : rn ≤ 3000000 := by have := HM.out; omega
      clear hdm hra hrb hrn
      go_wp2
      go_roundg (A' % B').toNat
      case measure => omega
      case rel => exact ⟨B', A' % B', vb, ra, l2, rn, d2, rc, rfl, rfl, rfl, hrb4, hr, by omega, r0, hl2, hrl, HG, hB4⟩
set_option maxHeartbeats 3200000 in
end
end Go.Proofs.YtopcdpeepchgfacGreatDoor
