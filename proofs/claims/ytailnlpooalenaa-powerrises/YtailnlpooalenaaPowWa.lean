/- the walks of PowerRises, PowerProducts, PowerTens. -/
import Derived.Test.YtailnlpooalenaaPowC
namespace Go.Proofs.Ytailnlpooalenaa
open Go.ChangeShapes Go.WideShapes Go.ChangeAt Go.RowKit
open Na Ar
set_option linter.unusedVariables false
set_option maxHeartbeats 1600000 in
set_option maxRecDepth 100000 in
theorem rises_walk {e : Int} (w : World) :
    Calls Try.prog 3 #[.int .i64 e] w fun r w' => r = .returned (.bool true) ∧ Below w.heap.size w w' := by
  have ha := alive8_any w
  by_cases h : inT e
  · have h' := h
    unfold inT at h'
    have hf := fun w => five8_in h w
    by_cases h7 : e = 347
    · subst h7
      generalize pV 347 / 18446744073709551616 = H at *
      generalize pV 347 % 18446744073709551616 = L at *
      generalize pX 347 = X at *
      go_enter Try.func3, Try.ntmps3
      go_wp2_with fail
      refine ha.mono ?_
      rintro r w1 ⟨rfl, hb1⟩
      go_wp2_with fail
      refine (hf _).mono ?_
      rintro r w2 ⟨rfl, hb2⟩
      have hB := hb1.trans (hb2.mono hb1.size)
      go_wp2
      go_ret
      exact ⟨rfl, hB⟩
    · have hn : inT (e + 1) := ⟨by omega, by omega⟩
      have hf' := fun w => five8_in hn w
      have hw := fun w => whole8_in h w
      have st := pX_step h hn
      have rx := pX_rng h
      have ry := pX_rng hn
      rw [pW_is e h] at hw
      have d1 : decide (e < -348) = false := by simp; omega
      have d2 : decide (e > 346) = false := by simp; omega
      have d3 : decide (346 < e) = false := by simp; omega
      generalize pV e / 18446744073709551616 = H at *
      generalize pV e % 18446744073709551616 = L at *
      generalize pX e = X at *
      generalize pV (e + 1) / 18446744073709551616 = H' at *
      generalize pV (e + 1) % 18446744073709551616 = L' at *
      generalize pX (e + 1) = Y at *
      obtain ⟨B, hB⟩ : ∃ B, B = decide (0 ≤ e ∧ e ≤ 55) := ⟨_, rfl⟩
      rw [← hB] at hw
      have q : ((Y - X == 2) = true) ∨ ((Y - X == 2) = false ∧ (Y - X == 3) = true) := by
        rcases st with s | s
        · exact Or.inl (by simp [s])
        · exact Or.inr ⟨by simp [s], by simp [s]⟩
      have d4 : decide (e ≥ 0) = decide (0 ≤ e) := rfl
      have HE : (0 ≤ e ∧ decide (0 ≤ e) = true ∧ decide (e ≤ 55) = B) ∨ (decide (0 ≤ e) = false ∧ B = false) := by
        by_cases e0 : 0 ≤ e
        · left
          refine ⟨e0, by simp; omega, ?_⟩
          rw [hB]; simp [e0]
        · right
          refine ⟨by simp; omega, ?_⟩
          rw [hB]; simp [e0]
      clear hB st h hn
      rcases q with q | ⟨q, q'⟩ <;> rcases HE with ⟨e0, s1, s2⟩ | ⟨s1, rfl⟩
      all_goals
        go_enter Try.func3, Try.ntmps3
        go_wp2_with fail
        refine ha.mono ?_
        rintro r w1 ⟨rfl, hb1⟩
        go_wp2_with fail
        refine (hf _).mono ?_
        rintro r w2 ⟨rfl, hb2⟩
        have hB := hb1.trans (hb2.mono hb1.size)
        go_wp2_with fail
        refine (hf' _).mono ?_
        rintro r w3 ⟨rfl, hb3⟩
        have hB := hB.trans (hb3.mono hB.size)
        go_wp2_with fail
        refine (hw _).mono ?_
        rintro r w4 ⟨rfl, hb4⟩
        have hB := hB.trans (hb4.mono hB.size)
        clear ha hf hf' hw hb1 hb2 hb3 hb4
        go_wp2
        go_ret
        exact ⟨by simp, hB⟩
  · have h' := h
    unfold inT at h'
    have hf := fun w => five8_out h w
    have hi := fun w => in8_no h w
    have d0 : (e == 347) = false := beq_no (by omega)
    rcases (show e < -348 ∨ 347 < e by omega) with q | q
    · have d1 : decide (e < -348) = true := by simp; omega
      go_enter Try.func3, Try.ntmps3
      go_wp2_with fail
      refine ha.mono ?_
      rintro r w1 ⟨rfl, hb1⟩
      go_wp2_with fail
      refine (hf _).mono ?_
      rintro r w2 ⟨rfl, hb2⟩
      have hB := hb1.trans (hb2.mono hb1.size)
      go_wp2_with fail
      refine (hi _).mono ?_
      rintro r w3 ⟨rfl, rfl⟩
      go_wp2
      go_ret
      exact ⟨rfl, hB⟩
    · have d1 : decide (e < -348) = false := by simp; omega
      have d2 : decide (e > 346) = true := by simp; omega
      have d3 : decide (346 < e) = true := by simp; omega
      go_enter Try.func3, Try.ntmps3
      go_wp2_with fail
      refine ha.mono ?_
      rintro r w1 ⟨rfl, hb1⟩
      go_wp2_with fail
      refine (hf _).mono ?_
      rintro r w2 ⟨rfl, hb2⟩
      have hB := hb1.trans (hb2.mono hb1.size)
      go_wp2_with fail
      refine (hi _).mono ?_
      rintro r w3 ⟨rfl, rfl⟩
      go_wp2
      go_ret
      exact ⟨rfl, hB⟩
set_option maxHeartbeats 1600000 in
set_option maxRecDepth 100000 in
theorem tens_walk {e : Int} (w : World) :
    Calls Try.prog 7 #[.int .i64 e] w fun r w' => r = .returned (.bool true) ∧ Below w.heap.size w w' := by
  have ha := alive8_any w
  by_cases h : inT e
  · have h' := h
    unfold inT at h'
    have hl := fun w => log2_in h w
    have hm := fun w => log10_in (e := e) ⟨by omega, by omega⟩ w
    have hi := fun w => in8_yes h w
    obtain ⟨o1, o2, o3, o4⟩ := od_log h
    obtain ⟨u1, u2, u3, u4, _⟩ := tu_log (e := e) (by omega) (by omega)
    have O1 := fun w => ordered8_any (k := e * 1741647 / 524288) (e := e) (by omega) (by omega) h'.1 h'.2 w
    have O2 := fun w => ordered8_any (k := e * 1741647 / 524288 + 1) (e := e) (by omega) (by omega) h'.1 h'.2 w
    have T1 := fun w => turned8_any (j := e * 315653 / 1048576) (e := e) (by omega) (by omega) (by omega) (by omega) w
    have T2 := fun w => turned8_any (j := e * 315653 / 1048576 + 1) (e := e) (by omega) (by omega) (by omega) (by omega) w
    rw [show decide (ordN (odL (e * 1741647 / 524288)) (odR e) ≤ 0) = true by simp only [decide_eq_true_eq]; exact ordN_le.mpr o1] at O1
    rw [show decide (ordN (odL (e * 1741647 / 524288 + 1)) (odR e) ≤ 0) = false by simp only [decide_eq_false_iff_not]; intro q; have := ordN_le.mp q; omega] at O2
    rw [show decide (ordN (tuL (e * 315653 / 1048576)) (tuR e) ≤ 0) = true by simp only [decide_eq_true_eq]; exact ordN_le.mpr u1] at T1
    rw [show decide (ordN (tuL (e * 315653 / 1048576 + 1)) (tuR e) ≤ 0) = false by simp only [decide_eq_false_iff_not]; intro q; have := ordN_le.mp q; omega] at T2
    have d1 : decide (e ≥ -1200) = true := by simp; omega
    have d2 : decide (-1200 ≤ e) = true := by simp; omega
    have d3 : decide (e ≤ 1200) = true := by simp; omega
    generalize e * 1741647 / 524288 = K at *
    generalize e * 315653 / 1048576 = J at *
    clear o1 o2 u1 u2
    go_enter Try.func7, Try.ntmps7
    go_wp2_with fail
    refine ha.mono ?_
    rintro r w1 ⟨rfl, hb1⟩
    go_wp2_with fail
    refine (hl _).mono ?_
    rintro r w2 ⟨rfl, hb⟩
    have hB := hb1.trans (hb.mono hb1.size)
    go_wp2_with fail
    refine (hm _).mono ?_
    rintro r w3 ⟨rfl, hb⟩
    have hB := hB.trans (hb.mono hB.size)
    go_wp2_with fail
    refine (hi _).mono ?_
    rintro r w4 ⟨rfl, rfl⟩
    go_wp2_with fail
    refine (O1 _).mono ?_
    rintro r w4 ⟨rfl, hb⟩
    have hB := hB.trans (hb.mono hB.size)
    go_wp2_with fail
    refine (O2 _).mono ?_
    rintro r w5 ⟨rfl, hb⟩
    have hB := hB.trans (hb.mono hB.size)
    go_wp2_with fail
    refine (T1 _).mono ?_
    rintro r w6 ⟨rfl, hb⟩
    have hB := hB.trans (hb.mono hB.size)
    go_wp2_with fail
    refine (T2 _).mono ?_
    rintro r w7 ⟨rfl, hb⟩
    have hB := hB.trans (hb.mono hB.size)
    go_wp2
    go_ret
    exact ⟨rfl, hB⟩
  · have h' := h
    unfold inT at h'
    have hl := fun w => log2_out h w
    have hi := fun w => in8_no h w
    by_cases h1 : -1200 ≤ e ∧ e ≤ 1200
    · have hm := fun w => log10_in (e := e) h1 w
      obtain ⟨u1, u2, u3, u4, _⟩ := tu_log (e := e) (by omega) (by omega)
      have T1 := fun w => turned8_any (j := e * 315653 / 1048576) (e := e) (by omega) (by omega) (by omega) (by omega) w
      have T2 := fun w => turned8_any (j := e * 315653 / 1048576 + 1) (e := e) (by omega) (by omega) (by omega) (by omega) w
      rw [show decide (ordN (tuL (e * 315653 / 1048576)) (tuR e) ≤ 0) = true by simp only [decide_eq_true_eq]; exact ordN_le.mpr u1] at T1
      rw [show decide (ordN (tuL (e * 315653 / 1048576 + 1)) (tuR e) ≤ 0) = false by simp only [decide_eq_false_iff_not]; intro q; have := ordN_le.mp q; omega] at T2
      have d1 : decide (e ≥ -1200) = true := by simp; omega
      have d2 : decide (-1200 ≤ e) = true := by simp; omega
      have d3 : decide (e ≤ 1200) = true := by simp; omega
      generalize e * 315653 / 1048576 = J at *
      clear u1 u2
      go_enter Try.func7, Try.ntmps7
      go_wp2_with fail
      refine ha.mono ?_
      rintro r w1 ⟨rfl, hb1⟩
      go_wp2_with fail
      refine (hl _).mono ?_
      rintro r w2 ⟨rfl, hb⟩
      have hB := hb1.trans (hb.mono hb1.size)
      go_wp2_with fail
      refine (hm _).mono ?_
      rintro r w3 ⟨rfl, hb⟩
      have hB := hB.trans (hb.mono hB.size)
      go_wp2_with fail
      refine (hi _).mono ?_
      rintro r w4 ⟨rfl, rfl⟩
      go_wp2_with fail
      refine (T1 _).mono ?_
      rintro r w6 ⟨rfl, hb⟩
      have hB := hB.trans (hb.mono hB.size)
      go_wp2_with fail
      refine (T2 _).mono ?_
      rintro r w7 ⟨rfl, hb⟩
      have hB := hB.trans (hb.mono hB.size)
      go_wp2
      go_ret
      exact ⟨rfl, hB⟩
    · have hm := fun w => log10_out (e := e) h1 w
      rcases (show e < -1200 ∨ 1200 < e by omega) with q | q
      · have d1 : decide (e ≥ -1200) = false := by simp; omega
        have d2 : decide (-1200 ≤ e) = false := by simp; omega
        go_enter Try.func7, Try.ntmps7
        go_wp2_with fail
        refine ha.mono ?_
        rintro r w1 ⟨rfl, hb1⟩
        go_wp2_with fail
        refine (hl _).mono ?_
        rintro r w2 ⟨rfl, hb⟩
        have hB := hb1.trans (hb.mono hb1.size)
        go_wp2_with fail
        refine (hm _).mono ?_
        rintro r w3 ⟨rfl, hb⟩
        have hB := hB.trans (hb.mono hB.size)
        go_wp2_with fail
        refine (hi _).mono ?_
        rintro r w4 ⟨rfl, rfl⟩
        go_wp2
        go_ret
        exact ⟨rfl, hB⟩
      · have d1 : decide (e ≥ -1200) = true := by simp; omega
        have d2 : decide (-1200 ≤ e) = true := by simp; omega
        have d3 : decide (e ≤ 1200) = false := by simp; omega
        go_enter Try.func7, Try.ntmps7
        go_wp2_with fail
        refine ha.mono ?_
        rintro r w1 ⟨rfl, hb1⟩
        go_wp2_with fail
        refine (hl _).mono ?_
        rintro r w2 ⟨rfl, hb⟩
        have hB := hb1.trans (hb.mono hb1.size)
        go_wp2_with fail
        refine (hm _).mono ?_
        rintro r w3 ⟨rfl, hb⟩
        have hB := hB.trans (hb.mono hB.size)
        go_wp2_with fail
        refine (hi _).mono ?_
        rintro r w4 ⟨rfl, rfl⟩
        go_wp2
        go_ret
        exact ⟨rfl, hB⟩
end Go.Proofs.Ytailnlpooalenaa
