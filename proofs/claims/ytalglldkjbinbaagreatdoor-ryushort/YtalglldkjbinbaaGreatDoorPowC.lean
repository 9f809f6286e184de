/- package power: next; Five, Whole, Above, Log2, Log10; the statements' alive. -/
import Derived.Test.YtalglldkjbinbaaGreatDoorPowA
namespace Go.Proofs.YtalglldkjbinbaaGreatDoor
open Go.ChangeShapes Go.WideShapes Go.ChangeAt Go.RowKit
open Na Ar
set_option linter.unusedVariables false
namespace Na
theorem next_lo {V : Int} (h0 : 0 ≤ V) : addLo (V % 18446744073709551616) 1 0 = (V + 1) % 18446744073709551616 := by unfold addLo; omega
theorem next_c {V : Int} (h0 : 0 ≤ V) : addHi (V % 18446744073709551616) 1 0 = (V % 18446744073709551616 + 1) / 18446744073709551616 := by unfold addHi; simp
theorem next_hi {V : Int} (h0 : 0 ≤ V) (h : V + 1 < 340282366920938463463374607431768211456) : addLo (V / 18446744073709551616) 0 ((V % 18446744073709551616 + 1) / 18446744073709551616) = (V + 1) / 18446744073709551616 ∧
    addHi (V / 18446744073709551616) 0 ((V % 18446744073709551616 + 1) / 18446744073709551616) = 0 := by unfold addLo addHi; omega
end Na
theorem or_none {x : Int} (h : U x) : bits .or .u64 x 0 = x := by
  rw [u64_or _ _ h.1 h.2 (by omega) (by omega)]
  have := h.1
  simp
  omega
set_option maxHeartbeats 1600000 in
set_option maxRecDepth 100000 in
theorem next8_any {V x : Int} {b : Bool} (h0 : 0 ≤ V) (h1 : V + 1 < 340282366920938463463374607431768211456) (hx0 : -1000 ≤ x) (hx1 : x ≤ 1000) (w : World) :
    Calls Tryz.prog 130 #[frV (V / 18446744073709551616) (V % 18446744073709551616) x b] w fun r w' => r = .returned (frV ((V + 1) / 18446744073709551616) ((V + 1) % 18446744073709551616) x b) ∧ Below w.heap.size w w' := by
  have uh : U (V / 18446744073709551616) := by unfold U; omega
  have ul : U (V % 18446744073709551616) := by unfold U; omega
  have uc : U ((V % 18446744073709551616 + 1) / 18446744073709551616) := by unfold U; omega
  have un : U ((V + 1) / 18446744073709551616) := by unfold U; omega
  have A1 := fun w => add_any ul (show U 1 by unfold U; omega) (show U 0 by unfold U; omega) w
  have A2 := fun w => add_any uh (show U 0 by unfold U; omega) uc w
  rw [next_lo h0, next_c h0] at A1
  rw [(next_hi h0 h1).1, (next_hi h0 h1).2] at A2
  have O := or_none un
  have HO : Hid (bits .or .u64 ((V + 1) / 18446744073709551616) 0 = (V + 1) / 18446744073709551616) := O
  unfold frV
  generalize V / 18446744073709551616 = hi at *
  generalize (V % 18446744073709551616 + 1) / 18446744073709551616 = c at *
  generalize V % 18446744073709551616 = lo at *
  generalize (V + 1) / 18446744073709551616 = hi' at *
  generalize (V + 1) % 18446744073709551616 = lo' at *
  clear h0 h1
  go_enter Tryz.func130, Tryz.ntmps130
  go_wp2_with fail
  refine (A1 _).mono ?_
  rintro r w9 ⟨p1, q1, rfl, rfl, rfl, rfl⟩
  go_wp2_with fail
  refine (A2 _).mono ?_
  rintro r w9 ⟨p, q, rfl, rfl, rfl, rfl⟩
  go_wp2
  refine bodyPost_ret (v := .agg #[.int .u64 p, .int .u64 p1, .int .i64 x, .bool b]) (by simp [results, Tryz.results130, go_sem]) rfl ?_
  refine ⟨rfl, ?_⟩
  repeat (first | exact Below.refl _ _ | refine Below.alloc ?_ (by simp <;> omega) _)
theorem results8_tmp4 {fn : Func} {t u v x : Tmp} (h : fn.results = #[.tmp t, .tmp u, .tmp v, .tmp x]) (tmps : Array Value) (P : Program) (w : World) :
    (results fn tmps).run P w = .ok (.tuple #[tmps.getD t undef, tmps.getD u undef, tmps.getD v undef, tmps.getD x undef]) w := by
  simp [results, h]
def tabE (e : Int) : Int := if -348 ≤ e ∧ e ≤ 347 then 0 else 80
def tabI (e v : Int) : Int := if -348 ≤ e ∧ e ≤ 347 then v else 0
theorem tabE_in {e : Int} (h : inT e) : tabE e = 0 := by unfold tabE; exact if_pos h
theorem tabE_out {e : Int} (h : ¬ inT e) : tabE e = 80 := by unfold tabE; exact if_neg h
theorem tabI_in {e v : Int} (h : inT e) : tabI e v = v := by unfold tabI; exact if_pos h
theorem tabI_out {e v : Int} (h : ¬ inT e) : tabI e v = 0 := by unfold tabI; exact if_neg h
/-- what is not below -/
def abV (e : Int) : Int := if pW e = true then pV e else pV e + 1
theorem abV_in {e : Int} (h : pW e = true) : abV e = pV e := by unfold abV; rw [if_pos h]
theorem abV_out {e : Int} (h : pW e = false) : abV e = pV e + 1 := by unfold abV; rw [if_neg (by rw [h]; simp)]
set_option maxHeartbeats 1600000 in
set_option maxRecDepth 100000 in
theorem above8_out {e : Int} (h : ¬ inT e) (w : World) :
    Calls Tryz.prog 102 #[.int .i64 e] w fun r w' => r = .returned (.tuple #[.int .u64 0, .int .u64 0, .int .i64 0, .int .i64 80]) ∧ Below w.heap.size w w' := by
  have hr := reckon8_out h w
  go_enter Tryz.func102, Tryz.ntmps102
  go_wp2_with fail
  refine hr.mono ?_
  rintro r w1 ⟨rfl, hb⟩
  unfold frV
  have hb1 := alloc_below (w := w1) (.cells #[.int .u64 0, .int .u64 0, .int .i64 0, .bool false] 143)
  have hB := hb.trans (hb1.mono hb.size)
  clear hb hb1 hr
  go_wp2
  go_region
  all_goals (try go_wp2)
  all_goals (refine bodyPost_ret (results8_tmp4 rfl _ _ _) rfl ?_)
  all_goals exact ⟨rfl, below_drewN hB 1⟩
set_option maxHeartbeats 1600000 in
set_option maxRecDepth 100000 in
theorem above8_in {e : Int} (h : inT e) (w : World) :
    Calls Tryz.prog 102 #[.int .i64 e] w fun r w' => r = .returned (.tuple #[.int .u64 (abV e / 18446744073709551616), .int .u64 (abV e % 18446744073709551616), .int .i64 (pX e), .int .i64 0]) ∧ Below w.heap.size w w' := by
  have hr := reckon8_in h w
  by_cases hw : pW e = true
  · rw [abV_in hw]
    rw [hw] at hr
    generalize pV e / 18446744073709551616 = H at *
    generalize pV e % 18446744073709551616 = L at *
    generalize pX e = X at *
    clear hw
    go_enter Tryz.func102, Tryz.ntmps102
    go_wp2_with fail
    refine hr.mono ?_
    rintro r w1 ⟨rfl, hb⟩
    unfold frV
    have hb1 := alloc_below (w := w1) (.cells #[.int .u64 H, .int .u64 L, .int .i64 X, .bool true] 143)
    have hB := hb.trans (hb1.mono hb.size)
    clear hb hb1 hr
    go_wp2
    go_region
    all_goals (try go_wp2)
    all_goals (refine bodyPost_ret (results8_tmp4 rfl _ _ _) rfl ?_)
    all_goals exact ⟨rfl, below_drewN hB 1⟩
  · have hw : pW e = false := by simpa using hw
    have rg := pV_rng h
    have rx := pX_rng h
    have hn := fun w => next8_any (b := false) (V := pV e) (x := pX e) (by omega) (rg.2.2 hw) rx.1 rx.2 w
    rw [abV_out hw]
    rw [hw] at hr
    unfold frV at hn hr
    generalize pV e / 18446744073709551616 = H at *
    generalize pV e % 18446744073709551616 = L at *
    generalize (pV e + 1) / 18446744073709551616 = H' at *
    generalize (pV e + 1) % 18446744073709551616 = L' at *
    generalize pX e = X at *
    clear hw rg rx
    go_enter Tryz.func102, Tryz.ntmps102
    go_wp2_with fail
    refine hr.mono ?_
    rintro r w1 ⟨rfl, hb⟩
    have hb1 := alloc_below (w := w1) (.cells #[.int .u64 H, .int .u64 L, .int .i64 X, .bool false] 143)
    have t1 := f4_new w1 (.int .u64 H) (.int .u64 L) (.int .i64 X) (.bool false) 143
    have hB := hb.trans (hb1.mono hb.size)
    have hs := hb.size
    clear hb hb1 hr
    go_wp2_with fail
    obtain ⟨g, hg⟩ : ∃ g, g = w1.heap.size := ⟨_, rfl⟩
    rw [← hg] at t1 hs
    rw [← hg]
    generalize w1.alloc (.cells #[.int .u64 H, .int .u64 L, .int .i64 X, .bool false] 143) = w2 at *
    refine (hn _).mono ?_
    rintro r w3 ⟨rfl, hb⟩
    have t3 := t1.later hb
    have hB3 := hB.trans (hb.mono hB.size)
    obtain ⟨x0, x1, x2, x3⟩ := t3.cells
    obtain ⟨z0, z1, z2, z3⟩ := t3.frozen
    obtain ⟨j0, j1, j2, j3⟩ := (t3.set (.int .u64 H') (.int .u64 L') (.int .i64 X) (.bool false)).cells
    have hB4 := below_set4 hB3 hs (Nat.le_refl _) (.int .u64 H') (.int .u64 L') (.int .i64 X) (.bool false)
    clear hn hb hB hB3 t1 hg
    go_wp2
    generalize (((w3.setCell ⟨g, 0, none⟩ (.int .u64 H')).setCell ⟨g, 1, none⟩ (.int .u64 L')).setCell ⟨g, 2, none⟩ (.int .i64 X)).setCell ⟨g, 3, none⟩ (.bool false) = w4 at *
    clear x0 x1 x2 x3 z0 z1 z2 z3 t3
    go_region
    all_goals (try go_wp2)
    all_goals (refine bodyPost_ret (results8_tmp4 rfl _ _ _) rfl ?_)
    all_goals exact ⟨rfl, below_drewN hB4 1⟩
theorem above8_all (e : Int) (w : World) : Calls Tryz.prog 102 #[.int .i64 e] w fun r w' => r = .returned (.tuple #[.int .u64 (tabI e (abV e / 18446744073709551616)), .int .u64 (tabI e (abV e % 18446744073709551616)), .int .i64 (tabI e (pX e)), .int .i64 (tabE e)]) ∧ Below w.heap.size w w' := by
  by_cases h : inT e
  · rw [tabI_in h, tabI_in h, tabI_in h, tabE_in h]; exact above8_in h w
  · rw [tabI_out h, tabI_out h, tabI_out h, tabE_out h]; exact above8_out h w
theorem log10_out {e : Int} (h : ¬ (-1200 ≤ e ∧ e ≤ 1200)) (w : World) : Calls Tryz.prog 101 #[.int .i64 e] w fun r w' => r = .returned (.tuple #[.int .i64 0, .int .i64 80]) ∧ Below w.heap.size w w' := by
  by_cases h0 : e < -1200
  · have d1 : decide (e < -1200) = true := by simp; omega
    go_enter Tryz.func101, Tryz.ntmps101
    go_wp2
    go_ret2
    exact ⟨rfl, Below.refl _ _⟩
  · have d1 : decide (e < -1200) = false := by simp; omega
    have d2 : decide (e > 1200) = true := by simp; omega
    have d3 : decide (1200 < e) = true := by simp; omega
    go_enter Tryz.func101, Tryz.ntmps101
    go_wp2
    go_ret2
    exact ⟨rfl, Below.refl _ _⟩
theorem log10_in {e : Int} (h : -1200 ≤ e ∧ e ≤ 1200) (w : World) : Calls Tryz.prog 101 #[.int .i64 e] w fun r w' => r = .returned (.tuple #[.int .i64 (e * 315653 / 1048576), .int .i64 0]) ∧ Below w.heap.size w w' := by
  have d1 : decide (e < -1200) = false := by simp; omega
  have d2 : decide (e > 1200) = false := by simp; omega
  have d3 : decide (1200 < e) = false := by simp; omega
  go_enter Tryz.func101, Tryz.ntmps101
  go_wp2
  go_ret2
  exact ⟨rfl, Below.refl _ _⟩
theorem log10_all (e : Int) (w : World) : Calls Tryz.prog 101 #[.int .i64 e] w fun r w' => (∃ a b, r = .returned (.tuple #[.int .i64 a, .int .i64 b])) ∧ Below w.heap.size w w' := by
  by_cases h : -1200 ≤ e ∧ e ≤ 1200
  · exact (log10_in h w).mono fun _ _ h => ⟨⟨_, _, h.1⟩, h.2⟩
  · exact (log10_out h w).mono fun _ _ h => ⟨⟨_, _, h.1⟩, h.2⟩
namespace Na
theorem v28 : vN 376 = 9313225746154785156 * 18446744073709551616 + 4611686018427387904 := by kernel_rfl
theorem x28 : xN 376 = 938 := by kernel_rfl
theorem p28 : pV 28 / 18446744073709551616 = 9313225746154785156 ∧ pV 28 % 18446744073709551616 = 4611686018427387904 ∧ pX 28 = -62 := by
  unfold pV pX
  rw [show ((28 : Int) + 348).toNat = 376 by decide, v28, x28]
  decide
end Na
end Go.Proofs.YtalglldkjbinbaaGreatDoor
