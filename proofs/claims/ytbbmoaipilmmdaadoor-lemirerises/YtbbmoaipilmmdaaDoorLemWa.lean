/- the walks of LemireTens, LemireRises (written by genlemw.py). -/
import Derived.Test.YtbbmoaipilmmdaaDoorLemL
import Derived.Test.YtbbmoaipilmmdaaDoorBaseJ
namespace Go.Proofs.YtbbmoaipilmmdaaDoor
open Go.ChangeShapes Go.WideShapes Go.ChangeAt Go.RowKit
open Na Ar Lx
set_option linter.unusedVariables false
set_option maxHeartbeats 3200000 in
set_option maxRecDepth 100000 in
theorem tens_walk {m e : Int} (hm : U m) (i0 : -9223372036854775808 ≤ e) (i1 : e ≤ 9223372036854775807) {w : World} (hT : TenVar w) :
    Calls Tryd.prog 3 #[.int .u64 m, .int .i64 e] w fun r w' => r = .returned (.bool true) ∧ Below w.heap.size w w' := by
  have hm9 : U (m / 10) := by unfold U at *; omega
  have hm8 : U (10 * (m / 10)) := by unfold U at *; omega
  have hm0 : 0 ≤ m := hm.1
  have hF1 := fun e (a : -9223372036854775808 ≤ e) (b : e ≤ 9223372036854775807) w => lemFast_any (e := e) hm9 a b w
  have hF2 := fun e (a : -9223372036854775808 ≤ e) (b : e ≤ 9223372036854775807) w => lemFast_any (e := e) hm8 a b w
  have HS : Hid (∀ e b E b' E', FastIs (m / 10) e b E → FastIs (10 * (m / 10)) (e - 1) b' E' → E ≠ 100 → E' ≠ 100 → b = b' ∧ E = E') := fun e b E b' E' q1 q2 q3 q4 => tens_same hm9 hm8 q1 q2 q3 q4
  have u0 : 0 ≤ m / 10 := hm9.1
  have u1 : m / 10 ≤ 1844674407370955161 := by unfold U at hm; omega
  have hdd : m.tdiv 10 = m / 10 := Int.tdiv_eq_ediv_of_nonneg hm0
  clear hm9 hm8
  generalize m / 10 = n at *
  by_cases h : e < -100000 ∨ 100000 < e
  · have hr0 : -100000 < e.tmod 100000 := Int.lt_tmod_of_pos e (by omega)
    have hr1 : e.tmod 100000 < 100000 := Int.tmod_lt_of_pos e (by omega)
    generalize hq : e.tmod 100000 = f at *
    have hF1 := fun w => hF1 f (by omega) (by omega) w
    have hF2 := fun w => hF2 (f - 1) (by omega) (by omega) w
    have HS := HS.out f
    rcases h with h | h
    · have d1 : decide (e < -100000) = true := by simp; omega
      go_enter Tryd.func3, Tryd.ntmps3
      go_wp2_with fail
      refine (hF1 _).mono ?_
      rintro r w1 ⟨a, E, rfl, f1, _, hb1⟩
      clear hF1
      go_wp2_with fail
      refine (hF2 _).mono ?_
      rintro r w2 ⟨b, E', rfl, f2, _, hb⟩
      have hB := hb1.trans (hb.mono hb1.size)
      clear hF2 hb hb1
      have ha := alive10_any (hT.later hB)
      go_wp2_with fail
      refine ha.mono ?_
      rintro r w3 ⟨rfl, hb⟩
      have hB := hB.trans (hb.mono hB.size)
      clear ha hb
      by_cases q1 : E = 100
      · have t1 : (E == 100) = true := beq_of q1
        clear q1 f1 f2 HS
        go_wp2
        go_ret
        exact ⟨rfl, hB⟩
      · have t1 : (E == 100) = false := beq_no q1
        by_cases q2 : E' = 100
        · have t2 : (E' == 100) = true := beq_of q2
          clear q1 q2 f1 f2 HS
          go_wp2
          go_ret
          exact ⟨rfl, hB⟩
        · obtain ⟨q3, q4⟩ := HS _ _ _ _ f1 f2 q1 q2
          have t2 : (E' == 100) = false := beq_no q2
          have t3 : (a == b) = true := beq_of q3
          have t4 : (E == E') = true := beq_of q4
          clear q1 q2 q3 q4 f1 f2 HS
          go_wp2
          go_ret
          exact ⟨rfl, hB⟩
    · have d1 : decide (e < -100000) = false := by simp; omega
      have d2 : decide (100000 < e) = true := by simp; omega
      have d2' : decide (e > 100000) = true := by simp; omega
      go_enter Tryd.func3, Tryd.ntmps3
      go_wp2_with fail
      refine (hF1 _).mono ?_
      rintro r w1 ⟨a, E, rfl, f1, _, hb1⟩
      clear hF1
      go_wp2_with fail
      refine (hF2 _).mono ?_
      rintro r w2 ⟨b, E', rfl, f2, _, hb⟩
      have hB := hb1.trans (hb.mono hb1.size)
      clear hF2 hb hb1
      have ha := alive10_any (hT.later hB)
      go_wp2_with fail
      refine ha.mono ?_
      rintro r w3 ⟨rfl, hb⟩
      have hB := hB.trans (hb.mono hB.size)
      clear ha hb
      by_cases q1 : E = 100
      · have t1 : (E == 100) = true := beq_of q1
        clear q1 f1 f2 HS
        go_wp2
        go_ret
        exact ⟨rfl, hB⟩
      · have t1 : (E == 100) = false := beq_no q1
        by_cases q2 : E' = 100
        · have t2 : (E' == 100) = true := beq_of q2
          clear q1 q2 f1 f2 HS
          go_wp2
          go_ret
          exact ⟨rfl, hB⟩
        · obtain ⟨q3, q4⟩ := HS _ _ _ _ f1 f2 q1 q2
          have t2 : (E' == 100) = false := beq_no q2
          have t3 : (a == b) = true := beq_of q3
          have t4 : (E == E') = true := beq_of q4
          clear q1 q2 q3 q4 f1 f2 HS
          go_wp2
          go_ret
          exact ⟨rfl, hB⟩
  · have d1 : decide (e < -100000) = false := by simp; omega
    have d2 : decide (100000 < e) = false := by simp; omega
    have d2' : decide (e > 100000) = false := by simp; omega
    have hF1 := fun w => hF1 e (by omega) (by omega) w
    have hF2 := fun w => hF2 (e - 1) (by omega) (by omega) w
    have HS := HS.out e
    have g0 : -100000 ≤ e := by omega
    have g1 : e ≤ 100000 := by omega
    clear h
    go_enter Tryd.func3, Tryd.ntmps3
    go_wp2_with fail
    refine (hF1 _).mono ?_
    rintro r w1 ⟨a, E, rfl, f1, _, hb1⟩
    clear hF1
    go_wp2_with fail
    refine (hF2 _).mono ?_
    rintro r w2 ⟨b, E', rfl, f2, _, hb⟩
    have hB := hb1.trans (hb.mono hb1.size)
    clear hF2 hb hb1
    have ha := alive10_any (hT.later hB)
    go_wp2_with fail
    refine ha.mono ?_
    rintro r w3 ⟨rfl, hb⟩
    have hB := hB.trans (hb.mono hB.size)
    clear ha hb
    by_cases q1 : E = 100
    · have t1 : (E == 100) = true := beq_of q1
      clear q1 f1 f2 HS
      go_wp2
      go_ret
      exact ⟨rfl, hB⟩
    · have t1 : (E == 100) = false := beq_no q1
      by_cases q2 : E' = 100
      · have t2 : (E' == 100) = true := beq_of q2
        clear q1 q2 f1 f2 HS
        go_wp2
        go_ret
        exact ⟨rfl, hB⟩
      · obtain ⟨q3, q4⟩ := HS _ _ _ _ f1 f2 q1 q2
        have t2 : (E' == 100) = false := beq_no q2
        have t3 : (a == b) = true := beq_of q3
        have t4 : (E == E') = true := beq_of q4
        clear q1 q2 q3 q4 f1 f2 HS
        go_wp2
        go_ret
        exact ⟨rfl, hB⟩
set_option maxHeartbeats 3200000 in
set_option maxRecDepth 100000 in
theorem rises_any {m e n f : Int} (hm : U m) (hn : U n) (hmn : m ≤ n) (hef : e ≤ f) (e0 : -9223372036854775808 ≤ e) (f1 : f ≤ 9223372036854775807) (w : World) :
    Calls Tryd.prog 10 #[.int .u64 m, .int .i64 e, .int .u64 n, .int .i64 f] w fun r w' => r = .returned (.bool true) ∧ Below w.heap.size w w' := by
  have hF1 := fun w => lemFast_any (m := m) (e := e) hm e0 (by omega) w
  have hF2 := fun w => lemFast_any (m := n) (e := f) hn (by omega) f1 w
  have HS : Hid (∀ b E b' E', FastIs m e b E → FastIs n f b' E' → E = 100 ∨ E' = 100 ∨ E' = 70 ∨ (E = 0 ∧ E' = 0 ∧ 0 ≤ b ∧ b ≤ b' ∧ b' ≤ mostP)) := fun b E b' E' q1 q2 => rises_said hm hn hmn hef q1 q2
  go_enter Tryd.func10, Tryd.ntmps10
  go_wp2_with fail
  refine (hF1 _).mono ?_
  rintro r w1 ⟨a, E, rfl, q1, ua, hb1⟩
  clear hF1
  go_wp2_with fail
  refine (hF2 _).mono ?_
  rintro r w2 ⟨b, E', rfl, q2, ub, hb⟩
  have hB := hb1.trans (hb.mono hb1.size)
  clear hF2 hb hb1
  have hs := HS.out _ _ _ _ q1 q2
  clear HS q1 q2
  by_cases c1 : E = 100
  · have t1 : (E == 100) = true := beq_of c1
    clear c1 hs
    go_wp2
    go_ret
    exact ⟨rfl, hB⟩
  · have t1 : (E == 100) = false := beq_no c1
    by_cases c2 : E' = 100
    · have t2 : (E' == 100) = true := beq_of c2
      clear c1 c2 hs
      go_wp2
      go_ret
      exact ⟨rfl, hB⟩
    · have t2 : (E' == 100) = false := beq_no c2
      by_cases c3 : E' = 70
      · have t3 : (E' == 70) = true := beq_of c3
        clear c1 c2 c3 hs
        go_wp2
        go_ret
        exact ⟨rfl, hB⟩
      · have t3 : (E' == 70) = false := beq_no c3
        obtain ⟨rfl, rfl, g1, g2, g3⟩ : E = 0 ∧ E' = 0 ∧ 0 ≤ a ∧ a ≤ b ∧ b ≤ mostP := by
          rcases hs with h | h | h | h
          · exact absurd h c1
          · exact absurd h c2
          · exact absurd h c3
          · exact h
        obtain ⟨k1, k2⟩ := cmp_le g1 g2 g3
        have hC := fun w => f6Cmp_any ua ub w
        rw [k1] at hC
        generalize cmW a b = c at *
        clear c1 c2 c3 hs t1 t2 t3 k1
        go_wp2_with fail
        refine (hC _).mono ?_
        rintro r w3 ⟨rfl, rfl⟩
        have d : decide (c ≤ 0) = true := by simp; omega
        clear hC
        go_wp2
        go_ret
        exact ⟨rfl, hB⟩
set_option maxHeartbeats 3200000 in
set_option maxRecDepth 100000 in
theorem rises_walk {m n e f : Int} (hm : U m) (hn : U n) (e0 : -9223372036854775808 ≤ e) (e1 : e ≤ 9223372036854775807) (f0 : -9223372036854775808 ≤ f) (f1 : f ≤ 9223372036854775807) {w : World} (hT : TenVar w) :
    Calls Tryd.prog 5 #[.int .u64 m, .int .u64 n, .int .i64 e, .int .i64 f] w fun r w' => r = .returned (.bool true) ∧ Below w.heap.size w w' := by
  by_cases h1 : n < m
  · have d1 : decide (n < m) = true := by simp; omega
    have d1' : decide (m > n) = true := by simp; omega
    by_cases h2 : f < e
    · have d2 : decide (f < e) = true := by simp; omega
      have d2' : decide (e > f) = true := by simp; omega
      have hR1 := fun w => rises_any (m := n) (e := f) (n := m) (f := f) hn hm (by omega) (by omega) f0 f1 w
      have hR2 := fun w => rises_any (m := n) (e := f) (n := n) (f := e) hn hn (by omega) (by omega) f0 e1 w
      have hR3 := fun w => rises_any (m := n) (e := f) (n := m) (f := e) hn hm (by omega) (by omega) f0 e1 w
      have ha := alive10_any hT
      go_enter Tryd.func5, Tryd.ntmps5
      go_wp2_with fail
      refine ha.mono ?_
      rintro r w1 ⟨rfl, hB⟩
      clear ha
      go_wp2_with fail
      refine (hR1 _).mono ?_
      rintro r w2 ⟨rfl, hb⟩
      have hB := hB.trans (hb.mono hB.size)
      clear hR1 hb
      go_wp2_with fail
      refine (hR2 _).mono ?_
      rintro r w3 ⟨rfl, hb⟩
      have hB := hB.trans (hb.mono hB.size)
      clear hR2 hb
      go_wp2_with fail
      refine (hR3 _).mono ?_
      rintro r w4 ⟨rfl, hb⟩
      have hB := hB.trans (hb.mono hB.size)
      clear hR3 hb
      go_wp2
      go_ret
      exact ⟨rfl, hB⟩
    · have d2 : decide (f < e) = false := by simp; omega
      have d2' : decide (e > f) = false := by simp; omega
      have hR1 := fun w => rises_any (m := n) (e := e) (n := m) (f := e) hn hm (by omega) (by omega) e0 e1 w
      have hR2 := fun w => rises_any (m := n) (e := e) (n := n) (f := f) hn hn (by omega) (by omega) e0 f1 w
      have hR3 := fun w => rises_any (m := n) (e := e) (n := m) (f := f) hn hm (by omega) (by omega) e0 f1 w
      have ha := alive10_any hT
      go_enter Tryd.func5, Tryd.ntmps5
      go_wp2_with fail
      refine ha.mono ?_
      rintro r w1 ⟨rfl, hB⟩
      clear ha
      go_wp2_with fail
      refine (hR1 _).mono ?_
      rintro r w2 ⟨rfl, hb⟩
      have hB := hB.trans (hb.mono hB.size)
      clear hR1 hb
      go_wp2_with fail
      refine (hR2 _).mono ?_
      rintro r w3 ⟨rfl, hb⟩
      have hB := hB.trans (hb.mono hB.size)
      clear hR2 hb
      go_wp2_with fail
      refine (hR3 _).mono ?_
      rintro r w4 ⟨rfl, hb⟩
      have hB := hB.trans (hb.mono hB.size)
      clear hR3 hb
      go_wp2
      go_ret
      exact ⟨rfl, hB⟩
  · have d1 : decide (n < m) = false := by simp; omega
    have d1' : decide (m > n) = false := by simp; omega
    by_cases h2 : f < e
    · have d2 : decide (f < e) = true := by simp; omega
      have d2' : decide (e > f) = true := by simp; omega
      have hR1 := fun w => rises_any (m := m) (e := f) (n := n) (f := f) hm hn (by omega) (by omega) f0 f1 w
      have hR2 := fun w => rises_any (m := m) (e := f) (n := m) (f := e) hm hm (by omega) (by omega) f0 e1 w
      have hR3 := fun w => rises_any (m := m) (e := f) (n := n) (f := e) hm hn (by omega) (by omega) f0 e1 w
      have ha := alive10_any hT
      go_enter Tryd.func5, Tryd.ntmps5
      go_wp2_with fail
      refine ha.mono ?_
      rintro r w1 ⟨rfl, hB⟩
      clear ha
      go_wp2_with fail
      refine (hR1 _).mono ?_
      rintro r w2 ⟨rfl, hb⟩
      have hB := hB.trans (hb.mono hB.size)
      clear hR1 hb
      go_wp2_with fail
      refine (hR2 _).mono ?_
      rintro r w3 ⟨rfl, hb⟩
      have hB := hB.trans (hb.mono hB.size)
      clear hR2 hb
      go_wp2_with fail
      refine (hR3 _).mono ?_
      rintro r w4 ⟨rfl, hb⟩
      have hB := hB.trans (hb.mono hB.size)
      clear hR3 hb
      go_wp2
      go_ret
      exact ⟨rfl, hB⟩
    · have d2 : decide (f < e) = false := by simp; omega
      have d2' : decide (e > f) = false := by simp; omega
      have hR1 := fun w => rises_any (m := m) (e := e) (n := n) (f := e) hm hn (by omega) (by omega) e0 e1 w
      have hR2 := fun w => rises_any (m := m) (e := e) (n := m) (f := f) hm hm (by omega) (by omega) e0 f1 w
      have hR3 := fun w => rises_any (m := m) (e := e) (n := n) (f := f) hm hn (by omega) (by omega) e0 f1 w
      have ha := alive10_any hT
      go_enter Tryd.func5, Tryd.ntmps5
      go_wp2_with fail
      refine ha.mono ?_
      rintro r w1 ⟨rfl, hB⟩
      clear ha
      go_wp2_with fail
      refine (hR1 _).mono ?_
      rintro r w2 ⟨rfl, hb⟩
      have hB := hB.trans (hb.mono hB.size)
      clear hR1 hb
      go_wp2_with fail
      refine (hR2 _).mono ?_
      rintro r w3 ⟨rfl, hb⟩
      have hB := hB.trans (hb.mono hB.size)
      clear hR2 hb
      go_wp2_with fail
      refine (hR3 _).mono ?_
      rintro r w4 ⟨rfl, hb⟩
      have hB := hB.trans (hb.mono hB.size)
      clear hR3 hb
      go_wp2
      go_ret
      exact ⟨rfl, hB⟩
end Go.Proofs.YtbbmoaipilmmdaaDoor
