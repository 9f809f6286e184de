/- the walks of PowerProducts, PowerBounds, PowerStays. -/
import Derived.Test.YtailnlpooalenaaPowC
namespace Go.Proofs.Ytailnlpooalenaa
open Go.ChangeShapes Go.WideShapes Go.ChangeAt Go.RowKit
open Na Ar
set_option linter.unusedVariables false
theorem lits3 (w : World) (x y z u v : Int) : RowC (((w.alloc (.cells #[.int .u64 x, .int .u64 y] 23)).alloc (.cells #[.int .u64 z, .int .u64 u] 23)).alloc (.cells #[.int .u64 v] 23)) (some ⟨w.heap.size, 0, none⟩) 2 2 [x, y] ∧
    RowC (((w.alloc (.cells #[.int .u64 x, .int .u64 y] 23)).alloc (.cells #[.int .u64 z, .int .u64 u] 23)).alloc (.cells #[.int .u64 v] 23)) (some ⟨w.heap.size + 1, 0, none⟩) 2 2 [z, u] ∧
    RowC (((w.alloc (.cells #[.int .u64 x, .int .u64 y] 23)).alloc (.cells #[.int .u64 z, .int .u64 u] 23)).alloc (.cells #[.int .u64 v] 23)) (some ⟨w.heap.size + 1 + 1, 0, none⟩) 1 1 [v] ∧
    Below w.heap.size w (((w.alloc (.cells #[.int .u64 x, .int .u64 y] 23)).alloc (.cells #[.int .u64 z, .int .u64 u] 23)).alloc (.cells #[.int .u64 v] 23)) := by
  have r1 := rowC_two w x y 23
  have b1 := alloc_below (w := w) (.cells #[.int .u64 x, .int .u64 y] 23)
  have s1 : (w.alloc (.cells #[.int .u64 x, .int .u64 y] 23)).heap.size = w.heap.size + 1 := by simp
  generalize w.alloc (.cells #[.int .u64 x, .int .u64 y] 23) = w1 at *
  have r2 := rowC_two w1 z u 23
  have b2 := alloc_below (w := w1) (.cells #[.int .u64 z, .int .u64 u] 23)
  have s2 : (w1.alloc (.cells #[.int .u64 z, .int .u64 u] 23)).heap.size = w1.heap.size + 1 := by simp
  generalize w1.alloc (.cells #[.int .u64 z, .int .u64 u] 23) = w2 at *
  have r3 := rowC_one w2 v 23
  have b3 := alloc_below (w := w2) (.cells #[.int .u64 v] 23)
  generalize w2.alloc (.cells #[.int .u64 v] 23) = w3 at *
  rw [s2, s1] at r3
  rw [s1] at r2
  exact ⟨(r1.later b2).later b3, r2.later b3, r3, (b1.trans (b2.mono b1.size)).trans (b3.mono (Nat.le_trans b1.size b2.size))⟩
theorem nm_pair {e : Int} (h : inT e) : Nm [pV e % 18446744073709551616, pV e / 18446744073709551616] (pV e) ∧ Lt (pV e) 2 := by
  have w := pV_words h
  have r := pV_rng h
  have l := lt_pair (A := pV e) ⟨by omega, r.2.1⟩
  have n := l.nm (by omega)
  rw [w.1] at n
  exact ⟨n, l⟩
theorem ordN_pos {A B : Int} (h : B < A) : decide (ordN A B ≤ 0) = false ∧ decide (ordN A B > 0) = true ∧ decide (0 < ordN A B) = true := by rw [ordN_gt h]; decide
set_option maxHeartbeats 3200000 in
set_option maxRecDepth 100000 in
theorem products_walk {a b : Int} (w : World) :
    Calls Try.prog 4 #[.int .i64 a, .int .i64 b] w fun r w' => r = .returned (.bool true) ∧ Below w.heap.size w w' := by
  have ha := fun w => alive8_any w
  by_cases h1 : inT a
  · by_cases h2 : inT b
    · by_cases h3 : inT (a + b)
      · have i1 := fun w => in8_yes h1 w
        have i2 := fun w => in8_yes h2 w
        have i3 := fun w => in8_yes h3 w
        have f1 := fun w => five8_in h1 w
        have f2 := fun w => five8_in h2 w
        obtain ⟨n1, l1⟩ := nm_pair h1
        obtain ⟨n2, l2⟩ := nm_pair h2
        obtain ⟨p1, p2⟩ := ag_prod h1 h2
        have ra := pX_rng h1
        have rb := pX_rng h2
        have h1' := h1
        have h2' := h2
        unfold inT at h1' h2'
        have no : Nm [1] 1 := Nm.one (by omega)
        have c1 : decide (ordN (agL (pV a * pV b) (pX a + pX b)) (agR (a + b)) ≤ 0) = true := by simp only [decide_eq_true_eq]; exact ordN_le.mpr p1
        have c2 := (ordN_pos p2).2.1
        have c3 := (ordN_pos p2).2.2
        generalize pV a / 18446744073709551616 = H at *
        generalize pV a % 18446744073709551616 = L at *
        generalize pV b / 18446744073709551616 = I at *
        generalize pV b % 18446744073709551616 = M at *
        generalize pX a = X at *
        generalize pX b = Y at *
        generalize pV a = A at *
        generalize pV b = B at *
        clear p1 p2 h1 h2
        go_enter Try.func4, Try.ntmps4
        go_wp2_with fail
        refine (ha _).mono ?_
        rintro r w1 ⟨rfl, hB⟩
        go_wp2_with fail
        refine (i1 _).mono ?_
        rintro r w2 ⟨rfl, rfl⟩
        go_wp2_with fail
        refine (i2 _).mono ?_
        rintro r w2 ⟨rfl, rfl⟩
        go_wp2_with fail
        refine (i3 _).mono ?_
        rintro r w2 ⟨rfl, rfl⟩
        go_wp2_with fail
        refine (f1 _).mono ?_
        rintro r w2 ⟨rfl, hb⟩
        have hB := hB.trans (hb.mono hB.size)
        go_wp2_with fail
        refine (f2 _).mono ?_
        rintro r w3 ⟨rfl, hb⟩
        have hB := hB.trans (hb.mono hB.size)
        obtain ⟨r1, r2, r3, hb'⟩ := lits3 w3 L H M I 1
        have hB := hB.trans (hb'.mono hB.size)
        clear hb hb' ha i1 i2 i3 f1 f2
        go_wp2_with fail
        generalize ((w3.alloc (.cells #[.int .u64 L, .int .u64 H] 23)).alloc (.cells #[.int .u64 M, .int .u64 I] 23)).alloc (.cells #[.int .u64 1] 23) = w4 at *
        refine (addQ r1 r3 n1 no (l1.add lt_one) (by omega)).mono ?_
        rintro r w5 ⟨ua, un, uc, us, rfl, ru, nu, _, hb⟩
        have r1 := r1.later hb
        have r2 := r2.later hb
        have hB := hB.trans (hb.mono hB.size)
        have hal := alloc_below (w := w5) (.cells #[.int .u64 1] 23)
        have ro := rowC_one w5 1 23
        have r1 := r1.later hal
        have r2 := r2.later hal
        have ru := ru.later hal
        have hB := hB.trans (hal.mono hB.size)
        clear hb hal r3
        go_wp2_with fail
        generalize w5.alloc (.cells #[.int .u64 1] 23) = w6 at *
        refine (addQ r2 ro n2 no (l2.add lt_one) (by omega)).mono ?_
        rintro r w7 ⟨va, vn, vc, vs, rfl, rv, nv, _, hb⟩
        have r1 := r1.later hb
        have r2 := r2.later hb
        have ru := ru.later hb
        have hB := hB.trans (hb.mono hB.size)
        clear hb ro
        go_wp2_with fail
        refine (mul8_any r1 r2 n1 n2 (l1.mono (by omega)) (l2.mono (by omega))).mono ?_
        rintro r w8 ⟨ta, tn, tc, ts, rfl, rt, nt, hb⟩
        have ru := ru.later hb
        have rv := rv.later hb
        have hB := hB.trans (hb.mono hB.size)
        clear hb r1 r2
        go_wp2_with fail
        refine (against8_any rt nt ((l1.mul l2).mono (by omega)) (x := X + Y) (by omega) (by omega) h3).mono ?_
        rintro r w9 ⟨rfl, hb⟩
        have ru := ru.later hb
        have rv := rv.later hb
        have hB := hB.trans (hb.mono hB.size)
        clear hb rt
        go_wp2_with fail
        refine (mul8_any ru rv nu nv ((l1.add lt_one).mono (by omega)) ((l2.add lt_one).mono (by omega))).mono ?_
        rintro r w10 ⟨qa, qn, qc, qs, rfl, rq, nq, hb⟩
        have hB := hB.trans (hb.mono hB.size)
        clear hb ru rv
        go_wp2_with fail
        refine (against8_any rq nq (((l1.add lt_one).mul (l2.add lt_one)).mono (by omega)) (x := X + Y) (by omega) (by omega) h3).mono ?_
        rintro r w11 ⟨rfl, hb⟩
        have hB := hB.trans (hb.mono hB.size)
        clear hb rq
        go_wp2
        go_ret
        exact ⟨by simp, hB⟩
      · have i1 := fun w => in8_yes h1 w
        have i2 := fun w => in8_yes h2 w
        have i3 := fun w => in8_no h3 w
        unfold inT at h1 h2
        clear h3
        go_enter Try.func4, Try.ntmps4
        go_wp2_with fail
        refine (ha _).mono ?_
        rintro r w1 ⟨rfl, hB⟩
        go_wp2_with fail
        refine (i1 _).mono ?_
        rintro r w2 ⟨rfl, rfl⟩
        go_wp2_with fail
        refine (i2 _).mono ?_
        rintro r w2 ⟨rfl, rfl⟩
        go_wp2_with fail
        refine (i3 _).mono ?_
        rintro r w2 ⟨rfl, rfl⟩
        go_wp2_with fail
        refine (ha _).mono ?_
        rintro r w2 ⟨rfl, hb⟩
        have hB := hB.trans (hb.mono hB.size)
        go_wp2
        go_ret
        exact ⟨rfl, hB⟩
    · have i1 := fun w => in8_yes h1 w
      have i2 := fun w => in8_no h2 w
      clear h1 h2
      go_enter Try.func4, Try.ntmps4
      go_wp2_with fail
      refine (ha _).mono ?_
      rintro r w1 ⟨rfl, hB⟩
      go_wp2_with fail
      refine (i1 _).mono ?_
      rintro r w2 ⟨rfl, rfl⟩
      go_wp2_with fail
      refine (i2 _).mono ?_
      rintro r w2 ⟨rfl, rfl⟩
      go_wp2_with fail
      refine (ha _).mono ?_
      rintro r w2 ⟨rfl, hb⟩
      have hB := hB.trans (hb.mono hB.size)
      go_wp2
      go_ret
      exact ⟨rfl, hB⟩
  · have i1 := fun w => in8_no h1 w
    clear h1
    go_enter Try.func4, Try.ntmps4
    go_wp2_with fail
    refine (ha _).mono ?_
    rintro r w1 ⟨rfl, hB⟩
    go_wp2_with fail
    refine (i1 _).mono ?_
    rintro r w2 ⟨rfl, rfl⟩
    go_wp2_with fail
    refine (ha _).mono ?_
    rintro r w2 ⟨rfl, hb⟩
    have hB := hB.trans (hb.mono hB.size)
    go_wp2
    go_ret
    exact ⟨rfl, hB⟩
namespace Na
theorem ag_less {V x : Int} (hx : -2000 ≤ x) : agL (V - 1) x < agL V x := by
  unfold agL
  have a : (0 : Int) < 2 ^ (x + 2000).toNat := Int.pow_pos (by omega)
  have b : (0 : Int) < 5 ^ 696 := Int.pow_pos (by omega)
  exact Int.mul_lt_mul_of_pos_right (Int.mul_lt_mul_of_pos_right (by omega) a) b
end Na
theorem lits2 (w : World) (x y v : Int) : RowC ((w.alloc (.cells #[.int .u64 v] 23)).alloc (.cells #[.int .u64 x, .int .u64 y] 23)) (some ⟨w.heap.size, 0, none⟩) 1 1 [v] ∧
    RowC ((w.alloc (.cells #[.int .u64 v] 23)).alloc (.cells #[.int .u64 x, .int .u64 y] 23)) (some ⟨w.heap.size + 1, 0, none⟩) 2 2 [x, y] ∧
    Below w.heap.size w ((w.alloc (.cells #[.int .u64 v] 23)).alloc (.cells #[.int .u64 x, .int .u64 y] 23)) := by
  have r1 := rowC_one w v 23
  have b1 := alloc_below (w := w) (.cells #[.int .u64 v] 23)
  have s1 : (w.alloc (.cells #[.int .u64 v] 23)).heap.size = w.heap.size + 1 := by simp
  generalize w.alloc (.cells #[.int .u64 v] 23) = w1 at *
  have r2 := rowC_two w1 x y 23
  have b2 := alloc_below (w := w1) (.cells #[.int .u64 x, .int .u64 y] 23)
  generalize w1.alloc (.cells #[.int .u64 x, .int .u64 y] 23) = w2 at *
  rw [s1] at r2
  exact ⟨r1.later b2, r2, b1.trans (b2.mono b1.size)⟩
theorem ab_pair {e : Int} (h : inT e) : Nm [abV e % 18446744073709551616, abV e / 18446744073709551616] (abV e) ∧ Lt (abV e) 2 ∧ 9223372036854775808 ≤ abV e / 18446744073709551616 ∧ 1 ≤ abV e := by
  have r := pV_rng h
  have b : 170141183460469231731687303715884105728 ≤ abV e ∧ abV e < 340282366920938463463374607431768211456 := by
    by_cases hw : pW e = true
    · rw [abV_in hw]; omega
    · have hw : pW e = false := by simpa using hw
      rw [abV_out hw]
      have := r.2.2 hw
      omega
  have u1 : 0 ≤ abV e % 18446744073709551616 ∧ abV e % 18446744073709551616 < 18446744073709551616 := by omega
  have u2 : 0 ≤ abV e / 18446744073709551616 ∧ abV e / 18446744073709551616 < 18446744073709551616 := by omega
  have n := Nm.two u1 u2
  rw [Int.emod_add_mul_ediv] at n
  exact ⟨n, lt_pair ⟨by omega, b.2⟩, by omega, by omega⟩
set_option maxHeartbeats 3200000 in
set_option maxRecDepth 100000 in
theorem bounds_walk {e : Int} (w : World) :
    Calls Try.prog 5 #[.int .i64 e] w fun r w' => r = .returned (.bool true) ∧ Below w.heap.size w w' := by
  have ha := fun w => alive8_any w
  by_cases h : inT e
  · have hf := fun w => five8_in h w
    have hw := fun w => whole8_in h w
    have hv := fun w => above8_in h w
    have hi := fun w => in8_yes h w
    obtain ⟨n1, l1⟩ := nm_pair h
    obtain ⟨n2, l2, m2, o2⟩ := ab_pair h
    obtain ⟨g1, g2, g3⟩ := ag_main h
    have m1 := (pV_words h).2.2.2
    have rx := pX_rng h
    have no : Nm [1] 1 := Nm.one (by omega)
    have d1 : decide (pV e / 18446744073709551616 < 9223372036854775808) = false := by simp; omega
    have d2 : decide (abV e / 18446744073709551616 ≥ 9223372036854775808) = true := by simp; omega
    have d3 : decide (9223372036854775808 ≤ abV e / 18446744073709551616) = true := by simp; omega
    have k2 := ordN_gt g2
    have lm := ag_less (V := pV e) (x := pX e) (by omega)
    have lv := ag_less (V := abV e) (x := pX e) (by omega)
    have k4 : ordN (agL (abV e - 1) (pX e)) (agR e) = -1 := by
      by_cases q : pW e = true
      · rw [abV_in q]
        have := g3.mp q
        exact ordN_lt (by omega)
      · have q' : pW e = false := by simpa using q
        rw [abV_out q', Int.add_sub_cancel]
        have := mt g3.mpr q
        exact ordN_lt (by omega)
    obtain ⟨c, k1, k3⟩ : ∃ c : Int, ordN (agL (pV e) (pX e)) (agR e) = c ∧ ((pW e = true ∧ c = 0 ∧ ordN (agL (abV e) (pX e)) (agR e) = 0) ∨ (pW e = false ∧ c = -1 ∧ ordN (agL (abV e) (pX e)) (agR e) = 1)) := by
      by_cases q : pW e = true
      · refine ⟨0, ordN_eq (g3.mp q), Or.inl ⟨q, rfl, ?_⟩⟩
        rw [abV_in q]; exact ordN_eq (g3.mp q)
      · have q' : pW e = false := by simpa using q
        have := mt g3.mpr q
        refine ⟨-1, ordN_lt (by omega), Or.inr ⟨q', rfl, ?_⟩⟩
        rw [abV_out q']; exact ordN_gt g2
    have A1 := fun {w a n c1 xs} rv nv => against8_any (w := w) (a := a) (n := n) (c1 := c1) (xs := xs) (A := pV e) (x := pX e) (e := e) rv nv (l1.mono (by omega)) (by omega) (by omega) h
    have A2 := fun {w a n c1 xs} rv nv => against8_any (w := w) (a := a) (n := n) (c1 := c1) (xs := xs) (A := pV e + 1) (x := pX e) (e := e) rv nv ((l1.add lt_one).mono (by omega)) (by omega) (by omega) h
    have A3 := fun {w a n c1 xs} rv nv => against8_any (w := w) (a := a) (n := n) (c1 := c1) (xs := xs) (A := abV e) (x := pX e) (e := e) rv nv (l2.mono (by omega)) (by omega) (by omega) h
    have l3 : Lt (abV e - 1) 2 := l2.le (by omega) (by omega)
    have A4 := fun {w a n c1 xs} rv nv => against8_any (w := w) (a := a) (n := n) (c1 := c1) (xs := xs) (A := abV e - 1) (x := pX e) (e := e) rv nv (l3.mono (by omega)) (by omega) (by omega) h
    rw [k1] at A1
    rw [k2] at A2
    rw [k4] at A4
    have HL : Hid (1 ≤ abV e) := o2
    unfold inT at h
    generalize hW : pW e = W at *
    generalize pV e / 18446744073709551616 = H at *
    generalize pV e % 18446744073709551616 = L at *
    generalize abV e / 18446744073709551616 = P at *
    generalize abV e % 18446744073709551616 = Q at *
    generalize ordN (agL (abV e) (pX e)) (agR e) = k at *
    clear g1 g2 g3 k1 k2 k4 lm lv hW o2
    generalize pX e = X at *
    generalize pV e = A at *
    generalize abV e = B at *
    rcases k3 with ⟨rfl, rfl, rfl⟩ | ⟨rfl, rfl, rfl⟩
    all_goals
      go_enter Try.func5, Try.ntmps5
      go_wp2_with fail
      refine (ha _).mono ?_
      rintro r w1 ⟨rfl, hB⟩
      go_wp2_with fail
      refine (hf _).mono ?_
      rintro r w2 ⟨rfl, hb⟩
      have hB := hB.trans (hb.mono hB.size)
      go_wp2_with fail
      refine (hw _).mono ?_
      rintro r w3 ⟨rfl, hb⟩
      have hB := hB.trans (hb.mono hB.size)
      go_wp2_with fail
      refine (hv _).mono ?_
      rintro r w4 ⟨rfl, hb⟩
      have hB := hB.trans (hb.mono hB.size)
      go_wp2_with fail
      refine (hi _).mono ?_
      rintro r w5 ⟨rfl, rfl⟩
      obtain ⟨ro, rv, hb'⟩ := lits2 w4 L H 1
      have hB := hB.trans (hb'.mono hB.size)
      clear hb hb' ha hf hw hv hi
      go_wp2_with fail
      generalize (w4.alloc (.cells #[.int .u64 1] 23)).alloc (.cells #[.int .u64 L, .int .u64 H] 23) = w5 at *
      refine (addQ rv ro n1 no (l1.add lt_one) (by omega)).mono ?_
      rintro r w6 ⟨ua, un, uc, us, rfl, ru, nu, _, hb⟩
      have ro := ro.later hb
      have rv := rv.later hb
      have hB := hB.trans (hb.mono hB.size)
      clear hb
      go_wp2_with fail
      refine (A1 rv n1).mono ?_
      rintro r w7 ⟨rfl, hb⟩
      have ro := ro.later hb
      have ru := ru.later hb
      have hB := hB.trans (hb.mono hB.size)
      clear hb rv A1
      go_wp2_with fail
      refine (A2 ru nu).mono ?_
      rintro r w8 ⟨rfl, hb⟩
      have ro := ro.later hb
      have hB := hB.trans (hb.mono hB.size)
      have hal := alloc_below (w := w8) (.cells #[.int .u64 Q, .int .u64 P] 23)
      have rw' := rowC_two w8 Q P 23
      have ro := ro.later hal
      have hB := hB.trans (hal.mono hB.size)
      clear hb hal ru A2
      go_wp2_with fail
      generalize w8.alloc (.cells #[.int .u64 Q, .int .u64 P] 23) = w9 at *
      refine (subQ rw' ro n2 no HL.out l3 (by omega)).mono ?_
      rintro r w10 ⟨va, vn, vc, vs, rfl, rv, nv, _, hb⟩
      have rw' := rw'.later hb
      have hB := hB.trans (hb.mono hB.size)
      clear hb ro
      go_wp2_with fail
      refine (A3 rw' n2).mono ?_
      rintro r w11 ⟨rfl, hb⟩
      have rv := rv.later hb
      have hB := hB.trans (hb.mono hB.size)
      clear hb rw' A3
      go_wp2_with fail
      refine (A4 rv nv).mono ?_
      rintro r w12 ⟨rfl, hb⟩
      have hB := hB.trans (hb.mono hB.size)
      clear hb rv A4
      go_wp2
      go_ret
      exact ⟨by simp, hB⟩
  · have hf := fun w => five8_out h w
    have hw := fun w => whole8_out h w
    have hv := fun w => above8_out h w
    have hi := fun w => in8_no h w
    clear h
    go_enter Try.func5, Try.ntmps5
    go_wp2_with fail
    refine (ha _).mono ?_
    rintro r w1 ⟨rfl, hB⟩
    go_wp2_with fail
    refine (hf _).mono ?_
    rintro r w2 ⟨rfl, hb⟩
    have hB := hB.trans (hb.mono hB.size)
    go_wp2_with fail
    refine (hw _).mono ?_
    rintro r w3 ⟨rfl, hb⟩
    have hB := hB.trans (hb.mono hB.size)
    go_wp2_with fail
    refine (hv _).mono ?_
    rintro r w4 ⟨rfl, hb⟩
    have hB := hB.trans (hb.mono hB.size)
    go_wp2_with fail
    refine (hi _).mono ?_
    rintro r w5 ⟨rfl, rfl⟩
    go_wp2
    go_ret
    exact ⟨rfl, hB⟩
end Go.Proofs.Ytailnlpooalenaa
