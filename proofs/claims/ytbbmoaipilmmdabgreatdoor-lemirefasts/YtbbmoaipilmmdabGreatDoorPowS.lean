/- the document's Five, Whole, Above, Log2, Log10; the walk of PowerFives. -/
import Derived.Test.YtbbmoaipilmmdabGreatDoorPowR
import Derived.Test.YtbbmoaipilmmdabGreatDoorPowWb
namespace Go.Proofs.YtbbmoaipilmmdabGreatDoor
open Go.ChangeShapes Go.WideShapes Go.ChangeAt Go.RowKit
open Na Ar
set_option linter.unusedVariables false
theorem pair_cells {w : World} {a : Option Addr} {c : Nat} {lo hi : Int} (h : RowC w a 2 c [lo, hi]) : ∃ b off, a = some ⟨b, off, none⟩ ∧ b < w.heap.size ∧ w.cell? ⟨b, off, none⟩ = some (.int .u64 lo) ∧ w.cell? ⟨b, off + 1, none⟩ = some (.int .u64 hi) := by
  rcases h.1.2 with h' | ⟨b, off, h1, h2, h3⟩
  · omega
  · exact ⟨b, off, h1, h2, by have := h3 0 (by omega); simpa using this, by have := h3 1 (by omega); simpa using this⟩
set_option maxHeartbeats 1600000 in
set_option maxRecDepth 100000 in
theorem r8five_out {e : Int} (h : ¬ inT e) (w : World) : Calls Tryz.prog 17 #[.int .i64 e] w fun r w' => r = .returned (.tuple #[.int .u64 0, .int .u64 0, .int .i64 0, .int .i64 80]) ∧ Below w.heap.size w w' := by
  have hi := fun w => r8in_no h w
  go_enter Tryz.func17, Tryz.ntmps17
  go_wp2_with fail
  refine (hi _).mono ?_
  rintro r w1 ⟨rfl, rfl⟩
  go_wp2
  refine bodyPost_ret (results8_tmp4 rfl _ _ _) rfl ?_
  exact ⟨rfl, Below.refl _ _⟩
set_option maxHeartbeats 1600000 in
set_option maxRecDepth 100000 in
theorem r8five_in {e : Int} (h : inT e) (w : World) : Calls Tryz.prog 17 #[.int .i64 e] w fun r w' => r = .returned (.tuple #[.int .u64 (pV e / 18446744073709551616), .int .u64 (pV e % 18446744073709551616), .int .i64 (pX e), .int .i64 0]) ∧ Below w.heap.size w w' := by
  have hi := fun w => r8in_yes h w
  have hf := fun w => frame8_any h w
  unfold Fra at hf
  generalize pV e / 18446744073709551616 = H at *
  generalize pV e % 18446744073709551616 = L at *
  generalize pX e = X at *
  go_enter Tryz.func17, Tryz.ntmps17
  go_wp2_with fail
  refine (hi _).mono ?_
  rintro r w1 ⟨rfl, rfl⟩
  go_wp2_with fail
  refine (hf _).mono ?_
  rintro r w1 ⟨a, c, rfl, hr, hb⟩
  obtain ⟨b, off, rfl, hlt, c0, c1⟩ := pair_cells hr
  clear hi hf hr
  go_wp2
  go_region
  all_goals (try go_wp2)
  all_goals (refine bodyPost_ret (results8_tmp4 rfl _ _ _) rfl ?_)
  all_goals exact ⟨rfl, below_drewN hb 1⟩
set_option maxHeartbeats 1600000 in
set_option maxRecDepth 100000 in
theorem r8whole_out {e : Int} (h : ¬ inT e) (w : World) : Calls Tryz.prog 39 #[.int .i64 e] w fun r w' => r = .returned (.tuple #[.bool false, .int .i64 80]) ∧ Below w.heap.size w w' := by
  have hi := fun w => r8in_no h w
  go_enter Tryz.func39, Tryz.ntmps39
  go_wp2_with fail
  refine (hi _).mono ?_
  rintro r w1 ⟨rfl, rfl⟩
  go_wp2
  go_ret2
  exact ⟨rfl, Below.refl _ _⟩
set_option maxHeartbeats 1600000 in
set_option maxRecDepth 100000 in
theorem r8whole_in {e : Int} (h : inT e) (w : World) : Calls Tryz.prog 39 #[.int .i64 e] w fun r w' => r = .returned (.tuple #[.bool (pW e), .int .i64 0]) ∧ Below w.heap.size w w' := by
  have hi := fun w => r8in_yes h w
  have hW := pW_is e h
  have h' := h
  unfold inT at h'
  by_cases h0 : e < 0
  · have d1 : decide (e < 0) = true := by simp; omega
    have HW : Hid (pW e = false) := by show _ = _; rw [hW]; simp; omega
    clear hW
    go_enter Tryz.func39, Tryz.ntmps39
    go_wp2_with fail
    refine (hi _).mono ?_
    rintro r w1 ⟨rfl, rfl⟩
    go_wp2
    go_ret2
    exact ⟨by rw [HW.out]; rfl, Below.refl _ _⟩
  · obtain ⟨k, rfl⟩ : ∃ k : Nat, e = (k : Int) := ⟨e.toNat, by omega⟩
    have d1 : decide ((k : Int) < 0) = false := by simp
    have hf := fun w => frame8_any h w
    unfold Fra at hf
    have hp := fun w => power8_any (k := k) (K := (k : Int)) rfl (by omega) w
    have np := nm_pair h
    have gm := (ag_main h).2.2
    have rx := pX_rng h
    by_cases h1 : k ≤ 55
    · obtain ⟨pv, px, hb8⟩ := pV_less h1
      have HW : Hid (pW (k : Int) = true) := by show _ = _; rw [hW]; simp; omega
      have d2 : decide (pX (k : Int) ≤ 0) = true := by simp; omega
      generalize pV (k : Int) / 18446744073709551616 = H at *
      generalize pV (k : Int) % 18446744073709551616 = L at *
      generalize pX (k : Int) = X at *
      clear pv px hW np gm
      go_enter Tryz.func39, Tryz.ntmps39
      go_wp2_with fail
      refine (hi _).mono ?_
      rintro r w1 ⟨rfl, rfl⟩
      go_wp2_with fail
      refine (hf _).mono ?_
      rintro r w1 ⟨a, c, rfl, hr, hb⟩
      go_wp2_with fail
      refine (hp _).mono ?_
      rintro r w2 ⟨fa, fn, fc, fs, rfl, rf, ⟨nf, lf⟩, hb2⟩
      have hB := hb.trans (hb2.mono hb.size)
      clear hi hf hr hp rf nf hb hb2
      go_wp2
      go_ret2
      exact ⟨by rw [HW.out]; rfl, hB⟩
    · obtain ⟨pv, px, hb8⟩ := pV_more (n := k) (by omega) (by omega)
      have HW : Hid (pW (k : Int) = false) := by show _ = _; rw [hW]; simp; omega
      have d2 : decide (pX (k : Int) ≤ 0) = false := by simp; omega
      have ho := ag_is (pV (k : Int)) (n := 0) (m := k) (s := bN k - 128) (t := 0) (x := pX (k : Int)) (e := (k : Int)) (by omega) (by omega) (by omega) (by omega)
      have hne : (ordN (pV (k : Int) * 2 ^ (bN k - 128)) (5 ^ k) == 0) = false := by
        rw [Int.pow_zero, Int.mul_one, Int.pow_zero, Int.mul_one] at ho
        rw [ho]
        have q : ¬ agL (pV (k : Int)) (pX (k : Int)) = agR (k : Int) := fun q => by
          have := gm.mpr q
          rw [HW.out] at this
          cases this
        have := ordN_zero (agL (pV (k : Int)) (pX (k : Int))) (agR (k : Int))
        rw [← this]
        simp [q]
      have lt2 : Lt (pV (k : Int) * 2 ^ (bN k - 128)) 30 := (np.2.pow2 (t := bN k - 128)).mono (by have := (bN_pos (n := k) (by omega)).1; omega)
      have HT : Hid (pX (k : Int) = ((bN k - 128 : Nat) : Int)) := by show _ = _; omega
      have ht4 : bN k - 128 ≤ 4000 := by have := (bN_pos (n := k) (by omega)).1; omega
      have nv := np.1
      generalize pV (k : Int) / 18446744073709551616 = H at *
      generalize pV (k : Int) % 18446744073709551616 = L at *
      generalize pX (k : Int) = X at *
      clear pv px hW np gm ho hb8
      go_enter Tryz.func39, Tryz.ntmps39
      go_wp2_with fail
      refine (hi _).mono ?_
      rintro r w1 ⟨rfl, rfl⟩
      go_wp2_with fail
      refine (hf _).mono ?_
      rintro r w1 ⟨a, c, rfl, hr, hb⟩
      go_wp2_with fail
      refine (hp _).mono ?_
      rintro r w2 ⟨fa, fn, fc, fs, rfl, rf, ⟨nf, lf⟩, hb2⟩
      have hB := hb.trans (hb2.mono hb.size)
      have hr := hr.later hb2
      clear hi hf hp hb hb2
      go_wp2_with fail
      refine (shl8R hr nv (by omega) HT.out ht4 lt2 (by omega)).mono ?_
      rintro r w3 ⟨xa, xn, xc, xl, rfl, rx, ⟨nx, lx, EX⟩, hb⟩
      have hB := hB.trans (hb.mono hB.size)
      have rf := rf.later hb
      have hc := ref3Cmp_any (c1 := xc) (c2 := fc) rx.1 rf.1 nx.ws nf.ws (by omega) (by omega)
      rw [nx.num, nf.num] at hc
      clear hb hr EX
      go_wp2_with fail
      refine hc.mono ?_
      rintro r w4 ⟨rfl, rfl⟩
      clear hc rx rf nx nf
      go_wp2
      go_ret2
      exact ⟨by rw [HW.out]; rfl, hB⟩
namespace Na
/-- two to the n, its digits -/
theorem two_count {n : Nat} {d : Int} (hn : n ≤ 1200) (h : CountIs (1 * 2 ^ n) d) : CtIs (1 * 2 ^ n) d := by
  refine Or.inr ⟨?_, h⟩
  have l := (lt_one.pow2 (t := n)).mono (show 1 + (n / 64 + 1) ≤ 30 by omega)
  have := bits_le l.1 l.2
  omega
theorem count_up {e : Int} (h0 : 0 ≤ e) (h1 : e ≤ 1200) : CountIs (1 * 2 ^ e.toNat) (e * 315653 / 1048576 + 1) := by
  obtain ⟨u1, u2, u3, u4, _⟩ := tu_log (e := e) (by omega) h1
  obtain ⟨k, hk⟩ : ∃ k : Nat, e * 315653 / 1048576 = (k : Int) := ⟨(e * 315653 / 1048576).toNat, by omega⟩
  rw [hk] at u1 u2 ⊢
  have a := tu_is (n := 0) (m := k) (s := e.toNat) (t := 0) (j := (k : Int)) (e := e) (by omega) (by omega) (by omega) (by omega)
  have b := tu_is (n := 0) (m := k + 1) (s := e.toNat) (t := 0) (j := (k : Int) + 1) (e := e) (by omega) (by omega) (by omega) (by omega)
  rw [Int.pow_zero, Int.one_mul, Int.pow_zero, Int.mul_one] at a b
  have a1 : (10 : Int) ^ k ≤ 2 ^ e.toNat := ordN_le.mp (by rw [a]; exact ordN_le.mpr u1)
  have b1 : (2 : Int) ^ e.toNat < 10 ^ (k + 1) := by
    apply Decidable.byContradiction
    intro q
    have := ordN_le.mpr (Int.not_lt.mp q)
    rw [b] at this
    have := ordN_le.mp this
    omega
  exact Or.inr ⟨k, rfl, by rw [Int.one_mul]; exact a1, by rw [Int.one_mul]; exact b1⟩
theorem count_down {e : Int} (h0 : -1200 ≤ e) (h1 : e < 0) : CountIs (1 * 2 ^ (-e).toNat) (-(e * 315653 / 1048576)) := by
  obtain ⟨u1, u2, u3, u4, u5⟩ := tu_log (e := e) h0 (by omega)
  have u5 := u5 (by omega)
  obtain ⟨d, hd⟩ : ∃ d : Nat, e * 315653 / 1048576 = -((d : Int) + 1) := ⟨(-(e * 315653 / 1048576) - 1).toNat, by omega⟩
  rw [hd] at u2 u3 u5 ⊢
  rw [show -((d : Int) + 1) + 1 = -(d : Int) by omega] at u2
  have a := tu_is (n := d + 1) (m := 0) (s := 0) (t := (-e).toNat) (j := -((d : Int) + 1)) (e := e) (by omega) (by omega) (by omega) (by omega)
  have b := tu_is (n := d) (m := 0) (s := 0) (t := (-e).toNat) (j := -(d : Int)) (e := e) (by omega) (by omega) (by omega) (by omega)
  rw [Int.pow_zero, Int.mul_one, Int.pow_zero, Int.one_mul] at a b
  have a1 : (2 : Int) ^ (-e).toNat < 10 ^ (d + 1) := by
    apply Decidable.byContradiction
    intro q
    have q' := ordN_lt u5
    rw [q'] at a
    unfold ordN at a
    rw [if_neg q] at a
    split at a <;> omega
  have b1 : (10 : Int) ^ d ≤ 2 ^ (-e).toNat := by
    apply Decidable.byContradiction
    intro q
    have q' := ordN_gt u2
    rw [q'] at b
    unfold ordN at b
    rw [if_pos (by omega)] at b
    omega
  exact Or.inr ⟨d, by omega, by rw [Int.one_mul]; exact b1, by rw [Int.one_mul]; exact a1⟩
end Na
set_option maxHeartbeats 1600000 in
set_option maxRecDepth 100000 in
theorem r8above_out {e : Int} (h : ¬ inT e) (w : World) : Calls Tryz.prog 19 #[.int .i64 e] w fun r w' => r = .returned (.tuple #[.int .u64 0, .int .u64 0, .int .i64 0, .int .i64 80]) ∧ Below w.heap.size w w' := by
  have hi := fun w => r8whole_out h w
  go_enter Tryz.func19, Tryz.ntmps19
  go_wp2_with fail
  refine (hi _).mono ?_
  rintro r w1 ⟨rfl, hb⟩
  clear hi
  go_wp2
  refine bodyPost_ret (results8_tmp4 rfl _ _ _) rfl ?_
  exact ⟨rfl, hb⟩
set_option maxHeartbeats 1600000 in
set_option maxRecDepth 100000 in
theorem r8above_in {e : Int} (h : inT e) (w : World) : Calls Tryz.prog 19 #[.int .i64 e] w fun r w' => r = .returned (.tuple #[.int .u64 (abV e / 18446744073709551616), .int .u64 (abV e % 18446744073709551616), .int .i64 (pX e), .int .i64 0]) ∧ Below w.heap.size w w' := by
  have hi := fun w => r8whole_in h w
  have hf := fun w => frame8_any h w
  have np := (nm_pair h).1
  have ap := ab_pair h
  unfold Fra at hf
  by_cases hw : pW e = true
  · rw [hw] at hi
    rw [abV_in hw]
    generalize pV e / 18446744073709551616 = H at *
    generalize pV e % 18446744073709551616 = L at *
    generalize pX e = X at *
    clear hw np ap
    go_enter Tryz.func19, Tryz.ntmps19
    go_wp2_with fail
    refine (hi _).mono ?_
    rintro r w1 ⟨rfl, hb1⟩
    go_wp2_with fail
    refine (hf _).mono ?_
    rintro r w2 ⟨a, c, rfl, hr, hb⟩
    have hB := hb1.trans (hb.mono hb1.size)
    obtain ⟨b, off, rfl, hlt, c0, c1⟩ := pair_cells hr
    clear hi hf hr hb hb1
    go_wp2
    go_region
    all_goals (try go_wp2)
    all_goals (refine bodyPost_ret (results8_tmp4 rfl _ _ _) rfl ?_)
    all_goals exact ⟨rfl, below_drewN hB 1⟩
  · have hw : pW e = false := by simpa using hw
    rw [hw] at hi
    have no : Nm [1] 1 := Nm.one (by omega)
    have lw : words (pV e + 1) = [abV e % 18446744073709551616, abV e / 18446744073709551616] := by
      have := (ap.2.1.nm (by omega)).num
      have t := two_words (x := abV e % 18446744073709551616) (y := abV e / 18446744073709551616) (by unfold U; omega) (by have := pV_rng h; have := this.2.2 hw; have q := abV_out hw; unfold U; omega) (by have := ap.2.2.1; omega)
      rw [Int.emod_add_mul_ediv] at t
      rw [← abV_out hw]; exact t
    generalize pV e / 18446744073709551616 = H at *
    generalize pV e % 18446744073709551616 = L at *
    generalize abV e / 18446744073709551616 = H' at *
    generalize abV e % 18446744073709551616 = L' at *
    generalize pX e = X at *
    clear hw ap
    go_enter Tryz.func19, Tryz.ntmps19
    go_wp2_with fail
    refine (hi _).mono ?_
    rintro r w1 ⟨rfl, hb1⟩
    go_wp2_with fail
    refine (hf _).mono ?_
    rintro r w2 ⟨a, c, rfl, hr, hb⟩
    have hB := hb1.trans (hb.mono hb1.size)
    have hal := alloc_below (w := w2) (.cells #[.int .u64 1] 22)
    have ro := rowC_one w2 1 22
    have hB := hB.trans (hal.mono hB.size)
    have ha := ref3Add_any (c1 := c) (c2 := 1) (hr.later hal).1 ro.1 np.ws no.ws (by omega) (by omega)
    rw [np.num, no.num, lw] at ha
    clear hi hf hb hb1 hal
    go_wp2_with fail
    generalize w2.alloc (.cells #[.int .u64 1] 22) = w3 at *
    refine ha.mono ?_
    rintro r w4 ⟨v, rfl, hv, hb⟩
    have hB := hB.trans (hb.mono hB.size)
    obtain ⟨ya, yc, rfl, ry⟩ := hv.readsC
    have ry : RowC w4 ya 2 yc [L', H'] := ry
    obtain ⟨b, off, rfl, hlt, c0, c1⟩ := pair_cells ry
    clear ha hr ro hb hv ry
    go_wp2
    go_region
    all_goals (try go_wp2)
    all_goals (refine bodyPost_ret (results8_tmp4 rfl _ _ _) rfl ?_)
    all_goals exact ⟨rfl, below_drewN hB 1⟩
end Go.Proofs.YtbbmoaipilmmdabGreatDoor
