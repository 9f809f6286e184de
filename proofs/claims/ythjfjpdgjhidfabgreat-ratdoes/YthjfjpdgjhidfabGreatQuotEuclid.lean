/- package quot: euclid. -/
import Derived.Test.YthjfjpdgjhidfabGreatQuotRun
import Derived.Test.YthjfjpdgjhidfabGreatQuotFs
namespace Go.Proofs.YthjfjpdgjhidfabGreat
open Go.ChangeShapes Go.WideShapes Go.ChangeAt Go.RowKit
open Na Ar
set_option linter.unusedVariables false
namespace Na
theorem top_num {A a1 a0 P R : Int} {s : Nat} (hs : s ≤ 63) (hP : 0 < P) (ha0 : 0 ≤ a0 ∧ a0 < 18446744073709551616) (ha1 : 0 ≤ a1) (e : A = R + P * (a0 + 18446744073709551616 * a1)) (hR : 0 ≤ R ∧ R < P) (hlt : a1 < 2 ^ (64 - s)) (hB : (18446744073709551616 : Int) = 2 ^ s * 2 ^ (64 - s)) :
    (a1 * 18446744073709551616 + a0) * 2 ^ s / 18446744073709551616 % 18446744073709551616 = A / (P * 2 ^ (64 - s)) := by
  have ps : (0 : Int) < 2 ^ s := Int.pow_pos (by omega)
  have pt : (0 : Int) < 2 ^ (64 - s) := Int.pow_pos (by omega)
  have e1 : A / P = a1 * 18446744073709551616 + a0 := by
    rw [e, Int.add_mul_ediv_left _ _ (by omega), Int.ediv_eq_zero_of_lt hR.1 hR.2]; omega
  have e2 : A / (P * 2 ^ (64 - s)) = (a1 * 18446744073709551616 + a0) / 2 ^ (64 - s) := by
    rw [← Int.ediv_ediv_of_nonneg (Int.le_of_lt hP), e1]
  rw [e2]
  have e3 : (a1 * 18446744073709551616 + a0) * 2 ^ s / 18446744073709551616 = (a1 * 18446744073709551616 + a0) / 2 ^ (64 - s) := by
    generalize a1 * 18446744073709551616 + a0 = z
    rw [hB, Int.mul_comm z, Int.mul_ediv_mul_of_pos _ _ ps]
  rw [e3]
  refine Int.emod_eq_of_lt (Int.ediv_nonneg (by omega) (by omega)) (Int.ediv_lt_of_lt_mul pt ?_)
  have m : (a1 + 1) * 18446744073709551616 ≤ 2 ^ (64 - s) * 18446744073709551616 := Int.mul_le_mul_of_nonneg_right (by omega) (by omega)
  rw [Int.mul_comm (18446744073709551616 : Int) (2 ^ (64 - s))]
  omega

theorem pad_two {ys : List Int} {k : Nat} (hy : Ws ys) (hl : ys.length ≤ k + 2) : ∃ R, (0 ≤ R ∧ R < 18446744073709551616 ^ k) ∧ num ys = R + 18446744073709551616 ^ k * (ys.getD k 0 + 18446744073709551616 * ys.getD (k + 1) 0) := by
  have p := wpow_pos k
  have n0 := num_nonneg hy
  have nb := num_bd hy
  by_cases h1 : ys.length ≤ k
  · have m := wpow_mono h1
    refine ⟨num ys, by omega, ?_⟩
    rw [getD_out (by omega), getD_out (by omega)]; omega
  · by_cases h2 : ys.length = k + 1
    · have e := win_succ (us := ys) (o := 0) (m := k) (by omega)
      rw [win_all h2, Nat.zero_add] at e
      refine ⟨Na.win ys 0 k, ⟨win_nonneg hy 0 k, win_lt hy (by omega)⟩, ?_⟩
      rw [getD_out (k := k + 1) (by omega), e]
      have : ys.getD k 0 + 18446744073709551616 * 0 = ys.getD k 0 := by omega
      rw [this]
    · have h3 : ys.length = k + 2 := by omega
      have e := win_two (us := ys) (o := 0) (k := k) (by omega)
      rw [win_all h3, Nat.zero_add, Nat.zero_add] at e
      refine ⟨Na.win ys 0 k, ⟨win_nonneg hy 0 k, win_lt hy (by omega)⟩, ?_⟩
      rw [e]
      generalize (18446744073709551616 : Int) ^ k = P
      grind
/-- the top parts of two numbers, the first not the lesser -/
theorem tops {A B : Int} {k : Nat} (hA : 0 < A) (hB : 0 ≤ B) (hAB : B ≤ A) (hl : (words A).length = k + 2) :
    ∃ (s : Nat) (H : Int), s ≤ 63 ∧ (64 : Int) - lenW ((words A).getD (k + 1) 0) = (s : Int) ∧ 0 < H ∧ shHi ((words A).getD (k + 1) 0) ((words A).getD k 0) s = A / H ∧ shHi ((words B).getD (k + 1) 0) ((words B).getD k 0) s = B / H ∧ B / H ≤ A / H ∧ A / H < 18446744073709551616 := by
  have dA := Dg_words A
  have dB := Dg_words B
  have nA := num_words (Int.le_of_lt hA)
  have nB := num_words hB
  obtain ⟨s, hs, hsl, hsb, ha1⟩ := dv_shift hA hl
  have gA1 := dA.getAnyB (k + 1)
  have gA0 := dA.getAnyB k
  have gB1 := dB.getAnyB (k + 1)
  have gB0 := dB.getAnyB k
  have lB := words_mono hB hAB
  obtain ⟨R1, r1, e1⟩ := pad_two (k := k) dA (by omega)
  obtain ⟨R2, r2, e2⟩ := pad_two (k := k) dB (by omega)
  rw [nA] at e1
  rw [nB] at e2
  obtain ⟨i, hi, i1, i2, i3⟩ := lenW_pos (x := (words A).getD (k + 1) 0) gA1 (by omega)
  have e64 : 64 - s = i + 1 := by rw [i1] at hsl; omega
  have a1lt : (words A).getD (k + 1) 0 < 2 ^ (64 - s) := by rw [e64]; exact i3
  have p := wpow_pos k
  have hBB : (18446744073709551616 : Int) = 2 ^ s * 2 ^ (64 - s) := by
    rw [← Int.pow_add, Nat.add_sub_cancel' (by omega)]; rfl
  have b1lt : (words B).getD (k + 1) 0 < 2 ^ (64 - s) := by
    by_cases g : (words B).getD (k + 1) 0 ≤ (words A).getD (k + 1) 0
    · omega
    · exfalso
      have m : 18446744073709551616 ^ k * ((words A).getD k 0 + 18446744073709551616 * (words A).getD (k + 1) 0 + 1) ≤ 18446744073709551616 ^ k * ((words B).getD k 0 + 18446744073709551616 * (words B).getD (k + 1) 0) := Int.mul_le_mul_of_nonneg_left (by omega) (Int.le_of_lt p)
      rw [Int.mul_add, Int.mul_one] at m
      omega
  have q1 := top_num hs p gA0 gA1.1 e1 r1 a1lt hBB
  have q2 := top_num hs p gB0 gB1.1 e2 r2 b1lt hBB
  have pH : 0 < (18446744073709551616 : Int) ^ k * 2 ^ (64 - s) := Int.mul_pos p (p2pos _)
  refine ⟨s, 18446744073709551616 ^ k * 2 ^ (64 - s), hs, hsl, pH, q1, q2, Int.ediv_le_ediv pH hAB, ?_⟩
  rw [← q1]
  exact (U_shHi ((words A).getD (k + 1) 0) ((words A).getD k 0) s).2
/-- what foresee tells, of the whole numbers -/
theorem foreseen {A B H : Int} {K : Nat} {ua ub va vb x y : Int} (hH : 0 < H) (hA : 0 < A) (hB : 0 ≤ B) (hlt : A / H < 18446744073709551616) (hF : Fs (A / H) (B / H) K ua ub va vb x y) (hK : K ≠ 0) (g1 : vb ≤ y) (g2 : vb + ub ≤ x - y) :
    (∃ A' B', Crs K ua ub va vb A B A' B') ∧ U ua ∧ U ub ∧ U va ∧ U vb := by
  have mA := Int.mul_ediv_add_emod A H
  have mB := Int.mul_ediv_add_emod B H
  have c := hF.course (by omega) g1 g2 hH ⟨Int.emod_nonneg A (show H ≠ 0 by omega), Int.emod_lt_of_pos A hH⟩ ⟨Int.emod_nonneg B (show H ≠ 0 by omega), Int.emod_lt_of_pos B hH⟩
  have eA : A / H * H + A % H = A := by rw [Int.mul_comm]; exact mA
  have eB : B / H * H + B % H = B := by rw [Int.mul_comm]; exact mB
  rw [eA, eB] at c
  have nn := hF.nn
  have b := hF.both (show 1 ≤ x by omega) (show 1 ≤ y by omega)
  have w := hF.word (show 1 ≤ x by omega)
  have hh : ua ≤ ub ∧ va ≤ vb := by
    rcases hF.st with s | s
    · omega
    · omega
  refine ⟨c, ?_, ?_, ?_, ?_⟩ <;> unfold U <;> omega
end Na

set_option maxHeartbeats 6400000 in
set_option maxRecDepth 100000 in
theorem euclid_any {a b : Option Addr} {n m c1 c2 : Nat} {A B : Int} {w : World} (hr1 : RowC w a n c1 (words A)) (hr2 : RowC w b m c2 (words B)) (hA : 0 < A) (hB : 0 ≤ B) (hBA : B ≤ A) (hn : n ≤ 3700000) :
    Calls Tryz.prog 86 #[.slice a n c1, .slice b m c2] w fun e w' => ∃ va l c, e = .returned (.slice va l c) ∧ RowC w' va l c (words (Int.gcd A B : Int)) ∧ l ≤ 3800000 ∧ Below w.heap.size w w' := by
  have hlen := hr1.1.1
  go_enter Tryz.func86, Tryz.ntmps86
  go_wp2
  go_loopg [0, 1, 5, 6, 7, 8] (A + B).toNat (fun g sa sb _ _ _ _ wr => ∃ (A' B' : Int) (va vb : Option Addr) (l1 l2 d1 d2 : Nat), g = (A' + B').toNat ∧ sa = .slice va l1 d1 ∧ sb = .slice vb l2 d2 ∧ RowC wr va l1 d1 (words A') ∧ RowC wr vb l2 d2 (words B') ∧ 0 < A' ∧ 0 ≤ B' ∧ B' ≤ A' ∧ A' ≤ A ∧ Hid (Int.gcd A' B' = Int.gcd A B) ∧ Below w.heap.size w wr)
  case atStart => exact ⟨A, B, a, b, n, m, c1, c2, rfl, rfl, rfl, hr1, hr2, hA, hB, hBA, Int.le_refl _, rfl, Below.refl _ _⟩
  case round =>
    obtain ⟨A', B', va, vb, l1, l2, d1, d2, hg, rfl, rfl, hra, hrb, hA', hB', hBA', hAA, hgc, hBw⟩ := hrel
    clear hr1 hr2
    have e1 := hra.1.1
    have e2 := hrb.1.1
    have nA := num_words (Int.le_of_lt hA')
    have nB := num_words hB'
    have dA := Dg_words A'
    have dB := Dg_words B'
    have m1 := words_mono (Int.le_of_lt hA') hAA
    have m2 := words_mono hB' hBA'
    have hl1 : l1 ≤ 3700000 := by omega
    have hl2 : l2 ≤ 3700000 := by omega
    by_cases hbig : 1 < l2
    · have hBp : 0 < B' := by
        have := words_nil hB'
        omega
      obtain ⟨k, hk⟩ : ∃ k, l1 = k + 2 := ⟨l1 - 2, by omega⟩
      subst hk
      obtain ⟨s, H, hs, hsl, hH, t1, t2, t3, t4⟩ := tops hA' hB' hBA' e1
      have hfs := foresee_any (c1 := d1) (c2 := d2) hra.1 hrb.1 dA dB (by omega) (by omega) hsl hs (by rw [t1, t2]; exact t3)
      rw [t1, t2] at hfs
      have hkn := fun K ua ub va' vb' x y h1 h2 h3 h4 => foreseen (K := K) (ua := ua) (ub := ub) (va := va') (vb := vb') (x := x) (y := y) hH hA' hB' t4 h1 h2 h3 h4
      have HE : Hid ((words A').length = k + 2 ∧ (words B').length = l2) := ⟨e1, e2⟩
      have hlt : (1 : Int) < (l2 : Int) := by omega
      clear t1 t2 t3 t4 hsl e1 e2 m1 m2 hlen
      go_wp2_with fail
      refine hfs.mono ?_
      rintro e w2 ⟨K, ua, ub, va', vb', rfl, hK, hF, hb2⟩
      have hB2 := hBw.trans (hb2.mono hBw.size)
      have hal := alloc_below (w := w2) (.cells #[.int .i64 (K : Int), .int .u64 ua, .int .u64 ub, .int .u64 va', .int .u64 vb'] 97)
      have hra2 := (hra.later hb2).later hal
      have hrb2 := (hrb.later hb2).later hal
      have hB3 := hB2.trans (hal.mono hB2.size)
      clear hfs hra hrb
      by_cases hK0 : K = 0
      · have hdm := divMod_any hra2 hrb2 dA dB (by omega) (by omega) (by rw [nB]; exact hBp)
        rw [nA, nB] at hdm
        have r0 := Int.emod_nonneg A' (show B' ≠ 0 by omega)
        have r1 := Int.emod_lt_of_pos A' hBp
        have HG : Hid (Int.gcd B' (A' % B') = Int.gcd A B) := (gcd_step A' B').trans hgc.out
        have hk1 : decide ((0 : Int) < (K : Int)) = false := decide_eq_false (by omega)
        have hk2 : ¬ (0 : Int) < (K : Int) := by omega
        clear hF hkn hK0
        go_wp2_with fail
        refine hdm.mono ?_
        rintro e w4 ⟨vq, vr, rfl, hq, hr, hb4, _⟩
        obtain ⟨ra, rc, rfl, hrr⟩ := hr.readsC
        have hB4 := hB3.trans (hb4.mono hB3.size)
        have hrb4 := hrb2.later hb4
        clear hdm hra2 hrb2 hq hr
        go_wp2
        go_roundg (B' + A' % B').toNat
        case measure => omega
        case rel => exact ⟨B', A' % B', vb, ra, l2, _, d2, rc, rfl, rfl, rfl, hrb4, hrr, hBp, r0, by omega, by omega, HG, hB4⟩
      · obtain ⟨x, y, hFs, q1, q2⟩ := hF.resolve_left hK0
        obtain ⟨⟨A2, B2, hcr⟩, u1, u2, u3, u4⟩ := hkn K ua ub va' vb' x y hFs hK0 q1 q2
        have hrun := run_any hra2 hrb2 dA dB (by omega) (by omega) u1 u2 u3 u4 hK (by rw [nA, nB]; exact hcr)
        have HG : Hid (Int.gcd A2 B2 = Int.gcd A B) := hcr.gcd.trans hgc.out
        have o1 := hcr.ord
        have o2 := hcr.nn
        have o3 := hcr.sm
        have ea := hcr.ea
        have hA2 : 0 < A2 := by
          by_cases g : 0 < A2
          · exact g
          · exfalso
            have z1 : A2 = 0 := by omega
            have z2 : B2 = 0 := by omega
            rw [z1, z2] at ea
            omega
        have hk1 : (0 : Int) < (K : Int) := by omega
        have hk2 : decide ((0 : Int) < (K : Int)) = true := decide_eq_true hk1
        clear hF hkn hFs hcr ea
        go_wp2_with fail
        refine hrun.mono ?_
        rintro e w4 ⟨v1, v2, rfl, hv1, hv2, hb4⟩
        obtain ⟨pa, pc, rfl, hpr⟩ := hv1.readsC
        obtain ⟨qa, qc, rfl, hqr⟩ := hv2.readsC
        have hB4 := hB3.trans (hb4.mono hB3.size)
        clear hrun hra2 hrb2 hv1 hv2
        go_wp2
        go_roundg (A2 + B2).toNat
        case measure => omega
        case rel => exact ⟨A2, B2, pa, qa, _, _, pc, qc, rfl, rfl, rfl, hpr, hqr, hA2, o2, o1, by omega, HG, hB4⟩
    · have hBs : B' < 18446744073709551616 := by
        by_cases g : B' < 18446744073709551616
        · exact g
        · have := words_two (N := B') (by omega)
          omega
      have hword := natWord_any hrb dB (by omega)
      rw [nB] at hword
      have w1 : wordV B' = B' := by unfold wordV; rw [if_pos hBs]
      have w2 : wordB B' = true := decide_eq_true hBs
      rw [w1, w2] at hword
      have hlt : ¬ (1 : Int) < (l2 : Int) := by omega
      by_cases hz : B' = 0
      · have HG : Hid (A' = (Int.gcd A B : Int)) := by
          show _ = _
          rw [← hgc.out, hz, Int.gcd_zero]
          omega
        have tz : (B' == 0) = true := beq_of hz
        clear w1 w2 hlen
        go_wp2_with fail
        refine hword.mono ?_
        rintro e w2 ⟨rfl, hb2⟩
        have hra2 := hra.later hb2
        have hB2 := hBw.trans (hb2.mono hBw.size)
        clear hword hra hrb
        go_wp2
        go_ret
        exact ⟨_, _, _, rfl, by rw [← HG.out]; exact hra2, by omega, hB2⟩
      · have tz : (B' == 0) = false := beq_no hz
        have hUB : U B' := ⟨hB', hBs⟩
        have hsm := fun (w2 : World) (h : Below wr.heap.size wr w2) => small_any (d := B') (hra.later h) dA (by omega) hUB hz
        rw [nA] at hsm
        have r0 := Int.emod_nonneg A' hz
        have r1 := Int.emod_lt_of_pos A' (show 0 < B' by omega)
        have hUR : U (A' % B') := ⟨r0, by omega⟩
        have hgw := fun w => gcdWords_any hUB hUR w
        have HG : Hid ((Int.gcd B' (A' % B') : Int) = (Int.gcd A B : Int)) := by
          show _ = _
          rw [gcd_step A' B', hgc.out]
        rw [HG.out] at hgw
        have hGb : 0 ≤ (Int.gcd A B : Int) ∧ (Int.gcd A B : Int) < 18446744073709551616 := by
          rw [← HG.out]
          have hd : (Int.gcd B' (A' % B') : Int) ∣ B' := Int.gcd_dvd_left ..
          have := Int.le_of_dvd (show 0 < B' by omega) hd
          omega
        have hfr := fun w => natFrom_any hGb w
        have lG := words_len1 hGb
        obtain ⟨R, hR⟩ : ∃ R, R = A' % B' := ⟨_, rfl⟩
        rw [← hR] at hsm hgw
        clear w1 w2 hlen r0 r1 hUR hR
        go_wp2_with fail
        refine hword.mono ?_
        rintro e w2 ⟨rfl, hb2⟩
        have hB2 := hBw.trans (hb2.mono hBw.size)
        have hs2 := hsm w2 hb2
        clear hword hsm hra hrb
        go_wp2_with fail
        refine hs2.mono ?_
        rintro e w3 ⟨vq, rfl, _, hb3⟩
        have hB3 := hB2.trans (hb3.mono hB2.size)
        clear hs2
        go_wp2_with fail
        refine (hgw w3).mono ?_
        rintro e w4 ⟨rfl, hb4⟩
        have hB4 := hB3.trans (hb4.mono hB3.size)
        clear hgw
        go_wp2_with fail
        refine (hfr w4).mono ?_
        rintro e w5 ⟨v5, rfl, hv5, hb5⟩
        obtain ⟨fa, fc, rfl, hfrr⟩ := hv5.readsC
        have hB5 := hB4.trans (hb5.mono hB4.size)
        clear hfr hv5
        go_wp2
        go_ret
        exact ⟨_, _, _, rfl, hfrr, by omega, hB5⟩
end Go.Proofs.YthjfjpdgjhidfabGreat
