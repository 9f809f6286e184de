/- package near: what lies behind, the cut. -/
import Derived.Test.YtceecgklgkiffabGreatDoorNearA
namespace Go.Proofs.YtceecgklgkiffabGreatDoor
open Go.ChangeShapes Go.WideShapes Go.ChangeAt Go.RowKit
open Na Ar
set_option linter.unusedVariables false
theorem kK_11 {z D : Int} {more : Bool} (h : more = true ∨ z < D - 1) : kK 1 z D more = 3 := by unfold kK; rw [if_pos rfl, if_pos h]
theorem kK_10 {z D : Int} {more : Bool} (h : ¬ (more = true ∨ z < D - 1)) : kK 1 z D more = 2 := by unfold kK; rw [if_pos rfl, if_neg h]
theorem kK_01 {q z D : Int} {more : Bool} (hq : q ≠ 1) (h : more = true ∨ z < D - 1) : kK q z D more = 1 := by unfold kK; rw [if_neg hq, if_pos h]
theorem kK_00 {q z D : Int} {more : Bool} (hq : q ≠ 1) (h : ¬ (more = true ∨ z < D - 1)) : kK q z D more = 0 := by unfold kK; rw [if_neg hq, if_neg h]
set_option maxHeartbeats 1600000 in
set_option maxRecDepth 100000 in
theorem nearBehind_any {w : World} {a : Option Addr} {n c : Nat} {xs : List Int} (hr : RowC w a n c xs) (hx : Ws xs) (hn : n ≤ 4000000) {D : Int} (d0 : -4611686018427387904 ≤ D) (d1 : D ≤ 4611686018427387904) (more : Bool) :
    Calls Tryz.prog 176 #[.slice a n c, .int .i64 D, .bool more] w fun e w' => e = .returned (.int .i64 (kK (bitN (num xs) (D - 1)) (zerosN (num xs)) D more)) ∧ Below w.heap.size w w' := by
  have hbit := natBit_any hr hx hn (D - 1) (by omega)
  have hze := fun w1 (h : Below w.heap.size w w1) => natZeros_any (hr.later h) hx hn
  generalize bitN (num xs) (D - 1) = q at *
  generalize zerosN (num xs) = z at *
  obtain ⟨K, hK⟩ : ∃ K, K = kK q z D more := ⟨_, rfl⟩
  rw [← hK]
  have HK : Hid (K = kK q z D more) := hK
  clear hK hr hx
  by_cases hq : q = 1
  · have t1 : (q == 1) = true := by simp [hq]
    cases more
    · by_cases hz : z < D - 1
      · have HE : Hid (3 = K) := by show _ = _; rw [HK.out, hq, kK_11 (Or.inr hz)]
        clear hq HK
        go_enter Tryz.func176, Tryz.ntmps176
        go_wp2_with fail
        refine hbit.mono ?_
        rintro e w1 ⟨rfl, hb1⟩
        have h2 := hze w1 hb1
        clear hze hbit
        go_wp2_with fail
        refine h2.mono ?_
        rintro e w2 ⟨rfl, hb2⟩
        have hb := hb1.trans (hb2.mono hb1.size)
        clear h2
        go_wp2
        go_ret
        exact ⟨ret_i HE.out, hb⟩
      · have HE : Hid (2 = K) := by show _ = _; rw [HK.out, hq, kK_10 (fun h => h.elim (by simp) hz)]
        clear hq HK
        go_enter Tryz.func176, Tryz.ntmps176
        go_wp2_with fail
        refine hbit.mono ?_
        rintro e w1 ⟨rfl, hb1⟩
        have h2 := hze w1 hb1
        clear hze hbit
        go_wp2_with fail
        refine h2.mono ?_
        rintro e w2 ⟨rfl, hb2⟩
        have hb := hb1.trans (hb2.mono hb1.size)
        clear h2
        go_wp2
        go_ret
        exact ⟨ret_i HE.out, hb⟩
    · have HE : Hid (3 = K) := by show _ = _; rw [HK.out, hq, kK_11 (Or.inl rfl)]
      clear hq HK
      go_enter Tryz.func176, Tryz.ntmps176
      go_wp2_with fail
      refine hbit.mono ?_
      rintro e w1 ⟨rfl, hb1⟩
      clear hze hbit
      go_wp2
      go_ret
      exact ⟨ret_i HE.out, hb1⟩
  · have t1 : (q == 1) = false := by simp [hq]
    cases more
    · by_cases hz : z < D - 1
      · have HE : Hid (1 = K) := by show _ = _; rw [HK.out, kK_01 hq (Or.inr hz)]
        clear hq HK
        go_enter Tryz.func176, Tryz.ntmps176
        go_wp2_with fail
        refine hbit.mono ?_
        rintro e w1 ⟨rfl, hb1⟩
        have h2 := hze w1 hb1
        clear hze hbit
        go_wp2_with fail
        refine h2.mono ?_
        rintro e w2 ⟨rfl, hb2⟩
        have hb := hb1.trans (hb2.mono hb1.size)
        clear h2
        go_wp2
        go_ret
        exact ⟨ret_i HE.out, hb⟩
      · have HE : Hid (0 = K) := by show _ = _; rw [HK.out, kK_00 hq (fun h => h.elim (by simp) hz)]
        clear hq HK
        go_enter Tryz.func176, Tryz.ntmps176
        go_wp2_with fail
        refine hbit.mono ?_
        rintro e w1 ⟨rfl, hb1⟩
        have h2 := hze w1 hb1
        clear hze hbit
        go_wp2_with fail
        refine h2.mono ?_
        rintro e w2 ⟨rfl, hb2⟩
        have hb := hb1.trans (hb2.mono hb1.size)
        clear h2
        go_wp2
        go_ret
        exact ⟨ret_i HE.out, hb⟩
    · have HE : Hid (1 = K) := by show _ = _; rw [HK.out, kK_01 hq (Or.inl rfl)]
      clear hq HK
      go_enter Tryz.func176, Tryz.ntmps176
      go_wp2_with fail
      refine hbit.mono ?_
      rintro e w1 ⟨rfl, hb1⟩
      clear hze hbit
      go_wp2
      go_ret
      exact ⟨ret_i HE.out, hb1⟩
/-- the exponent, held -/
def heldX (L x : Int) : Int := if L = 0 then -1074 else min (max x (-1152921504606846976)) 1152921504606846976
theorem small_res {N : Int} (h0 : 0 ≤ N) (h1 : N < 18446744073709551616) : resL N = words N ∧ resE N = 0 := (Lt.word ⟨h0, h1⟩).fits (by omega)
theorem bits_char {N : Int} (h : 0 < N) : 1 ≤ bitsN N ∧ e2 (bitsN N - 1) ≤ N ∧ N < e2 (bitsN N) := by
  obtain ⟨b, e, h1, h2⟩ := bits_some h
  rw [e]
  unfold e2
  have k1 : ((b : Int) + 1 - 1).toNat = b := by omega
  have k2 : ((b : Int) + 1).toNat = b + 1 := by omega
  rw [k1, k2]
  exact ⟨by omega, h1, h2⟩
theorem e2_max (D : Int) : e2 (if D < 0 then 0 else D) = e2 D := by
  by_cases h : D < 0
  · rw [if_pos h, e2_zero (Int.le_refl 0), e2_zero (by omega)]
  · rw [if_neg h]
theorem cut_lt {M L x : Int} (h0 : 0 ≤ M) (hL : 0 ≤ L) (hb : 0 < M → 1 ≤ L ∧ e2 (L - 1) ≤ M ∧ M < e2 L) : 0 ≤ cutM M L x ∧ cutM M L x < 9007199254740992 ∧ 0 ≤ M / e2 (cutX L x - x) ∧ M / e2 (cutX L x - x) < 9007199254740992 := by
  have hp := e2_pos (cutX L x - x)
  have hq := e2_pos (-(cutX L x - x))
  have d0 : 0 ≤ M / e2 (cutX L x - x) := Int.ediv_nonneg h0 (by omega)
  have key : M / e2 (cutX L x - x) ≤ cutM M L x := by
    unfold cutM
    have := Int.mul_le_mul_of_nonneg_left (show (1 : Int) ≤ e2 (-(cutX L x - x)) by omega) d0
    omega
  by_cases hM : 0 < M
  · obtain ⟨g1, g2, g3⟩ := hb hM
    obtain ⟨f0, f1, _⟩ := cut_form (x := x) hM g1 g2 g3
    exact ⟨f0, f1, d0, by omega⟩
  · have : M = 0 := by omega
    subst this
    have e : cutM 0 L x = 0 := by unfold cutM; rw [Int.zero_ediv, Int.zero_mul]
    rw [e] at key ⊢
    exact ⟨by omega, by omega, d0, by omega⟩
set_option maxHeartbeats 1600000 in
set_option maxRecDepth 100000 in
theorem cut_any {w : World} {a : Option Addr} {n c : Nat} {xs : List Int} (hr : RowC w a n c xs) (hx : Ws xs) (hn : n ≤ 4000000) {x : Int} (x0 : -9223372036854775808 ≤ x) (x1 : x ≤ 9223372036854775807) (more : Bool) :
    Calls Tryz.prog 145 #[.slice a n c, .int .i64 x, .bool more] w fun e w' => e = .returned (.tuple #[.int .u64 (cutM (num xs) (bitsN (num xs)) (heldX (bitsN (num xs)) x)), .int .i64 (cutX (bitsN (num xs)) (heldX (bitsN (num xs)) x)), .int .i64 (kK (bitN (num xs) (cutX (bitsN (num xs)) (heldX (bitsN (num xs)) x) - heldX (bitsN (num xs)) x - 1)) (zerosN (num xs)) (cutX (bitsN (num xs)) (heldX (bitsN (num xs)) x) - heldX (bitsN (num xs)) x) more)]) ∧ Below w.heap.size w w' := by
  have hbit := bits0_any hr hx hn
  have l1 := hr.1.1
  have p1 := num_nonneg hx
  have hble := bits_le (N := num xs) (k := xs.length) p1 (num_bd hx)
  have hbn := bits_nonneg (num xs)
  have hch : 0 < num xs → 1 ≤ bitsN (num xs) ∧ e2 (bitsN (num xs) - 1) ≤ num xs ∧ num xs < e2 (bitsN (num xs)) := bits_char
  generalize bitsN (num xs) = L at *
  obtain ⟨Y, hY⟩ : ∃ Y, Y = heldX L x := ⟨_, rfl⟩
  rw [← hY]
  have hYb : -1152921504606846976 ≤ Y ∧ Y ≤ 1152921504606846976 := by rw [hY]; unfold heldX; split <;> omega
  have hlt := cut_lt (x := Y) p1 hbn hch
  have hA : cutX L Y = max (Y + L - 53) (-1074) := rfl
  have HM : Hid (cutM (num xs) L Y = num xs / e2 (cutX L Y - Y) * e2 (-(cutX L Y - Y))) := rfl
  generalize cutM (num xs) L Y = N2 at *
  generalize cutX L Y = A at *
  obtain ⟨D, hD⟩ : ∃ D, D = A - Y := ⟨_, rfl⟩
  rw [← hD] at hlt HM ⊢
  have dA : D + Y = A := by omega
  obtain ⟨T1, hT1⟩ : ∃ T1, T1 = if D < 0 then 0 else D := ⟨_, rfl⟩
  obtain ⟨T2, hT2⟩ : ∃ T2, T2 = if -D < 0 then 0 else -D := ⟨_, rfl⟩
  have b1 : 0 ≤ T1 ∧ T1 ≤ 4611686018427387904 := by rw [hT1]; split <;> omega
  have b2 : 0 ≤ T2 ∧ T2 ≤ 4611686018427387904 := by rw [hT2]; split <;> omega
  obtain ⟨N1, hN1⟩ : ∃ N1, N1 = num xs / e2 D := ⟨_, rfl⟩
  rw [← hN1] at hlt HM
  have q1 : num xs / 2 ^ T1.toNat = N1 := by
    have := e2_max D
    rw [← hT1] at this
    rw [hN1, ← this]; rfl
  have q2 : N1 * 2 ^ T2.toNat = N2 := by
    have := e2_max (-D)
    rw [← hT2] at this
    rw [HM.out, ← this]; rfl
  obtain ⟨n20, n21, n10, n11⟩ := hlt
  have s1 : Hid (shrL (num xs) T1 = words N1) := by
    show _ = _
    unfold shrL; rw [if_neg (by omega), q1]; exact (small_res n10 (by omega)).1
  have s2 : Hid (shlL N1 T2 = words N2) := by
    show _ = _
    unfold shlL; rw [if_neg (by omega), q2]; exact (small_res n20 (by omega)).1
  have hS := natShr_any hr hx hn T1 (by omega)
  rw [s1.out] at hS
  generalize shrB (num xs) T1 = B1 at hS
  generalize shrE (num xs) T1 = E1 at hS
  have hbe := fun w1 (h : Below w.heap.size w w1) => nearBehind_any (hr.later h) hx hn (D := D) (by omega) (by omega) more
  generalize kK (bitN (num xs) (D - 1)) (zerosN (num xs)) D more = K at *
  clear hN1 q1 q2 HM hch hr hx p1
  obtain ⟨Y1, r1⟩ : ∃ Y1, (if x < -1152921504606846976 then (-1152921504606846976 : Int) else x) = Y1 := ⟨_, rfl⟩
  obtain ⟨Z, r2⟩ : ∃ Z, (if 1152921504606846976 < Y1 then (1152921504606846976 : Int) else Y1) = Z := ⟨_, rfl⟩
  by_cases hL0 : L = 0
  · subst hL0
    have hY' : Y = -1074 := by rw [hY]; unfold heldX; rw [if_pos rfl]
    have hA' : A = -1074 := by omega
    have hD' : D = 0 := by omega
    have hT1' : T1 = 0 := by rw [hT1, hD']; rfl
    have hT2' : T2 = 0 := by rw [hT2, hD']; rfl
    clear hY hA hD hT1 hT2 dA
    subst hY' hA' hD' hT1' hT2'
    clear hYb b1 b2 hble hbn
    · go_enter Tryz.func145, Tryz.ntmps145
      go_wp2_with fail
      refine hbit.mono ?_
      rintro e w1 ⟨rfl, rfl⟩
      clear hbit
      go_wp2_with fail
      refine hS.mono ?_
      rintro e w2 ⟨v2, rfl, o2, hb2⟩
      obtain ⟨a2, n2, c2, l2, rfl, r2, m2, E2⟩ := o2.opens (k := 1) (Lt.word ⟨n10, by omega⟩) (by omega)
      have hl2 := r2.1.1
      have hl2' := (Lt.word (x := N1) ⟨n10, by omega⟩).len
      rw [← E2.out, hl2] at hl2'
      have hS2 := natShl_any r2 m2.ws (by omega) 0 (by omega)
      rw [m2.num, s2.out] at hS2
      generalize shlE N1 0 = E3 at hS2
      clear hS o2
      go_wp2_with fail
      refine hS2.mono ?_
      rintro e w3 ⟨v3, rfl, o3, hb3⟩
      obtain ⟨a3, n3, c3, l3, rfl, r3', m3, E4⟩ := o3.opens (k := 1) (Lt.word ⟨n20, by omega⟩) (by omega)
      have hl3 := r3'.1.1
      have hl3' := (Lt.word (x := N2) ⟨n20, by omega⟩).len
      rw [← E4.out, hl3] at hl3'
      have hW := natWord_any r3' m3.ws (by omega)
      have e5 : wordV N2 = N2 := by unfold wordV; rw [if_pos (by omega)]
      rw [m3.num, e5] at hW
      generalize wordB N2 = B3 at hW
      clear hS2 o3 e5
      go_wp2_with fail
      refine hW.mono ?_
      rintro e w4 ⟨rfl, hb4⟩
      have hb34 := (hb2.trans (hb3.mono hb2.size)).trans (hb4.mono (Nat.le_trans hb2.size hb3.size))
      have hB := hbe w4 hb34
      clear hbe hW r2 r3' m2 m3 E2 E4 hl2 hl2' hl3 hl3'
      go_wp2_with fail
      refine hB.mono ?_
      rintro e w5 ⟨rfl, hb5⟩
      have hb := hb34.trans (hb5.mono hb34.size)
      clear hB
      go_wp2
      go_ret3
      exact ⟨rfl, hb⟩
  · have t0 : (L == 0) = false := by simp [hL0]
    have hZ : Z = Y := by
      rw [hY, ← r2, ← r1]
      unfold heldX
      rw [if_neg hL0]
      split <;> split <;> omega
    rw [hZ] at r2
    clear hZ
    have r3 : (if Y + L - 53 < -1074 then (-1074 : Int) else Y + L - 53) = A := by rw [hA]; split <;> omega
    have r4 : A - Y = D := hD.symm
    have r5 : (if D < 0 then (0 : Int) else D) = T1 := hT1.symm
    have r6 : (if -D < 0 then (0 : Int) else -D) = T2 := hT2.symm
    have r7 : (if 0 < D then (0 : Int) else -D) = T2 := by rw [← r6]; split <;> split <;> omega
    obtain ⟨y0, y1⟩ := hYb
    have d0 : -4611686018427387904 ≤ D ∧ D ≤ 4611686018427387904 := by omega
    have aB : -1074 ≤ A ∧ A ≤ 2305843009213693952 := by omega
    clear hY hA hD hT1 hT2 dA hL0
    · go_enter Tryz.func145, Tryz.ntmps145
      go_wp2_with fail
      refine hbit.mono ?_
      rintro e w1 ⟨rfl, rfl⟩
      clear hbit
      go_wp2_with fail
      refine hS.mono ?_
      rintro e w2 ⟨v2, rfl, o2, hb2⟩
      obtain ⟨a2, n2, c2, l2, rfl, r2, m2, E2⟩ := o2.opens (k := 1) (Lt.word ⟨n10, by omega⟩) (by omega)
      have hl2 := r2.1.1
      have hl2' := (Lt.word (x := N1) ⟨n10, by omega⟩).len
      rw [← E2.out, hl2] at hl2'
      have hS2 := natShl_any r2 m2.ws (by omega) T2 (by omega)
      rw [m2.num, s2.out] at hS2
      generalize shlE N1 T2 = E3 at hS2
      clear hS o2
      go_wp2_with fail
      refine hS2.mono ?_
      rintro e w3 ⟨v3, rfl, o3, hb3⟩
      obtain ⟨a3, n3, c3, l3, rfl, r3', m3, E4⟩ := o3.opens (k := 1) (Lt.word ⟨n20, by omega⟩) (by omega)
      have hl3 := r3'.1.1
      have hl3' := (Lt.word (x := N2) ⟨n20, by omega⟩).len
      rw [← E4.out, hl3] at hl3'
      have hW := natWord_any r3' m3.ws (by omega)
      have e5 : wordV N2 = N2 := by unfold wordV; rw [if_pos (by omega)]
      rw [m3.num, e5] at hW
      generalize wordB N2 = B3 at hW
      clear hS2 o3 e5
      go_wp2_with fail
      refine hW.mono ?_
      rintro e w4 ⟨rfl, hb4⟩
      have hb34 := (hb2.trans (hb3.mono hb2.size)).trans (hb4.mono (Nat.le_trans hb2.size hb3.size))
      have hB := hbe w4 hb34
      clear hbe hW r2 r3' m2 m3 E2 E4 hl2 hl2' hl3 hl3'
      go_wp2_with fail
      refine hB.mono ?_
      rintro e w5 ⟨rfl, hb5⟩
      have hb := hb34.trans (hb5.mono hb34.size)
      clear hB
      go_wp2
      go_ret3
      exact ⟨rfl, hb⟩
end Go.Proofs.YtceecgklgkiffabGreatDoor
