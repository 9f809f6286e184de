/- Layer 13: Precise. -/
import Derived.Test.YtceecgklgkiffaaGreatDoorExpG
namespace Go.Proofs.YtceecgklgkiffaaGreatDoor
open Go.ChangeShapes Go.WideShapes Go.ChangeAt Go.RowKit
open Na Ar Ep
set_option linter.unusedVariables false
namespace Ep
/-- what Precise tells: n digits and the exponent -/
def Pz (A n D : Nat) (X : Int) : Prop := (A = 0 ∧ D = 0 ∧ X = 0) ∨ ∃ N L x, 0 < A ∧ Dec A N L x ∧ ((rn L N n < 10 ^ n ∧ D = rn L N n ∧ X = (L : Int) + x - n) ∨ (rn L N n = 10 ^ n ∧ D = 10 ^ (n - 1) ∧ X = (L : Int) + x - n + 1))
theorem pz_uniq {A n D D' : Nat} {X X' : Int} (h : Pz A n D X) (h' : Pz A n D' X') : D = D' ∧ X = X' := by
  rcases h with ⟨a, b, c⟩ | ⟨N, L, x, a, b, c⟩ <;> rcases h' with ⟨a', b', c'⟩ | ⟨N', L', x', a', b', c'⟩
  · exact ⟨by omega, by omega⟩
  · omega
  · omega
  · obtain ⟨rfl, rfl, rfl⟩ := dec_uniq b b'
    rcases c with ⟨c1, c2, c3⟩ | ⟨c1, c2, c3⟩ <;> rcases c' with ⟨d1, d2, d3⟩ | ⟨d1, d2, d3⟩
    · exact ⟨by omega, by omega⟩
    · omega
    · omega
    · exact ⟨by omega, by omega⟩
theorem szA_zero {b : Int} (hu : U b) (hf : ef b ≠ 2047) : (clsW b == 0) = decide (szA b = 0) := by
  obtain ⟨P, e1, e2', e3, e4, e5, e6, e7⟩ := num_parts hu hf
  have hA : szA b = 0 ↔ spM b = 0 := by
    unfold szA
    rw [e7]
    have p2 : (0 : Int) < 2 ^ P := Int.pow_pos (by omega)
    refine ⟨fun h => ?_, fun h => by rw [h, Int.zero_mul]; rfl⟩
    have : spM b * 2 ^ P ≤ 0 := by omega
    rcases Int.lt_or_eq_of_le e3 with q | q
    · have := Int.mul_pos q p2
      omega
    · exact q.symm
  have hfr := fr_bd b
  have hef := ef_bd b
  have hM : spM b = 0 ↔ clsW b = 0 := by
    unfold spM clsW
    rw [if_neg hf, if_neg hf]
    by_cases h0 : ef b = 0
    · rw [if_pos h0, if_pos h0]
      by_cases h1 : fr b = 0
      · rw [if_pos h1, h1]
      · rw [if_neg h1]
        exact ⟨fun q => absurd q h1, fun q => by omega⟩
    · rw [if_neg h0, if_neg h0]
      exact ⟨fun q => by omega, fun q => by omega⟩
  by_cases q : clsW b = 0
  · rw [q, decide_eq_true (hA.2 (hM.2 q))]
    rfl
  · rw [decide_eq_false (fun h => q (hM.1 (hA.1 h)))]
    exact beq_eq_false_iff_ne.2 q
end Ep
set_option maxHeartbeats 3200000 in
set_option maxRecDepth 100000 in
theorem precise_fin {b : Int} {n : Nat} (hu : U b) (hf : ef b ≠ 2047) (h1 : 1 ≤ n) (hn : n ≤ 1100) (w : World) :
    Calls Tryz.prog 17 #[.int .u64 b, .int .i64 (n : Int)] w fun e w' => ∃ (D : Nat) (X : Int), Pz (szA b) n D X ∧ D < 10 ^ n ∧ e = .returned (.tuple #[.string ⟨(dg n D).toArray⟩, .int .i64 X, .int .i64 0]) ∧ Below w.heap.size w w' := by
  have hS := fun w => sizeOf_fin hu hf w
  have hK := fun w => f6Class_any hu w
  have hz := szA_zero hu hf
  have z0 : (n : Int) ≤ 1100 := by omega
  have z1 : (1 : Int) ≤ n := by omega
  generalize szA b = A at *
  generalize clsW b = K at *
  clear hf
  go_enter Tryz.func17, Tryz.ntmps17
  go_wp2_with fail
  refine (hS w).mono ?_
  rintro e w1 ⟨B, c, N, L, x, rfl, hBg, hR, hD, hbd, hb1⟩
  have hba := alloc_below (w := w1) (.cells #[.slice (some ⟨B, 0, none⟩) L c, .int .i64 x] 62)
  have sd := sd_new w1 (.slice (some ⟨B, 0, none⟩) L c) (.int .i64 x) 62
  have hR1 := hR.later hba
  have hB1 := hb1.trans (hba.mono hb1.size)
  obtain ⟨g, hg⟩ : ∃ g, g = w1.heap.size := ⟨_, rfl⟩
  obtain ⟨W, hW⟩ : ∃ W, W = w1.alloc (.cells #[.slice (some ⟨B, 0, none⟩) L c, .int .i64 x] 62) := ⟨_, rfl⟩
  rw [← hW] at sd hR1 hB1
  rw [← hg] at sd
  have hhi : N < 10 ^ L ∧ (N % 10 ≠ 0 ∨ L ≤ n) := by
    rcases hD with ⟨_, rfl, rfl, _⟩ | ⟨_, hd⟩
    · exact ⟨by omega, Or.inr h1⟩
    · exact ⟨hd.hi, Or.inl hd.last⟩
  have hRd := rounded13_any hR1 hbd.1 (by omega) (n := n) (by omega) hhi.1 hhi.2
  have hrl := rl_fits (t := n) hhi.1
  have hrn := rn_le (n := n) hhi.1
  have hrow : rw13 L N n = dg (rl L N n) (rn L N n) := rfl
  rw [hrow] at hRd
  obtain ⟨p0, p1⟩ := sd.cells
  have HR1 : Hid (N < 10 ^ L) := hhi.1
  clear hS hR hR1 hba hb1 hhi hrow
  go_wp2_with fail
  rw [← hW, ← hg]
  clear hW hg
  refine hRd.mono ?_
  rintro e w2 ⟨a2, n2, c2, rfl, hR2, hb2⟩
  have hl2 := hR2.len
  rw [dg_len] at hl2
  subst hl2
  have sd2 := sd.later hb2
  have hB2 := hB1.trans (hb2.mono hB1.size)
  obtain ⟨p0, p1⟩ := sd2.cells
  have hT := top13_any (a := some ⟨B, 0, none⟩) (c := c) (L := L) (x := x) (by omega) (by omega) (by omega) w2
  clear hRd sd hb2 hB1
  go_wp2_with fail
  refine hT.mono ?_
  rintro e w3 ⟨rfl, hb3⟩
  have hR3 := hR2.later hb3
  have hB3 := hB2.trans (hb3.mono hB2.size)
  have q1 : (L : Int) ≤ 1300 := by omega
  have q2 : -1100 ≤ x := by omega
  have q3 : x ≤ 1300 := by omega
  clear hT hR2 sd2 hb3 hB2 p0 p1
  go_wp2_with fail
  refine (hK w3).mono ?_
  rintro e w4 ⟨rfl, rfl⟩
  by_cases hA : A = 0
  · have hk : (K == 0) = true := by rw [hz]; exact decide_eq_true hA
    have hNL : N = 0 ∧ L = 1 ∧ x = 0 := by
      rcases hD with ⟨_, a, b, c⟩ | ⟨a, _⟩
      · exact ⟨a, b, c⟩
      · omega
    obtain ⟨rfl, rfl, rfl⟩ := hNL
    have hr0 : rn 1 0 n = 0 := by unfold rn; rw [if_pos h1, Nat.zero_mul]
    have hp := Nat.pow_pos (n := n) (show 0 < 10 by omega)
    have hl0 : rl 1 0 n = n := by unfold rl; rw [hr0, if_pos hp]
    rw [hr0, hl0] at hR3
    have hcv := conv8 hR3
    have HZ : Hid (Pz A n 0 0 ∧ 0 < 10 ^ n) := ⟨Or.inl ⟨hA, rfl, rfl⟩, hp⟩
    rw [hl0]
    obtain ⟨DL, hDL⟩ : ∃ DL, DL = dg n 0 := ⟨_, rfl⟩
    rw [← hDL] at hcv
    have HDL : Hid (dg n 0 = DL) := hDL.symm
    have hk0 : K = 0 := by simpa using hk
    clear hrl hrn hD hK hz hbd hr0 hp hl0 hR3 hDL hk
    subst hk0
    go_wp2
    refine bodyPost_ret (v := .tuple #[.string ⟨DL.toArray⟩, .int .i64 0, .int .i64 0]) (by simp [results, Tryz.results17, go_sem]) rfl ?_
    exact ⟨0, 0, HZ.out.1, HZ.out.2, by rw [HDL.out], hB3⟩
  · have hk : (K == 0) = false := by rw [hz]; exact decide_eq_false hA
    have hd : Dec A N L x := by
      rcases hD with ⟨a, _⟩ | ⟨_, a⟩
      · exact absurd a hA
      · exact a
    by_cases hlt : rn L N n < 10 ^ n
    · have hl0 : rl L N n = n := by unfold rl; rw [if_pos hlt]
      rw [hl0] at hR3
      have hcv := conv8 hR3
      have HZ : Hid (Pz A n (rn L N n) ((L : Int) + x - n) ∧ rn L N n < 10 ^ n) := ⟨Or.inr ⟨N, L, x, by omega, hd, Or.inl ⟨hlt, rfl, rfl⟩⟩, hlt⟩
      rw [hl0]
      obtain ⟨DL, hDL⟩ : ∃ DL, DL = dg n (rn L N n) := ⟨_, rfl⟩
      rw [← hDL] at hcv
      have HDL : Hid (dg n (rn L N n) = DL) := hDL.symm
      clear hrl hrn hD hK hz hd hlt hl0 hR3 hDL
      go_wp2
      refine bodyPost_ret (v := .tuple #[.string ⟨DL.toArray⟩, .int .i64 ((L : Int) + x - n), .int .i64 0]) (by simp [results, Tryz.results17, go_sem]) rfl ?_
      exact ⟨_, _, HZ.out.1, HZ.out.2, by rw [HDL.out], hB3⟩
    · have hl0 : rl L N n = n + 1 := by unfold rl; rw [if_neg hlt]
      have hr0 : rn L N n = 10 ^ n := by omega
      rw [hl0, hr0] at hR3
      have hC := cut13_any hR3 (n := n) (by omega)
      have h10 : (10 : Nat) ^ n / 10 ^ (n + 1 - n) = 10 ^ (n - 1) := by
        rw [Nat.add_sub_cancel_left, Nat.pow_one]
        obtain ⟨j, rfl⟩ : ∃ j, n = j + 1 := ⟨n - 1, by omega⟩
        rw [Nat.pow_succ, Nat.mul_div_cancel _ (by omega)]
        rfl
      rw [dg_take (by omega), h10] at hC
      have hlt2 : 10 ^ (n - 1) < 10 ^ n := Nat.pow_lt_pow_right (by omega) (by omega)
      have HZ : Hid (Pz A n (10 ^ (n - 1)) ((L : Int) + x - n + 1) ∧ 10 ^ (n - 1) < 10 ^ n) := ⟨Or.inr ⟨N, L, x, by omega, hd, Or.inr ⟨hr0, rfl, rfl⟩⟩, hlt2⟩
      rw [hl0]
      have q4 : ((n : Int) < ((n + 1 : Nat) : Int)) := by omega
      obtain ⟨DL, hDL⟩ : ∃ DL, DL = dg n (10 ^ (n - 1)) := ⟨_, rfl⟩
      rw [← hDL] at hC
      have HDL : Hid (dg n (10 ^ (n - 1)) = DL) := hDL.symm
      clear hrl hrn hD hK hz hd hlt hl0 hR3 hDL hr0 h10 hlt2
      go_wp2_with fail
      refine hC.mono ?_
      rintro e w5 ⟨a5, a6, rfl, r5, r6, hb5⟩
      have hB5 := hB3.trans (hb5.mono hB3.size)
      have hcv := conv8 r5
      clear hC r5 r6 hb5
      go_wp2
      refine bodyPost_ret (v := .tuple #[.string ⟨DL.toArray⟩, .int .i64 ((L : Int) + x - n + 1), .int .i64 0]) (by simp [results, Tryz.results17, go_sem]) rfl ?_
      exact ⟨_, _, HZ.out.1, HZ.out.2, by rw [HDL.out], hB5⟩
set_option maxHeartbeats 1600000 in
set_option maxRecDepth 100000 in
theorem precise_inf {b : Int} {n : Nat} (hu : U b) (hf : ef b = 2047) (h1 : 1 ≤ n) (hn : n ≤ 1100) (w : World) :
    Calls Tryz.prog 17 #[.int .u64 b, .int .i64 (n : Int)] w fun e w' => e = .returned (.tuple #[.string ⟨#[]⟩, .int .i64 0, .int .i64 60]) ∧ Below w.heap.size w w' := by
  have hS := fun w => sizeOf_inf hu hf w
  have z0 : (n : Int) ≤ 1100 := by omega
  have z1 : (1 : Int) ≤ n := by omega
  go_enter Tryz.func17, Tryz.ntmps17
  go_wp2_with fail
  refine (hS w).mono ?_
  rintro e w1 ⟨rfl, hb1⟩
  have hba := alloc_below (w := w1) (.cells #[.slice none 0 0, .int .i64 0] 62)
  have hB1 := hb1.trans (hba.mono hb1.size)
  go_wp2
  refine bodyPost_ret (v := .tuple #[.string ⟨#[]⟩, .int .i64 0, .int .i64 60]) (by simp [results, Tryz.results17, go_sem]) rfl ?_
  exact ⟨rfl, hB1⟩
set_option maxHeartbeats 1600000 in
set_option maxRecDepth 100000 in
theorem precise_bad {b n : Int} (hn : n < 1 ∨ 1100 < n) (w : World) :
    Calls Tryz.prog 17 #[.int .u64 b, .int .i64 n] w fun e w' => e = .returned (.tuple #[.string ⟨#[]⟩, .int .i64 0, .int .i64 130]) ∧ Below w.heap.size w w' := by
  rcases hn with hn | hn
  all_goals
    go_enter Tryz.func17, Tryz.ntmps17
    go_wp2
    first
      | (refine bodyPost_ret (v := .tuple #[.string ⟨#[]⟩, .int .i64 0, .int .i64 130]) (by simp [results, Tryz.results17, go_sem]) rfl ?_
         exact ⟨rfl, Below.refl _ _⟩)
set_option maxHeartbeats 1600000 in
set_option maxRecDepth 100000 in
theorem digits_inf {b : Int} (hu : U b) (hf : ef b = 2047) (w : World) :
    Calls Tryz.prog 22 #[.int .u64 b] w fun e w' => e = .returned (.tuple #[.string ⟨#[]⟩, .int .i64 0, .int .i64 60]) ∧ Below w.heap.size w w' := by
  have hS := fun w => sizeOf_inf hu hf w
  go_enter Tryz.func22, Tryz.ntmps22
  go_wp2_with fail
  refine (hS w).mono ?_
  rintro e w1 ⟨rfl, hb1⟩
  have hba := alloc_below (w := w1) (.cells #[.slice none 0 0, .int .i64 0] 62)
  have hB1 := hb1.trans (hba.mono hb1.size)
  go_wp2
  refine bodyPost_ret (v := .tuple #[.string ⟨#[]⟩, .int .i64 0, .int .i64 60]) (by simp [results, Tryz.results22, go_sem]) rfl ?_
  exact ⟨rfl, hB1⟩
end Go.Proofs.YtceecgklgkiffaaGreatDoor
