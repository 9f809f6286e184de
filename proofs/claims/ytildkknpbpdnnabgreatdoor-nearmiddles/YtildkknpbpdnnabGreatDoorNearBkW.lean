/- NearBack. -/
import Derived.Test.YtildkknpbpdnnabGreatDoorNearH
import Derived.Test.YtildkknpbpdnnabGreatDoorNearR
import Derived.Test.YtildkknpbpdnnabGreatDoorNearF
import Derived.Test.YtildkknpbpdnnabGreatDoorRatG
namespace Go.Proofs.YtildkknpbpdnnabGreatDoor
open Go.ChangeShapes Go.WideShapes Go.ChangeAt Go.RowKit
open Na Ar
set_option linter.unusedVariables false
namespace Na
theorem ordR_self (p : Rat) : ordR p p = 0 := by
  unfold ordR
  rw [if_neg Rat.lt_irrefl, if_pos rfl]
theorem valR_neg {b : Int} (h : U b) (hf : ef b ≠ 2047) : valR b + valR (negW b) = ((0 : Int) : Rat) := by
  have e1 : spM (negW b) = spM b := by unfold spM; rw [ef_negW h, fr_negW h]
  have e3 : spX (negW b) = spX b := by unfold spX; rw [ef_negW h]
  have e4 : spS (negW b) = !spS b := by
    unfold spS; rw [ef_negW h, if_neg hf, if_neg hf]
    unfold U at h
    unfold negW
    rw [Bool.eq_iff_iff]
    simp
    split <;> omega
  unfold valR
  rw [e1, e3, e4]
  unfold mkR
  have s : sg (!spS b) (spM b * e2 (spX b)) = -(sg (spS b) (spM b * e2 (spX b))) := by
    unfold sg
    cases spS b <;> simp
  rw [s, ← Rat.neg_mkRat, Rat.add_neg_cancel]
  rfl
theorem sgn_zero : sgnR ((0 : Int) : Rat) = 0 := rfl
theorem fin_size {b : Int} (h : U b) (hf : ef b ≠ 2047) : 0 ≤ mg b ∧ mg b ≤ mostP ∧ numW (mg b) = numW b := by
  have b1 := mg_bd b
  have b2 := mg_parts b
  have b3 := ef_bd b
  have b4 := fr_bd b
  have l : mg b ≤ mostP := by unfold mostP; omega
  obtain ⟨u1, f1, m1⟩ := size_fin b1.1 l
  exact ⟨b1.1, l, (num_ord u1 h f1 hf).2 m1⟩
theorem want_is {b : Int} (h : U b) (hf : ef b ≠ 2047) : mg b + sgB (decide ((valR b).num < 0)) = wantB b := by
  obtain ⟨p, e1, e2', e3, e4, e5, e6, e7⟩ := num_parts h hf
  have pp := pat_parts h hf
  by_cases hz : spM b = 0
  · have q : valR b = ((0 : Int) : Rat) := by rw [binQ_val, hz, binQ_zero]
    have hm : mg b = 0 := by omega
    rw [q, hm]
    unfold wantB
    unfold mg at hm
    unfold U at h
    show (0 : Int) + 0 = _
    split <;> omega
  · obtain ⟨K, o, hmo, ho2, ho0, hzn, hdv⟩ := two_form (M := spM b) (by omega)
    have q : valR b = binQ (spS b) o (spX b + K) := by rw [binQ_val, hmo]; exact binQ_move _ (by omega) K _
    obtain ⟨a1, a2, a3⟩ := binQ_odd ho2 ho0 (spS b) (spX b + K)
    rw [q, a3]
    unfold wantB
    rw [if_neg]
    · omega
    · intro r
      have : mg b = 0 := by rw [r]; rfl
      omega
theorem round_val {b v E mode : Int} {s : Bool} (h : U b) (hf : ef b ≠ 2047) (hs : s = decide ((valR b).num < 0)) (hr : RoundIs (scA ((valR b).num.natAbs : Int) 0) (scB ((valR b).den : Int) 0) false s mode v E) : v = wantB b ∧ E = 0 := by
  obtain ⟨f1, f2, f3⟩ := fin_size h hf
  have pD : (0 : Int) < ((valR b).den : Int) := by have := (valR b).den_pos; omega
  have pB : 0 < scB ((valR b).den : Int) 0 := by unfold scB; exact Int.mul_pos pD (e2_pos _)
  have eq : scA ((valR b).num.natAbs : Int) 0 = numW (mg b) * scB ((valR b).den : Int) 0 := by
    rw [f3]
    unfold scA scB
    rw [e2_zero (show -(0 + 1074 : Int) ≤ 0 by omega), Int.mul_one, Int.zero_add]
    have nn : 0 ≤ numW b := by rw [← f3]; exact num_nonneg' f1 f2
    have p1 := e2_pos 1074
    have c := mkR_cross (spS b) nn p1
    rw [← valR_num h hf] at c
    have c2 := congrArg (fun z : Int => (z.natAbs : Int)) c
    simp only [Int.natAbs_mul, Int.natCast_mul] at c2
    rw [sg_abs _ nn] at c2
    have q1 : ((e2 1074).natAbs : Int) = e2 1074 := by omega
    rw [q1] at c2
    rw [c2]
    simp
  have rs := round_self (neg := s) (mode := mode) pB f1 f2 eq
  have u := roundIs_uniq pB hr rs
  rw [u.1, hs, want_is h hf]
  exact ⟨rfl, u.2⟩
end Na
set_option maxHeartbeats 3200000 in
set_option maxRecDepth 100000 in
theorem back_inf {b : Int} (hu : U b) (hf : ef b = 2047) (w : World) :
    Calls Tryz.prog 3 #[.int .u64 b] w fun e w' => e = .returned (.bool true) ∧ Below w.heap.size w w' := by
  have f1 := fun w => nearValue_inf hu hf w
  have f2 := fun w => value7_inf hu hf w
  have f3 := fun w => nearMid_inf hu hf w
  have hc := fun w => f6Class_any hu w
  obtain ⟨C, hC⟩ : ∃ C, C = clsW b := ⟨_, rfl⟩
  have hC2 : decide (C > 2) = true := by rw [hC]; rcases cls_of b with ⟨_, h, _⟩ | ⟨h, _⟩ | ⟨h, _⟩ <;> first | exact absurd hf h | (rcases h with h | h <;> rw [h] <;> decide)
  have hC3 : decide (2 < C) = true := hC2
  rw [← hC] at hc
  clear hC hf
  go_enter Tryz.func3, Tryz.ntmps3
  go_wp2_with fail
  refine (f1 _).mono ?_
  rintro e w1 ⟨rfl, hB⟩
  have hal := alloc_below (w := w1) (.cells #[.bool false, .slice none 0 0, .slice none 0 0] 25)
  have t1 := st_new w1 (.bool false) (.slice none 0 0) (.slice none 0 0) 25
  have hB := hB.trans (hal.mono hB.size)
  clear hal f1
  go_wp2_with fail
  obtain ⟨g, hg⟩ : ∃ g, g = w1.heap.size := ⟨_, rfl⟩
  rw [← hg] at t1
  rw [← hg]
  generalize w1.alloc (.cells #[.bool false, .slice none 0 0, .slice none 0 0] 25) = w2 at *
  clear hg
  refine (f2 _).mono ?_
  rintro e w3 ⟨rfl, hb⟩
  have hB := hB.trans (hb.mono hB.size)
  have t1 := t1.later hb
  have hal := alloc_below (w := w3) (.cells #[.bool false, .slice none 0 0, .slice none 0 0] 25)
  have hB := hB.trans (hal.mono hB.size)
  have t1 := t1.later hal
  clear hal hb f2
  go_wp2_with fail
  generalize w3.alloc (.cells #[.bool false, .slice none 0 0, .slice none 0 0] 25) = w4 at *
  refine (hc _).mono ?_
  rintro e w5 ⟨rfl, rfl⟩
  go_wp2_with fail
  refine (f3 _).mono ?_
  rintro e w5 ⟨rfl, hb⟩
  have hB := hB.trans (hb.mono hB.size)
  have t1 := t1.later hb
  have hal := alloc_below (w := w5) (.cells #[.bool false, .slice none 0 0, .slice none 0 0] 25)
  have hB := hB.trans (hal.mono hB.size)
  have t2 := t1.later hal
  have lt := t1.lt
  obtain ⟨x0, x1, x2⟩ := t2.cells
  clear hal hb f3 t1
  go_wp2_with (go_at_call 10; refine (num7_same _ _).mono ?_; rintro e wz ⟨rfl, rfl⟩)
  go_ret
  exact ⟨rfl, hB⟩
set_option maxHeartbeats 6400000 in
set_option maxRecDepth 100000 in
theorem back_fin {b : Int} (hu : U b) (hf : ef b ≠ 2047) {w : World} (hG : GrVar w) :
    Calls Tryz.prog 3 #[.int .u64 b] w fun e w' => e = .returned (.bool true) ∧ Below w.heap.size w w' := by
  have f1 := fun w => nearValue_fin hu hf w
  have f2 := fun w => value7_any hu hf w
  have f3 := fun w => nearValue_fin (U_negW hu) (by rw [ef_negW hu]; exact hf) w
  have zV := value_size hu hf
  have zN := value_size (U_negW hu) (show ef (negW b) ≠ 2047 by rw [ef_negW hu]; exact hf)
  have vn := valR_neg hu hf
  have hX := fun {w s a n c b' m d} => nearExact_val (w := w) (s := s) (a := a) (n := n) (c := c) (b' := b') (m := m) (d := d) hu hf
  have hRd := fun {v E mode s} => round_val (b := b) (v := v) (E := E) (mode := mode) (s := s) hu hf
  have hc := fun w => f6Class_any hu w
  have sx := sign_xor hu
  obtain ⟨C, hC⟩ : ∃ C, C = clsW b := ⟨_, rfl⟩
  have hC2 : decide (C > 2) = false := by rw [hC]; rcases cls_of b with ⟨h, _⟩ | ⟨_, h, _⟩ | ⟨_, h, _⟩ <;> first | exact absurd h hf | (rcases h with h | h <;> rw [h] <;> decide) | (rw [h]; decide)
  have hC3 : decide (2 < C) = false := hC2
  rw [← hC] at hc
  obtain ⟨W, hW, hW2⟩ : ∃ W, wantB b = W ∧ (((b == 9223372036854775808) = true ∧ W = 0) ∨ ((b == 9223372036854775808) = false ∧ W = b)) := by
    refine ⟨_, rfl, ?_⟩
    unfold wantB
    by_cases q : b = 9223372036854775808
    · exact Or.inl ⟨beq_of q, if_pos q⟩
    · exact Or.inr ⟨beq_no q, if_neg q⟩
  rw [hW] at hX hRd
  generalize valR b = V at *
  generalize valR (negW b) = V' at *
  clear hC hW hf
  generalize negW b = nb at *
  go_enter Tryz.func3, Tryz.ntmps3
  go_wp2_with fail
  refine (f1 _).mono ?_
  rintro e w1 ⟨s1, u1, u2, rfl, R1, hB⟩
  obtain ⟨a1, n1, c1, b1, m1, d1, rfl, rfl, Q1⟩ := R1.opens
  have hal := alloc_below (w := w1) (.cells #[.bool s1, .slice a1 n1 c1, .slice b1 m1 d1] 25)
  have t1 := st_new w1 (.bool s1) (.slice a1 n1 c1) (.slice b1 m1 d1) 25
  have G1 := (hG.later hB).later hal
  have hB := hB.trans (hal.mono hB.size)
  have Q1 := Q1.later hal
  clear hal f1 R1 hG
  go_wp2_with fail
  obtain ⟨g, hg⟩ : ∃ g, g = w1.heap.size := ⟨_, rfl⟩
  rw [← hg] at t1
  rw [← hg]
  generalize w1.alloc (.cells #[.bool s1, .slice a1 n1 c1, .slice b1 m1 d1] 25) = w2 at *
  clear hg
  refine (f2 _).mono ?_
  rintro e w3 ⟨s2, u1, u2, rfl, R2, _, hb⟩
  obtain ⟨a2, n2, c2, b2, m2, d2, rfl, rfl, Q2⟩ := R2.opens
  have hB := hB.trans (hb.mono hB.size)
  have t1 := t1.later hb
  have Q1 := Q1.later hb
  have G1 := G1.later hb
  have hal := alloc_below (w := w3) (.cells #[.bool s2, .slice a2 n2 c2, .slice b2 m2 d2] 25)
  have t2 := st_new w3 (.bool s2) (.slice a2 n2 c2) (.slice b2 m2 d2) 25
  have hB := hB.trans (hal.mono hB.size)
  have lt := t1.lt
  have t1 := t1.later hal
  have Q1 := Q1.later hal
  have Q2 := Q2.later hal
  have G1 := G1.later hal
  clear hal hb f2 R2
  go_wp2_with fail
  obtain ⟨g2, hg2⟩ : ∃ g2, g2 = w3.heap.size := ⟨_, rfl⟩
  rw [← hg2] at t2 lt
  rw [← hg2]
  generalize w3.alloc (.cells #[.bool s2, .slice a2 n2 c2, .slice b2 m2 d2] 25) = w4 at *
  clear hg2
  refine (hc _).mono ?_
  rintro e w5 ⟨rfl, rfl⟩
  obtain ⟨x0, x1, x2⟩ := t1.cells
  obtain ⟨y0, y1, y2⟩ := t2.cells
  have hCm := cmp7_any Q1 Q2 zV zV (by omega) (ordR_self V)
  clear hc
  go_wp2_with (go_at_call 10; refine (num7_same _ _).mono ?_; rintro e wz ⟨rfl, rfl⟩)
  refine hCm.mono ?_
  rintro e w5 ⟨rfl, hb⟩
  have hB := hB.trans (hb.mono hB.size)
  have t1 := t1.later hb
  have Q1 := Q1.later hb
  have G1 := G1.later hb
  have hfx := fixed_any G1
  clear hb hCm x0 x1 x2 y0 y1 y2 t2 Q2
  go_wp2_with fail
  refine hfx.mono ?_
  rintro e w6 ⟨rfl, hb⟩
  have hB := hB.trans (hb.mono hB.size)
  have t1 := t1.later hb
  have Q1 := Q1.later hb
  have G1 := G1.later hb
  clear hb hfx
  go_wp2_with fail
  refine (f3 _).mono ?_
  rintro e w7 ⟨s3, u1, u2, rfl, R3, hb⟩
  obtain ⟨a3, n3, c3, b3, m3, d3, rfl, rfl, Q3⟩ := R3.opens
  have hB := hB.trans (hb.mono hB.size)
  have t1 := t1.later hb
  have Q1 := Q1.later hb
  have G1 := G1.later hb
  have hal := alloc_below (w := w7) (.cells #[.bool s3, .slice a3 n3 c3, .slice b3 m3 d3] 25)
  have t3 := st_new w7 (.bool s3) (.slice a3 n3 c3) (.slice b3 m3 d3) 25
  have hB := hB.trans (hal.mono hB.size)
  have lt := t1.lt
  have t1 := t1.later hal
  have Q1 := Q1.later hal
  have Q3 := Q3.later hal
  have G1 := G1.later hal
  obtain ⟨x0, x1, x2⟩ := t1.cells
  have hA := rAdd_ok Q1 Q3 zV zN (by omega)
  rw [vn] at hA
  clear hal hb f3 R3
  go_wp2_with fail
  obtain ⟨g3, hg3⟩ : ∃ g3, g3 = w7.heap.size := ⟨_, rfl⟩
  rw [← hg3] at t3 lt
  rw [← hg3]
  generalize w7.alloc (.cells #[.bool s3, .slice a3 n3 c3, .slice b3 m3 d3] 25) = w8 at *
  clear hg3
  refine hA.mono ?_
  rintro e w9 ⟨s4, u1, u2, rfl, R4, z4, hb⟩
  obtain ⟨a4, n4, c4, b4, m4, d4, rfl, rfl, Q4⟩ := R4.opens
  have hB := hB.trans (hb.mono hB.size)
  have t1 := t1.later hb
  have Q1 := Q1.later hb
  have G1 := G1.later hb
  have hal := alloc_below (w := w9) (.cells #[.bool s4, .slice a4 n4 c4, .slice b4 m4 d4] 25)
  have t4 := st_new w9 (.bool s4) (.slice a4 n4 c4) (.slice b4 m4 d4) 25
  have hB := hB.trans (hal.mono hB.size)
  have lt := t1.lt
  have t1 := t1.later hal
  have Q1 := Q1.later hal
  have Q4 := Q4.later hal
  have G1 := G1.later hal
  have l4 := Q4.le z4
  have hS := rSign_any Q4 (by omega) sgn_zero
  clear hal hb hA R4 t3 Q3 x0 x1 x2
  go_wp2_with (go_at_call 10; refine (num7_same _ _).mono ?_; rintro e wz ⟨rfl, rfl⟩)
  obtain ⟨g4, hg4⟩ : ∃ g4, g4 = w9.heap.size := ⟨_, rfl⟩
  rw [← hg4] at t4 lt
  rw [← hg4]
  generalize w9.alloc (.cells #[.bool s4, .slice a4 n4 c4, .slice b4 m4 d4] 25) = w10 at *
  clear hg4
  refine hS.mono ?_
  rintro e w11 ⟨rfl, hb⟩
  have hB := hB.trans (hb.mono hB.size)
  have t1 := t1.later hb
  have Q1 := Q1.later hb
  have G1 := G1.later hb
  have hs := Q1.sgn
  have HS : Hid (s1 = decide (V.num < 0)) := hs
  clear hs hb hS t4 Q4 z4 l4 vn zN
  rcases hW2 with ⟨hb0, rfl⟩ | ⟨hb0, rfl⟩
  all_goals
    go_wp2
    go_loopw [14] (fun mv wr => ∃ j : Nat, mv = .int .i64 j ∧ j ≤ 5 ∧ Below w11.heap.size w11 wr) (fun mv _ => 5 - (intOf mv).toNat)
    case atStart => exact ⟨0, rfl, by omega, Below.refl _ _⟩
    case round =>
      obtain ⟨j, rfl, hj, hnx⟩ := hrel
      have t5 := t1.later hnx
      have Q5 := Q1.later hnx
      have G5 := G1.later hnx
      have HB5 := hB.trans (hnx.mono hB.size)
      obtain ⟨x0, x1, x2⟩ := t5.cells
      by_cases hj4 : j ≤ 4
      · have hR1 := nearRat_ok (mode := (j : Int)) Q5 zV (by omega) (by omega) (by omega) G5
        have dj : decide ((j : Int) ≤ 4) = true := by simp; omega
        go_wp2_with fail
        refine hR1.mono ?_
        rintro e wa ⟨vx, Ex, rfl, hx, ux, ba⟩
        obtain ⟨rfl, rfl⟩ := hRd HS.out hx
        have hb9 := hnx.trans (ba.mono hnx.size)
        clear x0 x1 x2 hR1 hx ux t5 Q5 G5 HB5 ba
        go_wp2_with (go_at_call 10; refine (num7_same _ _).mono ?_; rintro e wz ⟨rfl, rfl⟩)
        go_roundw
        case rel => exact ⟨j + 1, by go_num, by omega, hb9⟩
        case measure => simp [intOf]; omega
      · have hj5 : j = 5 := by omega
        subst hj5
        have hE := hX Q5
        go_wp2_with fail
        refine hE.mono ?_
        rintro e wa ⟨rfl, ba⟩
        have hb9 := HB5.trans (ba.mono HB5.size)
        clear hE x0 x1 x2
        go_wp2
        go_ret
        exact ⟨by simp, hb9⟩
theorem back_walk {b : Int} {w : World} (hb : 0 ≤ b ∧ b < 18446744073709551616) (hG : GrVar w) :
    Calls Tryz.prog 3 #[.int .u64 b] w fun e w' => e = .returned (.bool true) ∧ Below w.heap.size w w' := by
  have hu : U b := hb
  by_cases hf : ef b = 2047
  · exact back_inf hu hf w
  · exact back_fin hu hf hG
end Go.Proofs.YtildkknpbpdnnabGreatDoor
