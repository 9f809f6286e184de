/- plumblaw22: PredSteps' walk (written by genpdr.py). -/
import Derived.Test.YtbonkgmcpjaepaaPdP
import Derived.Test.YtbonkgmcpjaepaaPdQa
namespace Go.Proofs.Ytbonkgmcpjaepaa
open Go.ChangeShapes Go.WideShapes Go.ChangeAt Go.RowKit
open Na Ar
set_option linter.unusedVariables false
theorem size_andNot {b : Int} (h : U b) : bits .andNot .u64 b 9223372036854775808 = mg b := by
  rw [andNot_and h (by unfold U; omega)]
  unfold U at h
  rw [u64_and _ _ (by omega) (by omega) (by omega) (by omega)]
  have : (b.toNat &&& (18446744073709551615 - 9223372036854775808 : Int).toNat) = b.toNat % 9223372036854775808 := Nat.and_two_pow_sub_one_eq_mod _ 63
  rw [this]; unfold mg; omega
theorem pb_four4 (w : World) (A B C D : Array Value) (t : TypeId) : Pb ((((w.alloc (.cells A t)).alloc (.cells B t)).alloc (.cells C t)).alloc (.cells D t)) w.heap.size t A ∧ Pb ((((w.alloc (.cells A t)).alloc (.cells B t)).alloc (.cells C t)).alloc (.cells D t)) (w.heap.size + 1) t B ∧ Pb ((((w.alloc (.cells A t)).alloc (.cells B t)).alloc (.cells C t)).alloc (.cells D t)) (w.heap.size + 1 + 1) t C ∧ Pb ((((w.alloc (.cells A t)).alloc (.cells B t)).alloc (.cells C t)).alloc (.cells D t)) (w.heap.size + 1 + 1 + 1) t D ∧ Below w.heap.size w ((((w.alloc (.cells A t)).alloc (.cells B t)).alloc (.cells C t)).alloc (.cells D t)) := by
  obtain ⟨p1, p2, p3, b, e⟩ := pb_three w A B C t (t2 := t) (t3 := t)
  have b4 := alloc_below (w := ((w.alloc (.cells A t)).alloc (.cells B t)).alloc (.cells C t)) (.cells D t)
  have p4 := Pb.new (((w.alloc (.cells A t)).alloc (.cells B t)).alloc (.cells C t)) t D
  rw [e] at p4
  exact ⟨p1.later b4, p2.later b4, p3.later b4, p4, b.trans (b4.mono b.size)⟩
theorem two_cells {w : World} {g : Nat} {t : TypeId} {y0 y1 : Value} (h : Pb w g t #[y0, y1]) : w.cell? ⟨g, 0, none⟩ = some y0 ∧ w.cell? ⟨g, 1, none⟩ = some y1 := ⟨h.cell 0 rfl, h.cell 1 rfl⟩
set_option maxHeartbeats 12800000 in
set_option maxRecDepth 100000 in
theorem steps_go {b y Y : Int} (hm : bits .andNot .u64 b 9223372036854775808 = y) (hY : y - 1 = Y) (h1 : 1 ≤ y) (h2 : y ≤ mostP) (w : World) :
    Calls Try.prog 4 #[.int .u64 b] w fun e w' => e = .returned (.bool true) ∧ Below w.heap.size w w' := by
  obtain ⟨v0, v1, v2⟩ := step_vals h1 h2
  obtain ⟨q1, q2, q3, q4, q5, q6, q7, q8, q9, q10⟩ := steps_facts v0 v1
  rw [hY] at v2 q1 q2 q3 q4 q5 q6 q7 q10
  have s0 := size_fin (p := 0) (by omega) (by unfold mostP; omega)
  have sy := size_fin (p := y) (by omega) h2
  have sY := size_fin (p := Y) (by omega) (by omega)
  have he := field_and sy.1
  have hE : ¬ ef y = 2047 := sy.2.1
  have uo := u2_of s0.1 s0.1
  have fo : fin2 (0, 0) := ⟨s0.2.1, s0.2.1⟩
  have up := u2_of sy.1 sy.1
  have fp : fin2 (y, y) := ⟨sy.2.1, sy.2.1⟩
  have ul := u2_of sY.1 sy.1
  have fl : fin2 (Y, y) := ⟨sY.2.1, sy.2.1⟩
  have ur := u2_of sy.1 sY.1
  have fr : fin2 (y, Y) := ⟨sy.2.1, sY.2.1⟩
  have uxb := u2_of sy.1 s0.1
  have fxb : fin2 (y, 0) := ⟨sy.2.1, s0.2.1⟩
  have uyb := u2_of s0.1 sy.1
  have fyb : fin2 (0, y) := ⟨s0.2.1, sy.2.1⟩
  have cN := HL.mk (fun (w : World) => (show Calls Try.prog 7 #[.agg #[.int .u64 0, .int .u64 0], .agg #[.int .u64 y, .int .u64 y], .agg #[.int .u64 Y, .int .u64 y]] w fun e w' => e = .returned (.tuple #[.int .i64 1, .int .i64 0]) ∧ Below w.heap.size w w' from by
    have h : Calls Try.prog 7 #[.agg #[.int .u64 0, .int .u64 0], .agg #[.int .u64 y, .int .u64 y], .agg #[.int .u64 Y, .int .u64 y]] w fun e w' => e = .returned (.tuple #[.int .i64 (sgnR (crR (valR 0) (valR 0) (valR y) (valR y) (valR Y) (valR y))), .int .i64 0]) ∧ Below w.heap.size w w' := Orient22_fin (a := (0, 0)) (b := (y, y)) (c := (Y, y)) uo up ul fo fp fl
    rw [valR_zero] at h
    rw [q1] at h
    exact h))
  have cM := HL.mk (fun (w : World) => (show Calls Try.prog 7 #[.agg #[.int .u64 0, .int .u64 0], .agg #[.int .u64 y, .int .u64 y], .agg #[.int .u64 y, .int .u64 Y]] w fun e w' => e = .returned (.tuple #[.int .i64 (-1), .int .i64 0]) ∧ Below w.heap.size w w' from by
    have h : Calls Try.prog 7 #[.agg #[.int .u64 0, .int .u64 0], .agg #[.int .u64 y, .int .u64 y], .agg #[.int .u64 y, .int .u64 Y]] w fun e w' => e = .returned (.tuple #[.int .i64 (sgnR (crR (valR 0) (valR 0) (valR y) (valR y) (valR y) (valR Y))), .int .i64 0]) ∧ Below w.heap.size w w' := Orient22_fin (a := (0, 0)) (b := (y, y)) (c := (y, Y)) uo up ur fo fp fr
    rw [valR_zero] at h
    rw [q2] at h
    exact h))
  have cI := HL.mk (fun (w : World) => (show Calls Try.prog 13 #[.agg #[.int .u64 0, .int .u64 0], .agg #[.int .u64 Y, .int .u64 y], .agg #[.int .u64 0, .int .u64 0], .agg #[.int .u64 y, .int .u64 y]] w fun e w' => e = .returned (.tuple #[.int .i64 (-1), .int .i64 0]) ∧ Below w.heap.size w w' from by
    have h : Calls Try.prog 13 #[.agg #[.int .u64 0, .int .u64 0], .agg #[.int .u64 Y, .int .u64 y], .agg #[.int .u64 0, .int .u64 0], .agg #[.int .u64 y, .int .u64 y]] w fun e w' => e = .returned (.tuple #[.int .i64 (ordR (sqR (valR 0) (valR 0) (valR Y) (valR y)) (sqR (valR 0) (valR 0) (valR y) (valR y))), .int .i64 0]) ∧ Below w.heap.size w w' := Nearer22_fin (a := (0, 0)) (b := (Y, y)) (c := (0, 0)) (d := (y, y)) uo ul uo up fo fl fo fp
    rw [valR_zero] at h
    rw [q3] at h
    exact h))
  have cJ := HL.mk (fun (w : World) => (show Calls Try.prog 13 #[.agg #[.int .u64 0, .int .u64 0], .agg #[.int .u64 Y, .int .u64 y], .agg #[.int .u64 0, .int .u64 0], .agg #[.int .u64 y, .int .u64 Y]] w fun e w' => e = .returned (.tuple #[.int .i64 0, .int .i64 0]) ∧ Below w.heap.size w w' from by
    have h : Calls Try.prog 13 #[.agg #[.int .u64 0, .int .u64 0], .agg #[.int .u64 Y, .int .u64 y], .agg #[.int .u64 0, .int .u64 0], .agg #[.int .u64 y, .int .u64 Y]] w fun e w' => e = .returned (.tuple #[.int .i64 (ordR (sqR (valR 0) (valR 0) (valR Y) (valR y)) (sqR (valR 0) (valR 0) (valR y) (valR Y))), .int .i64 0]) ∧ Below w.heap.size w w' := Nearer22_fin (a := (0, 0)) (b := (Y, y)) (c := (0, 0)) (d := (y, Y)) uo ul uo ur fo fl fo fr
    rw [valR_zero] at h
    rw [q4] at h
    exact h))
  have cK := HL.mk (fun (w : World) => (show Calls Try.prog 14 #[.agg #[.int .u64 Y, .int .u64 y], .agg #[.int .u64 y, .int .u64 y]] w fun e w' => e = .returned (.tuple #[.int .i64 (-1), .int .i64 0]) ∧ Below w.heap.size w w' from by
    have h : Calls Try.prog 14 #[.agg #[.int .u64 Y, .int .u64 y], .agg #[.int .u64 y, .int .u64 y]] w fun e w' => e = .returned (.tuple #[.int .i64 (ordS (valR Y) (valR y) (valR y) (valR y)), .int .i64 0]) ∧ Below w.heap.size w w' := Order22_fin (a := (Y, y)) (b := (y, y)) ul up fl fp
    skip
    rw [q5] at h
    exact h))
  have cH := HL.mk (fun (w : World) => (show Calls Try.prog 14 #[.agg #[.int .u64 y, .int .u64 Y], .agg #[.int .u64 y, .int .u64 y]] w fun e w' => e = .returned (.tuple #[.int .i64 (-1), .int .i64 0]) ∧ Below w.heap.size w w' from by
    have h : Calls Try.prog 14 #[.agg #[.int .u64 y, .int .u64 Y], .agg #[.int .u64 y, .int .u64 y]] w fun e w' => e = .returned (.tuple #[.int .i64 (ordS (valR y) (valR Y) (valR y) (valR y)), .int .i64 0]) ∧ Below w.heap.size w w' := Order22_fin (a := (y, Y)) (b := (y, y)) ur up fr fp
    skip
    rw [q6] at h
    exact h))
  have cB := HL.mk (fun (w : World) => (show Calls Try.prog 15 #[.agg #[.int .u64 0, .int .u64 0], .agg #[.int .u64 y, .int .u64 y], .agg #[.int .u64 Y, .int .u64 y]] w fun e w' => e = .returned (.tuple #[.bool false, .int .i64 0]) ∧ Below w.heap.size w w' from by
    have h : Calls Try.prog 15 #[.agg #[.int .u64 0, .int .u64 0], .agg #[.int .u64 y, .int .u64 y], .agg #[.int .u64 Y, .int .u64 y]] w fun e w' => e = .returned (.tuple #[.bool (decide (0 ≤ ordS (valR 0) (valR 0) (valR Y) (valR y) * ordS (valR Y) (valR y) (valR y) (valR y)) && decide (sgnR (crR (valR 0) (valR 0) (valR y) (valR y) (valR Y) (valR y)) = 0)), .int .i64 0]) ∧ Below w.heap.size w w' := Between22_fin (a := (0, 0)) (b := (y, y)) (c := (Y, y)) uo up ul fo fp fl
    rw [valR_zero] at h
    rw [q7] at h
    exact h))
  have cW := HL.mk (fun (w : World) => (show Calls Try.prog 15 #[.agg #[.int .u64 0, .int .u64 0], .agg #[.int .u64 y, .int .u64 y], .agg #[.int .u64 y, .int .u64 y]] w fun e w' => e = .returned (.tuple #[.bool true, .int .i64 0]) ∧ Below w.heap.size w w' from by
    have h : Calls Try.prog 15 #[.agg #[.int .u64 0, .int .u64 0], .agg #[.int .u64 y, .int .u64 y], .agg #[.int .u64 y, .int .u64 y]] w fun e w' => e = .returned (.tuple #[.bool (decide (0 ≤ ordS (valR 0) (valR 0) (valR y) (valR y) * ordS (valR y) (valR y) (valR y) (valR y)) && decide (sgnR (crR (valR 0) (valR 0) (valR y) (valR y) (valR y) (valR y)) = 0)), .int .i64 0]) ∧ Below w.heap.size w w' := Between22_fin (a := (0, 0)) (b := (y, y)) (c := (y, y)) uo up up fo fp fp
    rw [valR_zero] at h
    rw [q8] at h
    exact h))
  have cC := HL.mk (fun (w : World) => (show Calls Try.prog 8 #[.agg #[.int .u64 0, .int .u64 0], .agg #[.int .u64 y, .int .u64 0], .agg #[.int .u64 0, .int .u64 y], .agg #[.int .u64 y, .int .u64 y]] w fun e w' => e = .returned (.tuple #[.int .i64 0, .int .i64 0]) ∧ Below w.heap.size w w' from by
    have h : Calls Try.prog 8 #[.agg #[.int .u64 0, .int .u64 0], .agg #[.int .u64 y, .int .u64 0], .agg #[.int .u64 0, .int .u64 y], .agg #[.int .u64 y, .int .u64 y]] w fun e w' => e = .returned (.tuple #[.int .i64 (sgnR (inR (valR 0) (valR 0) (valR y) (valR 0) (valR 0) (valR y) (valR y) (valR y))), .int .i64 0]) ∧ Below w.heap.size w w' := InCircle22_fin (a := (0, 0)) (b := (y, 0)) (c := (0, y)) (d := (y, y)) uo uxb uyb up fo fxb fyb fp
    rw [valR_zero] at h
    rw [q9] at h
    exact h))
  obtain ⟨D, hD, hD0⟩ : ∃ D : Int, sgnR (inR 0 0 (valR y) 0 0 (valR y) (valR Y) (valR y)) = D ∧ (D = if y = 1 then 0 else 1) := ⟨_, q10, by by_cases e : y = 1 <;> simp [v2, e]⟩
  have cD := HL.mk (fun (w : World) => (show Calls Try.prog 8 #[.agg #[.int .u64 0, .int .u64 0], .agg #[.int .u64 y, .int .u64 0], .agg #[.int .u64 0, .int .u64 y], .agg #[.int .u64 Y, .int .u64 y]] w fun e w' => e = .returned (.tuple #[.int .i64 D, .int .i64 0]) ∧ Below w.heap.size w w' from by
    have h : Calls Try.prog 8 #[.agg #[.int .u64 0, .int .u64 0], .agg #[.int .u64 y, .int .u64 0], .agg #[.int .u64 0, .int .u64 y], .agg #[.int .u64 Y, .int .u64 y]] w fun e w' => e = .returned (.tuple #[.int .i64 (sgnR (inR (valR 0) (valR 0) (valR y) (valR 0) (valR 0) (valR y) (valR Y) (valR y))), .int .i64 0]) ∧ Below w.heap.size w w' := InCircle22_fin (a := (0, 0)) (b := (y, 0)) (c := (0, y)) (d := (Y, y)) uo uxb uyb ul fo fxb fyb fl
    rw [valR_zero] at h
    rw [hD] at h
    exact h))
  have tE : (ef y == 2047) = false := beq_no hE
  have tz : (y == 0) = false := beq_no (by omega)
  have y9 : y ≤ 9223372036854775807 := by unfold mostP at h2; omega
  clear v0 v1 v2 q1 q2 q3 q4 q5 q6 q7 q8 q9 q10 s0 sy sY hE hD
  clear uo up ul ur uxb uyb fo fp fl fr fxb fyb
  have FX := HL.mk fixed22_any
  generalize ef y = E at *
  go_enter Try.func4, Try.ntmps4
  go_wp2_with fail
  refine (FX.out w).mono ?_
  rintro e w1 ⟨rfl, hb1⟩
  obtain ⟨p1, p2, p3, p4, hb0⟩ := pb_four4 w1 #[.int .u64 0, .int .u64 0] #[.int .u64 y, .int .u64 y] #[.int .u64 Y, .int .u64 y] #[.int .u64 y, .int .u64 Y] 24
  obtain ⟨w2, hw2⟩ : ∃ w2, w2 = (((w1.alloc (.cells #[.int .u64 0, .int .u64 0] 24)).alloc (.cells #[.int .u64 y, .int .u64 y] 24)).alloc (.cells #[.int .u64 Y, .int .u64 y] 24)).alloc (.cells #[.int .u64 y, .int .u64 Y] 24) := ⟨_, rfl⟩
  rw [← hw2] at p1 p2 p3 p4 hb0
  obtain ⟨g, hg⟩ : ∃ g, g = w1.heap.size := ⟨_, rfl⟩
  have HG : Hid (w1.heap.size = g) := hg.symm
  rw [← hg] at p1 p2 p3 p4
  have B2 := hb1.trans (hb0.mono hb1.size)
  obtain ⟨a0, a1⟩ := two_cells p1
  obtain ⟨a2, a3⟩ := two_cells p2
  obtain ⟨a4, a5⟩ := two_cells p3
  obtain ⟨a6, a7⟩ := two_cells p4
  clear hg FX hb0 hb1
  go_wp2_with fail
  rw [← hw2, HG.out]
  clear hw2
  refine (cN.out w2).mono ?_
  rintro e w3 ⟨rfl, hb3⟩
  have B3 := B2.trans (hb3.mono B2.size)
  replace p1 := p1.later hb3
  replace p2 := p2.later hb3
  replace p3 := p3.later hb3
  replace p4 := p4.later hb3
  obtain ⟨a0, a1⟩ := two_cells p1
  obtain ⟨a2, a3⟩ := two_cells p2
  obtain ⟨a4, a5⟩ := two_cells p3
  obtain ⟨a6, a7⟩ := two_cells p4
  clear cN hb3 B2
  go_wp2_with fail
  refine (cM.out w3).mono ?_
  rintro e w4 ⟨rfl, hb4⟩
  have B4 := B3.trans (hb4.mono B3.size)
  replace p1 := p1.later hb4
  replace p2 := p2.later hb4
  replace p3 := p3.later hb4
  replace p4 := p4.later hb4
  obtain ⟨a0, a1⟩ := two_cells p1
  obtain ⟨a2, a3⟩ := two_cells p2
  obtain ⟨a4, a5⟩ := two_cells p3
  obtain ⟨a6, a7⟩ := two_cells p4
  clear cM hb4 B3
  go_wp2_with fail
  refine (cI.out w4).mono ?_
  rintro e w5 ⟨rfl, hb5⟩
  have B5 := B4.trans (hb5.mono B4.size)
  replace p1 := p1.later hb5
  replace p2 := p2.later hb5
  replace p3 := p3.later hb5
  replace p4 := p4.later hb5
  obtain ⟨a0, a1⟩ := two_cells p1
  obtain ⟨a2, a3⟩ := two_cells p2
  obtain ⟨a4, a5⟩ := two_cells p3
  obtain ⟨a6, a7⟩ := two_cells p4
  clear cI hb5 B4
  go_wp2_with fail
  refine (cJ.out w5).mono ?_
  rintro e w6 ⟨rfl, hb6⟩
  have B6 := B5.trans (hb6.mono B5.size)
  replace p1 := p1.later hb6
  replace p2 := p2.later hb6
  replace p3 := p3.later hb6
  replace p4 := p4.later hb6
  obtain ⟨a0, a1⟩ := two_cells p1
  obtain ⟨a2, a3⟩ := two_cells p2
  obtain ⟨a4, a5⟩ := two_cells p3
  obtain ⟨a6, a7⟩ := two_cells p4
  clear cJ hb6 B5
  go_wp2_with fail
  refine (cK.out w6).mono ?_
  rintro e w7 ⟨rfl, hb7⟩
  have B7 := B6.trans (hb7.mono B6.size)
  replace p1 := p1.later hb7
  replace p2 := p2.later hb7
  replace p3 := p3.later hb7
  replace p4 := p4.later hb7
  obtain ⟨a0, a1⟩ := two_cells p1
  obtain ⟨a2, a3⟩ := two_cells p2
  obtain ⟨a4, a5⟩ := two_cells p3
  obtain ⟨a6, a7⟩ := two_cells p4
  clear cK hb7 B6
  go_wp2_with fail
  refine (cH.out w7).mono ?_
  rintro e w8 ⟨rfl, hb8⟩
  have B8 := B7.trans (hb8.mono B7.size)
  replace p1 := p1.later hb8
  replace p2 := p2.later hb8
  replace p3 := p3.later hb8
  replace p4 := p4.later hb8
  obtain ⟨a0, a1⟩ := two_cells p1
  obtain ⟨a2, a3⟩ := two_cells p2
  obtain ⟨a4, a5⟩ := two_cells p3
  obtain ⟨a6, a7⟩ := two_cells p4
  clear cH hb8 B7
  go_wp2_with fail
  refine (cB.out w8).mono ?_
  rintro e w9 ⟨rfl, hb9⟩
  have B9 := B8.trans (hb9.mono B8.size)
  replace p1 := p1.later hb9
  replace p2 := p2.later hb9
  replace p3 := p3.later hb9
  replace p4 := p4.later hb9
  obtain ⟨a0, a1⟩ := two_cells p1
  obtain ⟨a2, a3⟩ := two_cells p2
  obtain ⟨a4, a5⟩ := two_cells p3
  obtain ⟨a6, a7⟩ := two_cells p4
  clear cB hb9 B8
  go_wp2_with fail
  refine (cW.out w9).mono ?_
  rintro e w10 ⟨rfl, hb10⟩
  have B10 := B9.trans (hb10.mono B9.size)
  replace p1 := p1.later hb10
  replace p2 := p2.later hb10
  replace p3 := p3.later hb10
  replace p4 := p4.later hb10
  obtain ⟨a0, a1⟩ := two_cells p1
  obtain ⟨a2, a3⟩ := two_cells p2
  obtain ⟨a4, a5⟩ := two_cells p3
  obtain ⟨a6, a7⟩ := two_cells p4
  clear cW hb10 B9
  go_wp2_with fail
  refine (cC.out w10).mono ?_
  rintro e w11 ⟨rfl, hb11⟩
  have B11 := B10.trans (hb11.mono B10.size)
  replace p1 := p1.later hb11
  replace p2 := p2.later hb11
  replace p3 := p3.later hb11
  replace p4 := p4.later hb11
  obtain ⟨a0, a1⟩ := two_cells p1
  obtain ⟨a2, a3⟩ := two_cells p2
  obtain ⟨a4, a5⟩ := two_cells p3
  obtain ⟨a6, a7⟩ := two_cells p4
  clear cC hb11 B10
  go_wp2_with fail
  refine (cD.out w11).mono ?_
  rintro e w12 ⟨rfl, hb12⟩
  have B12 := B11.trans (hb12.mono B11.size)
  replace p1 := p1.later hb12
  replace p2 := p2.later hb12
  replace p3 := p3.later hb12
  replace p4 := p4.later hb12
  obtain ⟨a0, a1⟩ := two_cells p1
  obtain ⟨a2, a3⟩ := two_cells p2
  obtain ⟨a4, a5⟩ := two_cells p3
  obtain ⟨a6, a7⟩ := two_cells p4
  clear cD hb12 B11
  clear a0 a1 a2 a3 a4 a5 a6 a7 p1 p2 p3 p4 tE tz he hm hY h1 h2 y9
  have MARKZ := 1
  by_cases hy1 : y = 1
  · have ty : (y == 1) = true := beq_of hy1
    rw [if_pos hy1] at hD0
    subst hD0
    clear hy1
    go_wp2_with (go_at_call 10; refine (num22_same _ _).mono ?_; rintro e w' ⟨rfl, rfl⟩)
    go_ret
    exact ⟨rfl, B12⟩
  · have ty : (y == 1) = false := beq_no hy1
    rw [if_neg hy1] at hD0
    subst hD0
    clear hy1
    go_wp2_with (go_at_call 10; refine (num22_same _ _).mono ?_; rintro e w' ⟨rfl, rfl⟩)
    go_ret
    exact ⟨rfl, B12⟩
set_option maxHeartbeats 6400000 in
set_option maxRecDepth 100000 in
theorem steps_walk {b : Int} (hb : U b) {w : World} :
    Calls Try.prog 4 #[.int .u64 b] w fun e w' => e = .returned (.bool true) ∧ Below w.heap.size w w' := by
  have hm := size_andNot hb
  have hbd := mg_bd b
  generalize mg b = y at *
  have uy : U y := by unfold U; omega
  by_cases h : 1 ≤ y ∧ y ≤ mostP
  · exact steps_go hm rfl h.1 h.2 w
  · have he := field_and uy
    have hx : ef y = 2047 ∨ (ef y ≠ 2047 ∧ y = 0) := by
      unfold mostP at h
      unfold ef
      omega
    clear h uy
    have FX := HL.mk fixed22_any
    generalize ef y = E at *
    rcases hx with hx | ⟨hx, hz⟩
    · have tE : (E == 2047) = true := beq_of hx
      clear hx hb
      go_enter Try.func4, Try.ntmps4
      go_wp2_with fail
      refine (FX.out w).mono ?_
      rintro e w1 ⟨rfl, hb1⟩
      clear FX
      go_wp2
      go_ret
      exact ⟨rfl, hb1⟩
    · have tE : (E == 2047) = false := beq_no hx
      have tz : (y == 0) = true := beq_of hz
      clear hx hb hz
      go_enter Try.func4, Try.ntmps4
      go_wp2_with fail
      refine (FX.out w).mono ?_
      rintro e w1 ⟨rfl, hb1⟩
      clear FX
      go_wp2
      go_ret
      exact ⟨rfl, hb1⟩
end Go.Proofs.Ytbonkgmcpjaepaa
