/- package ryu: whole ones, least, greatest; the span; Shortest. -/
import Derived.Test.YtalglldkjbinbaaGreatDoorRyuA
import Derived.Test.YtalglldkjbinbaaGreatDoorBaseJ
import Derived.Deep.RegionHeld3
namespace Go.Proofs.YtalglldkjbinbaaGreatDoor
open Go.ChangeShapes Go.WideShapes Go.ChangeAt Go.RowKit
open Na Ar Ry
set_option linter.unusedVariables false
set_option maxHeartbeats 1600000 in
set_option maxRecDepth 100000 in
theorem rwhole_any {i c : Nat} (hi : i < 2046) (h0 : 0 < c) (hc : c ≤ 36028797018963968) (w : World) :
    Calls Tryz.prog 73 #[scV12 i, .int .u64 (c : Int)] w fun e w' => e = .returned (.bool (decide (c * ryN i % ryD i = 0))) ∧ Below w.heap.size w w' := by
  have f := scale_facts hi
  have ft0 := f.t0
  have ft1 := f.t1
  clear f
  have uc : U (c : Int) := by unfold U; omega
  have hz := zerosW_bd uc
  have hZ : ∀ w, Calls Tryz.prog 87 #[.int .u64 (c : Int)] w fun e w' => e = .returned (.int .i64 (zerosW (c : Int))) ∧ w' = w := fun w => (zeros_any uc w).mono (by
    rintro e w' ⟨n, rfl, hw, rfl⟩; exact ⟨rfl, hw.symm⟩)
  have hF : ∀ w, Calls Tryz.prog 105 #[.int .u64 (c : Int), .int .i64 ((ryT i : Int) - 400)] w fun e w' => e = .returned (.bool (decide (5 ^ ((ryT i : Int) - 400).toNat ∣ c))) ∧ w' = w := fun w => (fives_any (c := c) (by omega) (n := (ryT i : Int) - 400) (by omega) (by omega) w).mono (by
    rintro e w' ⟨rfl, hw⟩; exact ⟨rfl, hw.symm⟩)
  have hW : (decide (c * ryN i % ryD i = 0)) = (decide (zerosW (c : Int) ≥ (ryT i : Int) - 400 - ((i : Int) - 1076)) && decide (5 ^ ((ryT i : Int) - 400).toNat ∣ c)) := by
    rw [Bool.eq_iff_iff, Bool.and_eq_true, decide_eq_true_eq, decide_eq_true_eq, decide_eq_true_eq]
    exact whole_is h0 (by omega)
  rw [hW]
  have hb0 := alloc_below (w := w) (.cells (scC i) 88)
  unfold scV12 scC at *
  have x0 : -325 ≤ (ryT i : Int) - 400 := by omega
  have x1 : (ryT i : Int) - 400 ≤ 290 := by omega
  have y0 : -1076 ≤ (i : Int) - 1076 := by omega
  have y1 : (i : Int) - 1076 ≤ 1000 := by omega
  generalize decide (5 ^ ((ryT i : Int) - 400).toNat ∣ c) = fv at *
  generalize (ryT i : Int) - 400 = X at *
  generalize (i : Int) - 1076 = Y at *
  generalize zerosW (c : Int) = Z at *
  obtain ⟨z0, z1⟩ := hz
  clear hW ft0 ft1
  cases hg : decide (Z ≥ X - Y)
  · have hg' : decide (X - Y ≤ Z) = false := hg
    go_enter Tryz.func73, Tryz.ntmps73
    go_wp2
    go_quiet ((first | (go_at_call 87; exact Calls.quiet_of_same (hZ _)) | (go_at_call 105; exact Calls.quiet_of_same (hF _))))
    go_wp2
    go_ret
    exact ⟨rfl, below_drewN hb0 _⟩
  · have hg' : decide (X - Y ≤ Z) = true := hg
    go_enter Tryz.func73, Tryz.ntmps73
    go_wp2
    go_quiet ((first | (go_at_call 87; exact Calls.quiet_of_same (hZ _)) | (go_at_call 105; exact Calls.quiet_of_same (hF _))))
    go_wp2
    go_ret
    exact ⟨rfl, below_drewN hb0 _⟩
set_option maxHeartbeats 1600000 in
set_option maxRecDepth 100000 in
theorem rleast_any {i c : Nat} (hi : i < 2046) (h0 : 0 < c) (hc : c ≤ 36028797018963968) (t : Bool) (w : World) :
    Calls Tryz.prog 69 #[scV12 i, .int .u64 (c : Int), .bool t] w fun e w' => e = .returned (.int .u64 (leN t (c * ryN i) (ryD i) : Int)) ∧ Below w.heap.size w w' := by
  have hW := fun w => rwhole_any hi h0 hc w
  have hF := fun w => rfloor_any hi hc w
  have hl := floor_lt hi hc
  have t0 := Bk.new w 88 (scC i)
  have hb0 := alloc_below (w := w) (.cells (scC i) 88)
  unfold leN
  unfold scV12 scC at *
  generalize hR : c * ryN i / ryD i = R at *
  generalize hB : decide (c * ryN i % ryD i = 0) = b at *
  generalize (ryV i : Int) / 18446744073709551616 = H at *
  generalize (ryV i : Int) % 18446744073709551616 = O at *
  generalize (ryT i : Int) - 400 = X at *
  generalize (i : Int) - 1076 = Y at *
  generalize (ryS i : Int) = S at *
  obtain ⟨x0, x1, x2, x3, x4⟩ := (⟨t0.cell 0 rfl, t0.cell 1 rfl, t0.cell 2 rfl, t0.cell 3 rfl, t0.cell 4 rfl⟩ : _ ∧ _ ∧ _ ∧ _ ∧ _)
  clear hR hB
  cases t
  · go_enter Tryz.func69, Tryz.ntmps69
    go_wp2_with fail
    refine (hF _).mono ?_
    rintro e w1 ⟨rfl, hb1⟩
    have B1 := hb0.trans (hb1.mono hb0.size)
    clear x0 x1 x2 x3 x4 hF hW
    go_wp2
    go_ret
    exact ⟨by simp, B1⟩
  · go_enter Tryz.func69, Tryz.ntmps69
    go_wp2_with fail
    refine (hW _).mono ?_
    rintro e w1 ⟨rfl, hb1⟩
    have B1 := hb0.trans (hb1.mono hb0.size)
    have t1 := t0.later hb1
    clear x0 x1 x2 x3 x4 hW
    obtain ⟨x0, x1, x2, x3, x4⟩ := (⟨t1.cell 0 rfl, t1.cell 1 rfl, t1.cell 2 rfl, t1.cell 3 rfl, t1.cell 4 rfl⟩ : _ ∧ _ ∧ _ ∧ _ ∧ _)
    cases b
    · go_wp2_with fail
      refine (hF _).mono ?_
      rintro e w2 ⟨rfl, hb2⟩
      have B2 := B1.trans (hb2.mono B1.size)
      clear x0 x1 x2 x3 x4 hF
      go_wp2
      go_ret
      exact ⟨by simp, B2⟩
    · go_wp2_with fail
      refine (hF _).mono ?_
      rintro e w2 ⟨rfl, hb2⟩
      have B2 := B1.trans (hb2.mono B1.size)
      clear x0 x1 x2 x3 x4 hF
      go_wp2
      go_ret
      exact ⟨by simp, B2⟩
set_option maxHeartbeats 1600000 in
set_option maxRecDepth 100000 in
theorem rgreat_any {i c : Nat} (hi : i < 2046) (h0 : 0 < c) (hc : c ≤ 36028797018963968) (t : Bool) (w : World) :
    Calls Tryz.prog 71 #[scV12 i, .int .u64 (c : Int), .bool t] w fun e w' => e = .returned (.int .u64 (grN t (c * ryN i) (ryD i) : Int)) ∧ Below w.heap.size w w' := by
  have hW := fun w => rwhole_any hi h0 hc w
  have hF := fun w => rfloor_any hi hc w
  have hl := floor_lt hi hc
  have hg := floor_ge hi h0
  have t0 := Bk.new w 88 (scC i)
  have hb0 := alloc_below (w := w) (.cells (scC i) 88)
  unfold grN
  unfold scV12 scC at *
  generalize hR : c * ryN i / ryD i = R at *
  generalize hB : decide (c * ryN i % ryD i = 0) = b at *
  generalize (ryV i : Int) / 18446744073709551616 = H at *
  generalize (ryV i : Int) % 18446744073709551616 = O at *
  generalize (ryT i : Int) - 400 = X at *
  generalize (i : Int) - 1076 = Y at *
  generalize (ryS i : Int) = S at *
  obtain ⟨x0, x1, x2, x3, x4⟩ := (⟨t0.cell 0 rfl, t0.cell 1 rfl, t0.cell 2 rfl, t0.cell 3 rfl, t0.cell 4 rfl⟩ : _ ∧ _ ∧ _ ∧ _ ∧ _)
  clear hR hB
  cases t
  · go_enter Tryz.func71, Tryz.ntmps71
    go_wp2_with fail
    refine (hW _).mono ?_
    rintro e w1 ⟨rfl, hb1⟩
    have B1 := hb0.trans (hb1.mono hb0.size)
    have t1 := t0.later hb1
    clear x0 x1 x2 x3 x4 hW
    obtain ⟨x0, x1, x2, x3, x4⟩ := (⟨t1.cell 0 rfl, t1.cell 1 rfl, t1.cell 2 rfl, t1.cell 3 rfl, t1.cell 4 rfl⟩ : _ ∧ _ ∧ _ ∧ _ ∧ _)
    cases b
    · go_wp2_with fail
      refine (hF _).mono ?_
      rintro e w2 ⟨rfl, hb2⟩
      have B2 := B1.trans (hb2.mono B1.size)
      clear x0 x1 x2 x3 x4 hF
      go_wp2
      go_ret
      exact ⟨by simp, B2⟩
    · go_wp2_with fail
      refine (hF _).mono ?_
      rintro e w2 ⟨rfl, hb2⟩
      have B2 := B1.trans (hb2.mono B1.size)
      clear x0 x1 x2 x3 x4 hF
      go_wp2
      go_ret
      exact ⟨by simp; omega, B2⟩
  · go_enter Tryz.func71, Tryz.ntmps71
    go_wp2_with fail
    refine (hF _).mono ?_
    rintro e w1 ⟨rfl, hb1⟩
    have B1 := hb0.trans (hb1.mono hb0.size)
    clear x0 x1 x2 x3 x4 hF hW
    go_wp2
    go_ret
    exact ⟨by simp, B1⟩
end Go.Proofs.YtalglldkjbinbaaGreatDoor
