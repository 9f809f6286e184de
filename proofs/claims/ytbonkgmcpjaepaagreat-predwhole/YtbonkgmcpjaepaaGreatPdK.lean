/- plumblaw22: num, finite, fixed. -/
import Derived.Test.YtbonkgmcpjaepaaGreatPdH
import Derived.Deep.QuietTactic
import Derived.BigQuiet
namespace Go.Proofs.YtbonkgmcpjaepaaGreat
open Go.ChangeShapes Go.WideShapes Go.ChangeAt Go.RowKit
open Na Ar
set_option linter.unusedVariables false
theorem num22_any (x : Int) (w : World) : Calls Tryz.prog 9 #[.int .i64 x] w fun e w' => e = .returned (.int .i64 x) ∧ Below w.heap.size w w' := by
  go_enter Tryz.func9, Tryz.ntmps9
  go_wp2
  go_ret
  exact ⟨rfl, Below.refl _ _⟩
/-- whether points are finite -/
def FinQ (w : World) (n : Nat) (P : Nat → Int × Int) (e : Ending) (w' : World) : Prop := ∃ B : Bool, e = .returned (.bool B) ∧ (B = true ↔ ∀ i, i < n → fin2 (P i)) ∧ Below w.heap.size w w'
set_option maxHeartbeats 3200000 in
set_option maxRecDepth 100000 in
theorem finite22_any {w : World} {g n c : Nat} {P : Nat → Int × Int} (hP : PtAt w g 0 P n) (hn : n ≤ 1000000) :
    Calls Tryz.prog 19 #[.slice (some ⟨g, 0, none⟩) n c] w fun e w' => FinQ w n P e w' := by
  go_enter Tryz.func19, Tryz.ntmps19
  go_wp2
  go_loopw [3] (fun i wr => ∃ j : Nat, j ≤ n ∧ i = .int .i64 j ∧ Below w.heap.size w wr ∧ wr = w ∧ (∀ k, k < j → fin2 (P k))) (fun i _ => n - (intOf i).toNat)
  case atStart => exact ⟨0, Nat.zero_le _, rfl, Below.refl _ _, rfl, fun k hk => absurd hk (by omega)⟩
  case round =>
    obtain ⟨j, hj, rfl, hB, rfl, hF⟩ := hrel
    by_cases hlt : j < n
    · have i1 : (j : Int) < (n : Int) := by omega
      have hi0 : (0 : Int) ≤ (j : Int) := by omega
      obtain ⟨x0, x1, ux, uy⟩ := hP j hlt
      simp only [Nat.zero_add] at x0 x1
      have fx := field_and ux
      have fy := field_and uy
      have HF : Hid (∀ k, k < j → fin2 (P k)) := hF
      have HP : Hid (fin2 (P j) ↔ ef (P j).1 ≠ 2047 ∧ ef (P j).2 ≠ 2047) := Iff.rfl
      clear hF hP
      generalize (P j).1 = x at *
      generalize (P j).2 = y at *
      generalize ef x = X at *
      generalize ef y = Y at *
      by_cases hx : X = 2047
      · have tx : (X == 2047) = true := beq_of hx
        have HX : Hid (X = 2047) := hx
        clear hx
        go_wp2
        go_ret
        exact ⟨false, rfl, ⟨fun h => (by cases h), fun h => absurd HX.out (HP.out.mp (h j hlt)).1⟩, hB⟩
      · have tx : (X == 2047) = false := beq_no hx
        have HX : Hid (X ≠ 2047) := hx
        clear hx
        by_cases hy : Y = 2047
        · have ty : (Y == 2047) = true := beq_of hy
          have HY : Hid (Y = 2047) := hy
          clear hy
          go_wp2
          go_ret
          exact ⟨false, rfl, ⟨fun h => (by cases h), fun h => absurd HY.out (HP.out.mp (h j hlt)).2⟩, hB⟩
        · have ty : (Y == 2047) = false := beq_no hy
          have HY : Hid (Y ≠ 2047) := hy
          clear hy
          go_wp2
          go_roundw
          case rel => exact ⟨j + 1, hlt, by go_num, hB, trivial, fun k hk => by
            by_cases e : k = j
            · subst e; exact HP.out.mpr ⟨HX.out, HY.out⟩
            · exact HF.out k (by omega)⟩
          case measure => simp [intOf]; omega
    · have i1 : ¬ (j : Int) < (n : Int) := by omega
      have hjn : j = n := by omega
      subst hjn
      have HF : Hid (∀ k, k < j → fin2 (P k)) := hF
      clear hF hP
      go_wp2
      go_ret
      exact ⟨true, rfl, ⟨fun _ => HF.out, fun _ => rfl⟩, hB⟩
theorem u2_of {x y : Int} (hx : U x) (hy : U y) : U2 (x, y) := ⟨hx, hy⟩
set_option maxRecDepth 100000 in
theorem fix_o : sgnR (crR (valR 0) (valR 0) (valR 4607182418800017408) (valR 0) (valR 0) (valR 4607182418800017408)) = 1 := by decide +kernel
set_option maxHeartbeats 3200000 in
set_option maxRecDepth 100000 in
theorem fixed22_of (hin : ∀ w, Calls Tryz.prog 12 #[.agg #[.int .u64 0, .int .u64 0], .agg #[.int .u64 4607182418800017408, .int .u64 0], .agg #[.int .u64 0, .int .u64 4607182418800017408], .agg #[.int .u64 4602678819172646912, .int .u64 4602678819172646912]] w fun e w' => e = .returned (.tuple #[.int .i64 1, .int .i64 0]) ∧ Below w.heap.size w w') (w : World) :
    Calls Tryz.prog 17 #[] w fun e w' => e = .returned (.bool true) ∧ Below w.heap.size w w' := by
  have hor := fun w => Orient22_fin (w := w) (a := (0, 0)) (b := (4607182418800017408, 0)) (c := (0, 4607182418800017408)) (u2_of (by unfold U; omega) (by unfold U; omega)) (u2_of (by unfold U; omega) (by unfold U; omega)) (u2_of (by unfold U; omega) (by unfold U; omega)) (by unfold fin2 ef; omega) (by unfold fin2 ef; omega) (by unfold fin2 ef; omega)
  have hod := fun w => Order22_inf (w := w) (a := (0, 0)) (b := (9218868437227405312, 0)) (u2_of (by unfold U; omega) (by unfold U; omega)) (u2_of (by unfold U; omega) (by unfold U; omega)) (by unfold fin2 ef; omega)
  simp only [fix_o] at hor
  obtain ⟨w0, hw0⟩ : ∃ w0, w0 = ((w.alloc (.cells #[.int .u64 0, .int .u64 0] 28)).alloc (.cells #[.int .u64 4607182418800017408, .int .u64 0] 28)).alloc (.cells #[.int .u64 0, .int .u64 4607182418800017408] 28) := ⟨_, rfl⟩
  obtain ⟨p1, p2, p3, hb0, _⟩ : Pb w0 w.heap.size 28 #[.int .u64 0, .int .u64 0] ∧ Pb w0 (w.heap.size + 1) 28 #[.int .u64 4607182418800017408, .int .u64 0] ∧ Pb w0 (w.heap.size + 1 + 1) 28 #[.int .u64 0, .int .u64 4607182418800017408] ∧ Below w.heap.size w w0 ∧ w0.heap.size = w.heap.size + 1 + 1 + 1 := by
    subst hw0
    exact pb_three _ _ _ _ _
  go_enter Tryz.func17, Tryz.ntmps17
  go_wp2_with fail
  rw [← hw0]
  refine (hor w0).mono ?_
  rintro e wA ⟨rfl, hbA⟩
  have BA := hb0.trans (hbA.mono hb0.size)
  have a1 := p1.later hbA
  have a2 := p2.later hbA
  have a3 := p3.later hbA
  have x0 := a1.cell 0 (v := .int .u64 0) rfl
  have x1 := a1.cell 1 (v := .int .u64 0) rfl
  have y0 := a2.cell 0 (v := .int .u64 4607182418800017408) rfl
  have y1 := a2.cell 1 (v := .int .u64 0) rfl
  have z0 := a3.cell 0 (v := .int .u64 0) rfl
  have z1 := a3.cell 1 (v := .int .u64 4607182418800017408) rfl
  clear hor hw0 p1 p2 p3
  go_wp2_with fail
  refine (hin wA).mono ?_
  rintro e wB ⟨rfl, hbB⟩
  have BB := BA.trans (hbB.mono BA.size)
  have x0 := (a1.later hbB).cell 0 (v := .int .u64 0) rfl
  have x1 := (a1.later hbB).cell 1 (v := .int .u64 0) rfl
  clear y0 y1 z0 z1 a2 a3 hin
  go_wp2_with fail
  refine (hod wB).mono ?_
  rintro e wC ⟨rfl, hbC⟩
  have BC := BB.trans (hbC.mono BB.size)
  clear hod x0 x1 a1
  go_wp2_with fail
  refine (num22_any 0 _).mono ?_
  rintro e wD ⟨rfl, hbD⟩
  have BD := BC.trans (hbD.mono BC.size)
  go_wp2_with fail
  refine (num22_any 0 _).mono ?_
  rintro e wE ⟨rfl, hbE⟩
  have BE := BD.trans (hbE.mono BD.size)
  go_wp2_with fail
  refine (num22_any 220 _).mono ?_
  rintro e wF ⟨rfl, hbF⟩
  have BF := BE.trans (hbF.mono BE.size)
  go_wp2
  go_ret
  exact ⟨rfl, BF⟩
end Go.Proofs.YtbonkgmcpjaepaaGreat
