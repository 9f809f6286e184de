/- Layer 13: what the statements ask first: three numbers. -/
import Derived.Test.YtceecgklgkiffaaGreatDoorExpH
namespace Go.Proofs.YtceecgklgkiffaaGreatDoor
open Go.ChangeShapes Go.WideShapes Go.ChangeAt Go.RowKit
open Na Ar Ep
set_option linter.unusedVariables false
namespace Ep
theorem al_u (b : Int) (h : decide (0 ≤ b ∧ b < 18446744073709551616) = true) : U b := by
  have := of_decide_eq_true (p := 0 ≤ b ∧ b < 18446744073709551616) h
  exact ⟨this.1, this.2⟩
theorem pos_of {X : Nat} (h : Nat.ble 1 X = true) : 0 < X := Nat.le_of_ble_eq_true h
theorem al_dec1 : Dec (szA 4609434218613702656) 15 2 (-1) :=
  ⟨Nat.eq_of_beq_eq_true (by kernel_rfl), by omega, by decide, by decide, by decide⟩
theorem al_pos1 : 0 < szA 4609434218613702656 := pos_of (by kernel_rfl)
theorem al_fix : fxR (szA 4591870180066957722) 20 = 10000000000000000555 := Nat.eq_of_beq_eq_true (by kernel_rfl)
theorem al_dec3 : Dec (szA 4652002910794678272) 9995 4 (-1) :=
  ⟨Nat.eq_of_beq_eq_true (by kernel_rfl), by omega, by decide, by decide, by decide⟩
theorem al_pos3 : 0 < szA 4652002910794678272 := pos_of (by kernel_rfl)
theorem al_pz : Pz (szA 4652002910794678272) 3 100 1 := Or.inr ⟨9995, 4, -1, al_pos3, al_dec3, Or.inr ⟨by decide, by decide, by decide⟩⟩
end Ep
set_option maxHeartbeats 1600000 in
set_option maxRecDepth 100000 in
theorem alive13_any (w : World) : Calls Tryz.prog 9 #[] w fun e w' => e = .returned (.bool true) ∧ Below w.heap.size w w' := by
  have h1 : ∀ w, Calls Tryz.prog 22 #[.int .u64 4609434218613702656] w fun e w' => e = .returned (.tuple #[.string ⟨#[49, 53]⟩, .int .i64 (-1), .int .i64 0]) ∧ Below w.heap.size w w' := fun w => by
    refine (digits_fin (al_u _ (by decide)) (by decide) w).mono ?_
    rintro e w' ⟨N, L, x, rfl, hD, _, hb⟩
    obtain ⟨rfl, rfl, rfl⟩ := dz_uniq hD (Or.inr ⟨al_pos1, al_dec1⟩)
    exact ⟨rfl, hb⟩
  have h2 : ∀ w, Calls Tryz.prog 12 #[.int .u64 4591870180066957722, .int .i64 20] w fun e w' => e = .returned (.tuple #[.string ⟨#[48, 46, 49, 48, 48, 48, 48, 48, 48, 48, 48, 48, 48, 48, 48, 48, 48, 48, 48, 53, 53, 53]⟩, .int .i64 0]) ∧ Below w.heap.size w w' := fun w => by
    refine (fixed_fin (n := 20) (al_u 4591870180066957722 (by decide)) (by decide) (by decide) w).mono ?_
    rintro e w' ⟨M, hM, _, rfl, hb⟩
    rw [al_fix] at hM ⊢
    have := mok_uniq hM (Or.inl ⟨rfl, by decide⟩ : Mok 10000000000000000555 20 21)
    subst this
    exact ⟨rfl, hb⟩
  have h3 : ∀ w, Calls Tryz.prog 17 #[.int .u64 4652002910794678272, .int .i64 3] w fun e w' => e = .returned (.tuple #[.string ⟨#[49, 48, 48]⟩, .int .i64 1, .int .i64 0]) ∧ Below w.heap.size w w' := fun w => by
    refine (precise_fin (n := 3) (al_u 4652002910794678272 (by decide)) (by decide) (by decide) (by decide) w).mono ?_
    rintro e w' ⟨D, X, hP, _, rfl, hb⟩
    obtain ⟨rfl, rfl⟩ := pz_uniq hP al_pz
    exact ⟨rfl, hb⟩
  go_enter Tryz.func9, Tryz.ntmps9
  go_wp2_with fail
  refine (h1 w).mono ?_
  rintro e w1 ⟨rfl, hb1⟩
  go_wp2_with fail
  refine (h2 w1).mono ?_
  rintro e w2 ⟨rfl, hb2⟩
  have hB2 := hb1.trans (hb2.mono hb1.size)
  go_wp2_with fail
  refine (h3 w2).mono ?_
  rintro e w3 ⟨rfl, hb3⟩
  have hB3 := hB2.trans (hb3.mono hB2.size)
  clear h1 h2 h3 hb1 hb2 hb3 hB2
  go_wp2
  go_ret
  exact ⟨rfl, hB3⟩
end Go.Proofs.YtceecgklgkiffaaGreatDoor
