/- package lemire: Small, Fast. -/
import Derived.Test.YtbbmoaipilmmdaaGreatDoorLemB
import Derived.Test.YtbbmoaipilmmdaaGreatDoorPowC
namespace Go.Proofs.YtbbmoaipilmmdaaGreatDoor
open Go.ChangeShapes Go.WideShapes Go.ChangeAt Go.RowKit
open Na Ar
set_option linter.unusedVariables false
/-- the table of the exact powers of ten -/
def TenVar (w : World) : Prop := ∀ k, k < 23 → w.cell? ⟨0, k, none⟩ = some (.int .u64 (tenP k))
theorem TenVar.lt {w : World} (h : TenVar w) : 0 < w.heap.size := by
  have := h 0 (by omega)
  unfold World.cell? at this
  apply Decidable.byContradiction
  intro hc
  rw [Array.getElem?_eq_none (by show w.heap.size ≤ 0; omega)] at this
  cases this
theorem TenVar.later {w w' : World} (h : TenVar w) (hb : Below w.heap.size w w') : TenVar w' := fun k hk => by
  rw [hb.cell (p := ⟨0, k, none⟩) h.lt]
  exact h k hk
namespace Ar
theorem round_none {B : Int} {neg : Bool} (hB : 0 < B) : RoundIs 0 B false false 0 0 0 := by
  refine ⟨0, ⟨by omega, by decide, by rw [num_zero']; omega, Or.inr ?_⟩, Or.inl ⟨Or.inl ?_, rfl, rfl⟩⟩
  · rw [show (0 : Int) + 1 = 1 by rfl, num_one']; omega
  · unfold agn
    rw [num_zero', Int.zero_mul, if_neg (by omega), if_pos rfl]; rfl
end Ar
set_option maxHeartbeats 1600000 in
theorem lemSmall_any {m e : Int} (hm : U m) (i0 : -9223372036854775808 ≤ e) (i1 : e ≤ 9223372036854775807) {w : World} (hT : TenVar w) :
    Calls Tryz.prog 12 #[.int .u64 m, .int .i64 e] w fun r w' => ∃ b, r = .returned (.tuple #[.int .u64 b, .bool (smallOk m e)]) ∧ (smallOk m e = true → SmlI m e b) ∧ (smallOk m e = false → b = 0) ∧ U b ∧ Below w.heap.size w w' := by
  have hm0 : 0 ≤ m := hm.1
  cases hok : smallOk m e
  · unfold smallOk at hok
    rw [decide_eq_false_iff_not] at hok
    by_cases h1 : m ≤ 9007199254740992
    · have d1 : decide (m > 9007199254740992) = false := by simp; omega
      have d1' : decide (9007199254740992 < m) = false := by simp; omega
      by_cases h2 : e ≤ -23
      · have d2 : decide (e ≤ -23) = true := by simp; omega
        clear hok
        go_enter Tryz.func12, Tryz.ntmps12
        go_wp2
        go_ret2
        exact ⟨_, rfl, fun h => (by cases h), fun _ => rfl, U_zero, Below.refl _ _⟩
      · have d2 : decide (e ≤ -23) = false := by simp; omega
        have d3 : decide (e ≥ 23) = true := by simp; omega
        have d3' : decide (23 ≤ e) = true := by simp; omega
        clear hok h2
        go_enter Tryz.func12, Tryz.ntmps12
        go_wp2
        go_ret2
        exact ⟨_, rfl, fun h => (by cases h), fun _ => rfl, U_zero, Below.refl _ _⟩
    · have d1 : decide (m > 9007199254740992) = true := by simp; omega
      have d1' : decide (9007199254740992 < m) = true := by simp; omega
      clear hok h1
      go_enter Tryz.func12, Tryz.ntmps12
      go_wp2
      go_ret2
      exact ⟨_, rfl, fun h => (by cases h), fun _ => rfl, U_zero, Below.refl _ _⟩
  · unfold smallOk at hok
    rw [decide_eq_true_eq] at hok
    obtain ⟨k1, k2, k3⟩ := hok
    have d1 : decide (m > 9007199254740992) = false := by simp; omega
    have d1' : decide (9007199254740992 < m) = false := by simp; omega
    have d2 : decide (e ≤ -23) = false := by simp; omega
    have d3 : decide (e ≥ 23) = false := by simp; omega
    have d3' : decide (23 ≤ e) = false := by simp; omega
    by_cases hz : m = 0
    · have HS : Hid (SmlI 0 e 0) := by
        show SmlI 0 e 0
        unfold SmlI
        have e0 : scA 0 0 = 0 := by unfold scA; rw [Int.zero_mul]
        split
        · rw [Int.zero_mul, e0]; exact round_none (neg := false) (scB_pos' (by omega))
        · rw [e0]; exact round_none (neg := false) (scB_pos' (Int.pow_pos (by omega)))
      subst hz
      clear hm0 hm
      go_enter Tryz.func12, Tryz.ntmps12
      go_wp2
      go_ret2
      exact ⟨_, rfl, fun _ => HS.out, fun h => (by cases h), U_zero, Below.refl _ _⟩
    · have z : (m == 0) = false := beq_no hz
      by_cases hn : e < 0
      · obtain ⟨k, hk⟩ : ∃ k : Nat, e = -(k : Int) := ⟨(-e).toNat, by omega⟩
        have hk23 : k < 23 := by omega
        have d4 : decide (e < 0) = true := by simp; omega
        have hc := hT k hk23
        have hneg : -e = (k : Int) := by omega
        have hB := fun w => byTen_any hk23 hm hz k1 w
        have HS : Hid (∀ b, RoundIs (scA m 0) (scB (10 ^ k) 0) false false 0 b 0 → SmlI m e b) := fun b h => by
          unfold SmlI
          rw [if_neg (by omega), hneg, Int.toNat_natCast]
          exact h
        clear hk
        go_enter Tryz.func12, Tryz.ntmps12
        go_wp2_with fail
        refine (hB _).mono ?_
        rintro r w1 ⟨b, rfl, hr, ub, hg⟩
        have HQ : Hid (SmlI m e b) := HS.out b hr
        clear hr HS hB
        go_wp2
        go_ret2
        exact ⟨_, rfl, fun _ => HQ.out, fun h => (by cases h), ub, hg.2⟩
      · obtain ⟨k, hk⟩ : ∃ k : Nat, e = (k : Int) := ⟨e.toNat, by omega⟩
        have hk23 : k < 23 := by omega
        have hc := hT k hk23
        have hB := fun w => timesTen_any hk23 hm hz k1 w
        have HS : Hid (∀ b, RoundIs (scA (m * 10 ^ k) 0) (scB 1 0) false false 0 b 0 → SmlI m e b) := fun b h => by
          unfold SmlI
          rw [if_pos (by omega), hk, Int.toNat_natCast]
          exact h
        subst hk
        have d4 : decide ((k : Int) < 0) = false := by simp
        go_enter Tryz.func12, Tryz.ntmps12
        go_wp2_with fail
        refine (hB _).mono ?_
        rintro r w1 ⟨b, rfl, hr, ub, hg⟩
        have HQ : Hid (SmlI m (k : Int) b) := HS.out b hr
        clear hr HS hB
        go_wp2
        go_ret2
        exact ⟨_, rfl, fun _ => HQ.out, fun h => (by cases h), ub, hg.2⟩
namespace Ar
/-- what Fast answers -/
def FastIs (m e b E : Int) : Prop :=
  ((m = 0 ∨ e < -348) ∧ b = 0 ∧ E = 0) ∨ (m ≠ 0 ∧ 347 < e ∧ b = 0 ∧ E = 70) ∨
  (m ≠ 0 ∧ inT e ∧ ∃ b1 E1 b2 E2, RoundIs (scA (pV e * m) (pX e + e)) (scB 1 (pX e + e)) false false 0 b1 E1 ∧ RoundIs (scA (abV e * m) (pX e + e)) (scB 1 (pX e + e)) false false 0 b2 E2 ∧
    ((b1 = b2 ∧ E1 = E2 ∧ b = b1 ∧ E = E1) ∨ (¬ (b1 = b2 ∧ E1 = E2) ∧ b = 0 ∧ E = 100)))
end Ar
set_option maxHeartbeats 1600000 in
theorem lemFast_any {m e : Int} (hm : U m) (i0 : -9223372036854775808 ≤ e) (i1 : e ≤ 9223372036854775807) (w : World) :
    Calls Tryz.prog 8 #[.int .u64 m, .int .i64 e] w fun r w' => ∃ b E, r = .returned (.tuple #[.int .u64 b, .int .i64 E]) ∧ FastIs m e b E ∧ U b ∧ Below w.heap.size w w' := by
  by_cases hz : m = 0
  · subst hz
    have HQ : Hid (FastIs 0 e 0 0) := Or.inl ⟨Or.inl rfl, rfl, rfl⟩
    go_enter Tryz.func8, Tryz.ntmps8
    go_wp2
    go_ret2
    exact ⟨_, _, rfl, HQ.out, U_zero, Below.refl _ _⟩
  · have z : (m == 0) = false := beq_no hz
    by_cases h1 : e < -348
    · have HQ : Hid (FastIs m e 0 0) := Or.inl ⟨Or.inr h1, rfl, rfl⟩
      have d1 : decide (e < -348) = true := by simp; omega
      go_enter Tryz.func8, Tryz.ntmps8
      go_wp2
      go_ret2
      exact ⟨_, _, rfl, HQ.out, U_zero, Below.refl _ _⟩
    · have d1 : decide (e < -348) = false := by simp; omega
      by_cases h2 : 347 < e
      · have HQ : Hid (FastIs m e 0 70) := Or.inr (Or.inl ⟨hz, h2, rfl, rfl⟩)
        have d2 : decide (347 < e) = true := by simp; omega
        have d2' : decide (e > 347) = true := by simp; omega
        go_enter Tryz.func8, Tryz.ntmps8
        go_wp2
        go_ret2
        exact ⟨_, _, rfl, HQ.out, U_zero, Below.refl _ _⟩
      · have d2 : decide (347 < e) = false := by simp; omega
        have d2' : decide (e > 347) = false := by simp; omega
        have hin : inT e := ⟨by omega, by omega⟩
        obtain ⟨r0, r1, r2⟩ := pV_rng hin
        obtain ⟨x0, x1⟩ := pX_rng hin
        have a0 : 170141183460469231731687303715884105728 ≤ abV e ∧ abV e < 340282366920938463463374607431768211456 := by
          cases hw : pW e
          · rw [abV_out hw]; have := r2 hw; omega
          · rw [abV_in hw]; omega
        have hF := fun w => five8_in hin w
        have hA := fun w => above8_in hin w
        have hP1 := fun w => product_any (m := m) (hi := pV e / 18446744073709551616) (lo := pV e % 18446744073709551616) (x := pX e + e) hm hz (by unfold U; omega) (by omega) (by unfold U; omega) (by omega) (by omega) w
        have hP2 := fun w => product_any (m := m) (hi := abV e / 18446744073709551616) (lo := abV e % 18446744073709551616) (x := pX e + e) hm hz (by unfold U; omega) (by omega) (by unfold U; omega) (by omega) (by omega) w
        have e1 : pV e / 18446744073709551616 * 18446744073709551616 + pV e % 18446744073709551616 = pV e := by omega
        have e2' : abV e / 18446744073709551616 * 18446744073709551616 + abV e % 18446744073709551616 = abV e := by omega
        rw [e1] at hP1
        rw [e2'] at hP2
        have HF : Hid (∀ b1 E1 b2 E2 b E, RoundIs (scA (pV e * m) (pX e + e)) (scB 1 (pX e + e)) false false 0 b1 E1 → RoundIs (scA (abV e * m) (pX e + e)) (scB 1 (pX e + e)) false false 0 b2 E2 → ((b1 = b2 ∧ E1 = E2 ∧ b = b1 ∧ E = E1) ∨ (¬ (b1 = b2 ∧ E1 = E2) ∧ b = 0 ∧ E = 100)) → FastIs m e b E) := fun b1 E1 b2 E2 b E q1 q2 q3 => Or.inr (Or.inr ⟨hz, hin, b1, E1, b2, E2, q1, q2, q3⟩)
        generalize pV e / 18446744073709551616 = H1 at *
        generalize pV e % 18446744073709551616 = L1 at *
        generalize abV e / 18446744073709551616 = H2 at *
        generalize abV e % 18446744073709551616 = L2 at *
        clear e1 e2' a0 r0 r1 r2
        generalize pX e = X at *
        go_enter Tryz.func8, Tryz.ntmps8
        go_wp2_with fail
        refine (hF _).mono ?_
        rintro r w1 ⟨rfl, hb1⟩
        clear hF
        go_wp2_with fail
        refine (hP1 _).mono ?_
        rintro r w2 ⟨b1, E1, rfl, hr1, ub1, hg⟩
        have HR1 : Hid (RoundIs (scA (pV e * m) (X + e)) (scB 1 (X + e)) false false 0 b1 E1) := hr1
        have hB := hb1.trans (hg.2.mono hb1.size)
        clear hP1 hr1 hg hb1
        go_wp2_with fail
        refine (hA _).mono ?_
        rintro r w3 ⟨rfl, hb⟩
        have hB := hB.trans (hb.mono hB.size)
        clear hA hb
        go_wp2_with fail
        refine (hP2 _).mono ?_
        rintro r w4 ⟨b2, E2, rfl, hr2, ub2, hg⟩
        have HR2 : Hid (RoundIs (scA (abV e * m) (X + e)) (scB 1 (X + e)) false false 0 b2 E2) := hr2
        have hB := hB.trans (hg.2.mono hB.size)
        clear hP2 hr2 hg
        by_cases hb : b1 = b2
        · by_cases hE : E1 = E2
          · have HQ : Hid (FastIs m e b1 E1) := HF.out _ _ _ _ _ _ HR1.out HR2.out (Or.inl ⟨hb, hE, rfl, rfl⟩)
            have t1 : (b1 != b2) = false := bne_of hb
            have t2 : (E1 != E2) = false := bne_of hE
            clear HF hb hE HR1 HR2
            go_wp2
            go_ret2
            exact ⟨_, _, rfl, HQ.out, ub1, hB⟩
          · have HQ : Hid (FastIs m e 0 100) := HF.out _ _ _ _ _ _ HR1.out HR2.out (Or.inr ⟨fun q => hE q.2, rfl, rfl⟩)
            have t1 : (b1 != b2) = false := bne_of hb
            have t2 : (E1 != E2) = true := bne_yes hE
            clear HF hb hE HR1 HR2
            go_wp2
            go_ret2
            exact ⟨_, _, rfl, HQ.out, U_zero, hB⟩
        · have HQ : Hid (FastIs m e 0 100) := HF.out _ _ _ _ _ _ HR1.out HR2.out (Or.inr ⟨fun q => hb q.1, rfl, rfl⟩)
          have t1 : (b1 != b2) = true := bne_yes hb
          clear HF hb HR1 HR2
          go_wp2
          go_ret2
          exact ⟨_, _, rfl, HQ.out, U_zero, hB⟩
end Go.Proofs.YtbbmoaipilmmdaaGreatDoor
