/- plumblaw10: alive, and what sure answers have to do with one another. -/
import Derived.Test.YtbbmoaipilmmdaaGreatDoorLemX
import Derived.Test.YtbbmoaipilmmdaaGreatDoorLemC
namespace Go.Proofs.YtbbmoaipilmmdaaGreatDoor
open Go.ChangeShapes Go.WideShapes Go.ChangeAt Go.RowKit
open Na Ar Lx
set_option linter.unusedVariables false
namespace Ar
set_option maxRecDepth 100000 in
theorem tenth_is : RoundIs (scA 1 0) (scB (10 ^ 1) 0) false false 0 4591870180066957722 0 :=
  ⟨4591870180066957721, ⟨by decide, by decide, by decide +kernel, Or.inr (by decide +kernel)⟩, Or.inr ⟨⟨by decide +kernel, by decide +kernel⟩, Or.inr ⟨by decide, by decide, rfl⟩⟩⟩
theorem small_one {b : Int} (h : SmlI 1 (-1) b) : b = 4591870180066957722 := by
  unfold SmlI at h
  rw [if_neg (by decide)] at h
  exact (roundIs_uniq (scB_pos' (Int.pow_pos (by omega))) h tenth_is).1
theorem v23 : vN 371 = 225179981368524800000000000000000000000 := by kernel_rfl
theorem x23 : xN 371 = 926 := by kernel_rfl
theorem p23 : pV 23 = 225179981368524800000000000000000000000 ∧ pX 23 = -74 ∧ pW 23 = true := by
  refine ⟨?_, ?_, rfl⟩
  · unfold pV
    rw [show ((23 : Int) + 348).toNat = 371 by decide, v23]; rfl
  · unfold pX
    rw [show ((23 : Int) + 348).toNat = 371 by decide, x23]; rfl
set_option maxRecDepth 100000 in
theorem big_is : RoundIs (scA (225179981368524800000000000000000000000 * 1) (-74 + 23)) (scB 1 (-74 + 23)) false false 0 4950912855330343670 0 :=
  ⟨4950912855330343670, ⟨by decide, by decide, by decide +kernel, Or.inr (by decide +kernel)⟩, Or.inl ⟨Or.inr (by decide +kernel), by decide, rfl⟩⟩
theorem fast_one {b E : Int} (h : FastIs 1 23 b E) : b = 4950912855330343670 ∧ E = 0 := by
  rcases h with ⟨h, _⟩ | ⟨_, h, _⟩ | ⟨_, hin, b1, E1, b2, E2, r1, r2, h⟩
  · omega
  · omega
  · rw [abV_in p23.2.2] at r2
    rw [p23.1, p23.2.1] at r1 r2
    obtain ⟨rfl, rfl⟩ := roundIs_uniq (scB_pos' (by omega)) r1 big_is
    obtain ⟨rfl, rfl⟩ := roundIs_uniq (scB_pos' (by omega)) r2 big_is
    rcases h with ⟨_, _, rfl, rfl⟩ | ⟨h, _⟩
    · exact ⟨rfl, rfl⟩
    · exact absurd ⟨rfl, rfl⟩ h
/-- a zero more, the exponent one less: the same number -/
theorem ex_tens {m e b E : Int} : ExIs m e b E ↔ ExIs (10 * m) (e - 1) b E := by
  apply round_cross (scB_pos' (exD_pos e)) (scB_pos' (exD_pos (e - 1)))
  rw [scB_flat, scB_flat]
  unfold scA
  rw [Int.mul_right_comm, Int.mul_right_comm (exN (10 * m) (e - 1))]
  apply congrArg (· * e2 (0 + 1074))
  unfold exN exD
  by_cases h : 1 ≤ e
  · rw [if_pos (by omega), if_pos (by omega), if_pos (by omega), if_pos (by omega), Int.mul_one, Int.mul_one]
    have : e.toNat = (e - 1).toNat + 1 := by omega
    rw [this, Int.pow_succ]
    generalize (10 : Int) ^ (e - 1).toNat = P
    grind
  · by_cases h0 : e = 0
    · subst h0
      rw [if_pos (by omega), if_neg (by omega), if_neg (by omega), if_pos (by omega)]
      simp
      omega
    · rw [if_neg (by omega), if_neg (by omega), if_neg (by omega), if_neg (by omega)]
      have : (-(e - 1)).toNat = (-e).toNat + 1 := by omega
      rw [this, Int.pow_succ]
      generalize (10 : Int) ^ (-e).toNat = P
      grind
theorem tens_same {m e b E b' E' : Int} (hm : U m) (hm' : U (10 * m)) (h : FastIs m e b E) (h' : FastIs (10 * m) (e - 1) b' E') (h1 : E ≠ 100) (h2 : E' ≠ 100) : b = b' ∧ E = E' :=
  ex_uniq (ex_tens.mp (sure_ex hm h h1)) (sure_ex hm' h' h2)
/-- the greater number's answer is not below -/
theorem ex_rise {m e n f b E b' E' : Int} (hm : 0 ≤ m) (hmn : m ≤ n) (hef : e ≤ f) (h : ExIs m e b E) (h' : ExIs n f b' E') : (E' = 70 ∧ b' = 0) ∨ (E = 0 ∧ E' = 0 ∧ b ≤ b') := by
  refine round_rise (scB_pos' (exD_pos e)) (scB_pos' (exD_pos f)) ?_ h h'
  rw [scB_flat, scB_flat]
  unfold scA
  rw [Int.mul_right_comm, Int.mul_right_comm (exN n f)]
  apply Int.mul_le_mul_of_nonneg_right _ (Int.le_of_lt (e2_pos _))
  have mono : ∀ (a b : Nat), a ≤ b → (10 : Int) ^ a ≤ 10 ^ b := fun a b h => t10_mono h
  have pos : ∀ a : Nat, (0 : Int) < 10 ^ a := fun a => t10_pos a
  unfold exN exD
  by_cases h0 : 0 ≤ e
  · rw [if_pos h0, if_pos (by omega), if_pos (by omega), if_pos h0, Int.mul_one, Int.mul_one]
    exact Int.mul_le_mul hmn (mono _ _ (by omega)) (Int.le_of_lt (pos _)) (by omega)
  · by_cases h1 : 0 ≤ f
    · rw [if_neg h0, if_pos h1, if_pos h1, if_neg h0, Int.mul_one]
      have p1 := pos f.toNat
      have p2 := pos (-e).toNat
      have q : m * 1 ≤ n * 10 ^ f.toNat * 10 ^ (-e).toNat := by
        rw [Int.mul_assoc]
        refine Int.mul_le_mul hmn ?_ (by omega) (by omega)
        have := Int.mul_pos p1 p2
        omega
      omega
    · rw [if_neg h0, if_neg h1, if_neg h1, if_neg h0]
      exact Int.mul_le_mul hmn (mono _ _ (by omega)) (Int.le_of_lt (pos _)) (by omega)
/-- what rises makes of two answers -/
theorem rises_said {m e n f b E b' E' : Int} (hm : U m) (hn : U n) (hmn : m ≤ n) (hef : e ≤ f) (h : FastIs m e b E) (h' : FastIs n f b' E') :
    E = 100 ∨ E' = 100 ∨ E' = 70 ∨ (E = 0 ∧ E' = 0 ∧ 0 ≤ b ∧ b ≤ b' ∧ b' ≤ mostP) := by
  by_cases q1 : E = 100
  · exact Or.inl q1
  by_cases q2 : E' = 100
  · exact Or.inr (Or.inl q2)
  have x1 := sure_ex hm h q1
  have x2 := sure_ex hn h' q2
  rcases ex_rise hm.1 hmn hef x1 x2 with ⟨r, _⟩ | ⟨r1, r2, r3⟩
  · exact Or.inr (Or.inr (Or.inl r))
  · right; right; right
    rcases round_over (scB_pos' (exD_pos e)) x1 with ⟨s, _⟩ | ⟨_, s1, s2, _⟩
    · omega
    · rcases round_over (scB_pos' (exD_pos f)) x2 with ⟨s, _⟩ | ⟨_, s3, s4, _⟩
      · omega
      · exact ⟨r1, r2, s1, r3, s4⟩
theorem cmp_le {a b : Int} (h0 : 0 ≤ a) (h1 : a ≤ b) (h2 : b ≤ mostP) : cmE a b = 0 ∧ cmW a b ≤ 0 := by
  obtain ⟨_, f1, _⟩ := size_fin h0 (by omega)
  obtain ⟨_, f2, _⟩ := size_fin (p := b) (by omega) h2
  unfold cmE cmW
  rw [if_neg f1, if_neg f2, if_neg f1, if_neg f2]
  refine ⟨rfl, ?_⟩
  unfold mostP at h2
  unfold rk0 ord
  have q1 : a < 9223372036854775808 := by omega
  have q2 : b < 9223372036854775808 := by omega
  simp only [if_pos q1, if_pos q2]
  split
  · omega
  · split <;> omega
end Ar
set_option maxHeartbeats 1600000 in
theorem alive10_any {w : World} (hT : TenVar w) : Calls Tryz.prog 9 #[] w fun r w' => r = .returned (.bool true) ∧ Below w.heap.size w w' := by
  have h1 := lemSmall_any (m := 1) (e := -1) (by unfold U; omega) (by omega) (by omega) hT
  have ok : smallOk 1 (-1) = true := by decide
  rw [ok] at h1
  have h2 := fun w => lemFast_any (m := 1) (e := 23) (by unfold U; omega) (by omega) (by omega) w
  have h3 := fun w => lemCut_any ⟨#[48, 48, 49, 50, 120]⟩ (by decide) w
  have h4 := fun w => lemCut_any ⟨#[48, 48, 49, 50]⟩ (by decide) w
  have c1 : cutV (ByteArray.mk #[48, 48, 49, 50, 120]).data.toList = 0 := by decide
  have c2 : cutN (ByteArray.mk #[48, 48, 49, 50, 120]).data.toList = 0 := by decide
  have c3 : cutMr (ByteArray.mk #[48, 48, 49, 50, 120]).data.toList = false := by decide
  have c4 : cutE (ByteArray.mk #[48, 48, 49, 50, 120]).data.toList = 41 := by decide
  have d1 : cutV (ByteArray.mk #[48, 48, 49, 50]).data.toList = 12 := by decide
  have d2 : cutN (ByteArray.mk #[48, 48, 49, 50]).data.toList = 4 := by decide
  have d3 : cutMr (ByteArray.mk #[48, 48, 49, 50]).data.toList = false := by decide
  have d4 : cutE (ByteArray.mk #[48, 48, 49, 50]).data.toList = 0 := by decide
  rw [c1, c2, c3, c4] at h3
  rw [d1, d2, d3, d4] at h4
  clear c1 c2 c3 c4 d1 d2 d3 d4 hT ok
  go_enter Tryz.func9, Tryz.ntmps9
  go_wp2_with fail
  refine h1.mono ?_
  rintro r w1 ⟨b, rfl, hs, _, ub, hb1⟩
  obtain rfl := small_one (hs trivial)
  clear h1 hs ub
  go_wp2_with fail
  refine (h2 _).mono ?_
  rintro r w2 ⟨b, E, rfl, hf, _, hb⟩
  obtain ⟨rfl, rfl⟩ := fast_one hf
  have hB := hb1.trans (hb.mono hb1.size)
  clear h2 hf hb hb1
  go_wp2_with fail
  refine (h3 _).mono ?_
  rintro r w3 ⟨rfl, hb⟩
  have hB := hB.trans (hb.mono hB.size)
  clear h3 hb
  go_wp2_with fail
  refine (h4 _).mono ?_
  rintro r w4 ⟨rfl, hb⟩
  have hB := hB.trans (hb.mono hB.size)
  clear h4 hb
  go_wp2
  go_ret
  exact ⟨rfl, hB⟩
end Go.Proofs.YtbbmoaipilmmdaaGreatDoor
