/- Plain numbers: what near.Scaled comes to. -/
import Derived.Test.YtceecgklgkiffaaGreatDoorNearB
namespace Go.Proofs.YtceecgklgkiffaaGreatDoor
open Go.ChangeShapes Go.WideShapes Go.ChangeAt Go.RowKit
open Na Ar
set_option linter.unusedVariables false
theorem zeros_char {N : Int} (h : 0 < N) : ∃ u, 0 ≤ zerosN N ∧ u % 2 = 1 ∧ N = e2 (zerosN N) * u := by
  obtain ⟨k, m, hk⟩ := odd_part N.toNat (by omega)
  have e : N = 2 ^ k * (2 * (m : Int) + 1) := by
    have : N = ((2 ^ (k + 1) * m + 2 ^ k : Nat) : Int) := by omega
    rw [this, Int.natCast_add, Int.natCast_mul, p2cast, p2cast, Int.pow_succ]
    grind
  have hz : zerosN N = k := zerosN_eq e (by omega) (by omega)
  refine ⟨2 * (m : Int) + 1, by omega, by omega, ?_⟩
  rw [hz]
  unfold e2
  rw [Int.toNat_natCast]
  exact e
theorem join_cut {m X : Int} (h0 : 0 ≤ m) (h1 : m < 9007199254740992) (hX : -1074 ≤ X) (h2 : X = -1074 ∨ 4503599627370496 ≤ m) :
    (X ≤ 971 → JoinIs false m X ((X + 1074) * 4503599627370496 + m) 0) ∧ (971 < X → JoinIs false m X 0 61) := by
  have hs : sgB false = 0 := rfl
  by_cases hm : m = 0
  · have : X = -1074 := by omega
    subst hm this
    refine ⟨fun _ => Or.inl ⟨rfl, by rw [hs]; rfl, rfl⟩, fun h => by omega⟩
  · have hn : Nf m X m X := ⟨sm_refl m X, hX, by omega, h1, h2⟩
    refine ⟨fun h => Or.inr ⟨hm, Or.inl ⟨m, X, hn, h, by rw [hs]; omega, rfl⟩⟩, fun h => Or.inr ⟨hm, Or.inr ⟨fun M Y hY => ?_, rfl, rfl⟩⟩⟩
    obtain ⟨_, rfl⟩ := nf_uniq hn hY
    exact h
theorem ends_to {A B A' B' mode d m k : Int} {more neg : Bool} (h : ∀ b e, RoundIs A B more neg mode b e → RoundIs A' B' more neg mode b e) (c : CutEnds A B more neg mode d m k) : CutEnds A' B' more neg mode d m k :=
  ⟨fun g => h _ _ (c.1 g), fun g g' => h _ _ (c.2.1 g g'), fun g g' => h _ _ (c.2.2 g g')⟩
/-- the cut's answer, and what it means -/
theorem cut_tells {M x mode : Int} {more neg : Bool} (h0 : 0 ≤ M) (hb : bitsN M ≤ 576460752303423488) (hm0 : 0 ≤ mode) (hm1 : mode ≤ 4) :
    ∃ m X k, cutM M (bitsN M) (heldX (bitsN M) x) = m ∧ cutX (bitsN M) (heldX (bitsN M) x) = X ∧ kK (bitN M (cutX (bitsN M) (heldX (bitsN M) x) - heldX (bitsN M) x - 1)) (zerosN M) (cutX (bitsN M) (heldX (bitsN M) x) - heldX (bitsN M) x) more = k ∧
      0 ≤ m ∧ m < 9007199254740992 ∧ -1074 ≤ X ∧ X ≤ 2305843009213693952 ∧ (X = -1074 ∨ 4503599627370496 ≤ m) ∧ (X ≤ 971 → 0 ≤ (X + 1074) * 4503599627370496 + m ∧ (X + 1074) * 4503599627370496 + m ≤ mostP ∧ CutEnds (scA M x) (scB 1 x) more neg mode ((X + 1074) * 4503599627370496 + m) m k) ∧
      (971 < X → (numW mostP + nxtN mostP) * scB 1 x < 2 * scA M x) := by
  refine ⟨_, _, _, rfl, rfl, rfl, ?_⟩
  by_cases hM : 0 < M
  · obtain ⟨L1, L2, L3⟩ := bits_char hM
    have hL0 : bitsN M ≠ 0 := by omega
    have hX : heldX (bitsN M) x = min (max x (-1152921504606846976)) 1152921504606846976 := by unfold heldX; rw [if_neg hL0]
    rw [hX]
    obtain ⟨f0, f1, f2⟩ := cut_form (x := min (max x (-1152921504606846976)) 1152921504606846976) hM L1 L2 L3
    have hc0 : cutX (bitsN M) (min (max x (-1152921504606846976)) 1152921504606846976) = max (min (max x (-1152921504606846976)) 1152921504606846976 + bitsN M - 53) (-1074) := rfl
    have p0 : -1074 ≤ cutX (bitsN M) (min (max x (-1152921504606846976)) 1152921504606846976) := by omega
    refine ⟨f0, f1, p0, by omega, f2, fun h => ?_, fun h => ?_⟩
    · obtain ⟨q0, q1, _⟩ := pat_at f0 f1 p0 h f2
      refine ⟨q0, q1, ?_⟩
      obtain ⟨u, z0, u1, u2⟩ := zeros_char hM
      have c := cut_round (x := min (max x (-1152921504606846976)) 1152921504606846976) (more := more) (neg := neg) hM L1 L2 L3 z0 u1 u2 hm0 hm1 h
      have eb : ∀ i, bitE M i = bitN M i := fun i => by unfold bitE bitN e2; rfl
      rw [eb] at c
      exact ends_to (fun b e hr => far_same hM L1 L2 L3 (by omega) hm0 hm1 hr) c
    · refine cut_huge L2 L1 ?_
      omega
  · have : M = 0 := by omega
    subst this
    have hL : bitsN 0 = 0 := rfl
    have hX : heldX 0 x = -1074 := by unfold heldX; rw [if_pos rfl]
    have hc : cutX 0 (-1074) = -1074 := by unfold cutX; omega
    rw [hL, hX, hc]
    have hm : cutM 0 0 (-1074) = 0 := by unfold cutM; rw [Int.zero_ediv, Int.zero_mul]
    rw [hm]
    have hk : kK (bitN 0 (-1074 - -1074 - 1)) (zerosN 0) (-1074 - -1074) more = if more = true then 1 else 0 := by
      rw [zerosN_zero]
      have : bitN 0 (-1074 - -1074 - 1) = 0 := rfl
      rw [this]
      unfold kK
      rw [if_neg (by omega)]
      cases more <;> simp
    rw [hk]
    refine ⟨by omega, by omega, by omega, by omega, Or.inl rfl, fun _ => ⟨by omega, by unfold mostP; omega, ?_⟩, fun h => by omega⟩
    exact cut_none hm0 hm1
/-- beyond the greatest: the answer -/
theorem huge_ends {A B mode : Int} {more neg : Bool} (hB : 0 < B) (h : (numW mostP + nxtN mostP) * B < 2 * A) (hm0 : 0 ≤ mode) (hm1 : mode ≤ 4) :
    (stK neg mode = false → RoundIs A B more neg mode 0 70) ∧ (stK neg mode = true → RoundIs A B more neg mode (mostP + sgB neg) 0) := by
  obtain ⟨t1, t2⟩ := round_huge (mode := mode) (neg := neg) (more := more) hB h
  unfold stK
  rcases mode_cases hm0 hm1 with rfl | rfl | rfl | rfl | rfl <;> cases neg <;> simp at t1 t2 ⊢ <;> assumption
theorem neg_of {d : Int} (h0 : 0 ≤ d) (h1 : d ≤ mostP) : negW d = d + sgB true ∧ U d := by
  unfold mostP at h1
  unfold negW sgB U
  rw [if_pos (by omega), if_pos rfl]
  omega
theorem next_of {d : Int} (h0 : 0 ≤ d) (h1 : d ≤ mostP) : (d < mostP → nxW d = d + 1 ∧ nxE d = 0) ∧ (d = mostP → nxE d = 62) := by
  obtain ⟨f1, f2, f3⟩ := fields_of h0 h1
  unfold mostP at *
  unfold nxW nxE
  refine ⟨fun h => ?_, fun h => ?_⟩
  · have e1 : ¬ ef d = 2047 := by omega
    have e2 : ¬ d = 9218868437227405311 := by omega
    have e3 : d < 9223372036854775808 := by omega
    simp only [if_neg e1, if_neg e2, if_pos e3, and_self]
  · have e1 : ¬ ef d = 2047 := by omega
    simp only [if_neg e1, if_pos h]
end Go.Proofs.YtceecgklgkiffaaGreatDoor
