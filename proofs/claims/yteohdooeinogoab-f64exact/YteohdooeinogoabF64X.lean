/- plumblaw06: F64Exact. -/
import Derived.Test.YteohdooeinogoabF64N
namespace Go.Proofs.Yteohdooeinogoab
open Go.ChangeShapes Go.WideShapes Go.ChangeAt Go.RowKit
open Na Ar
set_option linter.unusedVariables false

theorem zeros_iff {m : Int} (hm : 0 < m) (t : Nat) : m % 2 ^ t = 0 ↔ (t : Int) ≤ zerosN m := by
  have h := zeros_lost hm t
  rw [Bool.eq_iff_iff] at h
  simp at h
  omega
theorem zeros_bd {m : Int} (hm : U m) (h0 : m ≠ 0) : 0 ≤ zerosN m ∧ zerosN m ≤ 63 := by
  have hp : 0 < m := by unfold U at hm; omega
  refine ⟨(zeros_iff hp 0).mp (by rw [Int.pow_zero]; exact Int.emod_one _), ?_⟩
  apply Decidable.byContradiction
  intro hc
  have h : m % 2 ^ 64 = 0 := (zeros_iff hp 64).mpr (by omega)
  have e : (2 : Int) ^ 64 = 18446744073709551616 := rfl
  unfold U at hm
  rw [e] at h
  omega
theorem bits_len {m : Int} (hm : U m) (h0 : m ≠ 0) : bitsN m = lenW m ∧ 1 ≤ bitsN m ∧ bitsN m ≤ 64 := by
  have hp : 0 < m := by unfold U at hm; omega
  obtain ⟨b, e, l1, l2⟩ := bits_some hp
  have := lenW_eq l1 l2
  obtain ⟨k, hk, e', _, _⟩ := lenW_pos hm h0
  omega
/-- where there is a pattern -/
def ExC (m x : Int) : Prop := -4000 ≤ x ∧ x ≤ 4000 ∧ bitsN m - zerosN m ≤ 53 ∧ -1074 ≤ x + zerosN m ∧ x + bitsN m ≤ 1024
theorem pow_e2 {d : Int} (h : 0 ≤ d) : e2 d = 2 ^ d.toNat := rfl
theorem exc_yes {m x : Int} (hm : U m) (h0 : m ≠ 0) (h : ExC m x) : ∃ M, Nf m x M (atX m x) ∧ atX m x ≤ 971 := by
  have hp : 0 < m := by unfold U at hm; omega
  obtain ⟨h1, h2, h3, h4, h5⟩ := h
  obtain ⟨b1, b2, b3⟩ := bits_len hm h0
  have hA : atX m x = max (x + bitsN m - 53) (-1074) := by unfold atX; rw [b1]
  by_cases hx : atX m x ≤ x
  · exact ⟨_, nf_up hm h0 hx, by omega⟩
  · refine ⟨_, nf_down hm h0 (by omega) ?_, by omega⟩
    exact (zeros_iff hp _).mpr (by omega)
theorem exc_no {m x M X : Int} (hm : U m) (h0 : m ≠ 0) (h : Nf m x M X) (hX : X ≤ 971) : ExC m x := by
  have hp : 0 < m := by unfold U at hm; omega
  obtain ⟨b1, b2, b3⟩ := bits_len hm h0
  obtain ⟨z1, z2⟩ := zeros_bd hm h0
  have hA := at_right hm h0 h
  unfold atX at hA
  rw [← b1] at hA
  have hd : X - x ≤ zerosN m := by
    obtain ⟨s, _, _, _, _⟩ := h
    by_cases hx : X ≤ x
    · omega
    · rcases s with ⟨l, _⟩ | ⟨l, e⟩
      · omega
      · have := (zeros_iff hp (X - x).toNat).mp (by rw [e]; exact Int.mul_emod_left _ _)
        omega
  obtain ⟨s, a1, a2, a3, a4⟩ := h
  unfold ExC
  have hn : bitsN m - zerosN m ≤ 53 := by
    by_cases hx : X ≤ x
    · rcases s with ⟨l, e⟩ | ⟨l, e⟩
      · have hp2 := e2_pos (x - X)
        have : m * 1 ≤ m * e2 (x - X) := Int.mul_le_mul_of_nonneg_left (by omega) (by omega)
        obtain ⟨k, hk, e', l1, l2⟩ := at_bd (x := x) hm h0
        have : e2 k < e2 53 := by rw [e2_53]; omega
        have : ¬ (53 ≤ (k : Int)) := fun hc => by have := e2_le hc; omega
        omega
      · have : x = X := by omega
        omega
    · omega
  refine ⟨by omega, by omega, hn, by omega, by omega⟩
/-- Split of what was joined -/
theorem split_of {s : Bool} {M X b : Int} (hb : b = sg s + (X + 1074) * 4503599627370496 + M) (h1 : -1074 ≤ X) (h2 : X ≤ 971) (h3 : 0 < M) (h4 : M < 9007199254740992) (h5 : X = -1074 ∨ 4503599627370496 ≤ M) :
    U b ∧ spS b = s ∧ spM b = M ∧ spX b = X ∧ fiE b = 0 := by
  have hs : (s = true ∧ sg s = 9223372036854775808) ∨ (s = false ∧ sg s = 0) := by cases s <;> simp [sg]
  have hu : U b := by unfold U; omega
  have he : ef b = (if M < 4503599627370496 then 0 else X + 1075) := by
    unfold ef
    split <;> omega
  have hr : fr b = (if M < 4503599627370496 then M else M - 4503599627370496) := by
    unfold fr
    split <;> omega
  have hf : ef b ≠ 2047 := by rw [he]; split <;> omega
  refine ⟨hu, ?_, ?_, ?_, ?_⟩
  · unfold spS
    rw [if_neg hf]
    rcases hs with ⟨rfl, e⟩ | ⟨rfl, e⟩
    · simp; omega
    · simp; omega
  · unfold spM
    rw [if_neg hf, he, hr]
    by_cases l : M < 4503599627370496
    · rw [if_pos l, if_pos l, if_pos rfl]
    · rw [if_neg l, if_neg l, if_neg (by omega)]; omega
  · unfold spX
    rw [if_neg hf, he]
    by_cases l : M < 4503599627370496
    · rw [if_pos l, if_pos rfl]; omega
    · rw [if_neg l, if_neg (by omega)]; omega
  · unfold fiE; rw [if_neg hf]
theorem num_one {m : Int} (hm : U m) : num [m] = m := (Nm.one hm).num
theorem zerosOne {m z : Int} (hm : U m) (hz : zerosN m = z) (w : World) :
    Calls Try.prog 21 #[.slice (some ⟨w.heap.size, 0, none⟩) 1 1] (w.alloc (.cells #[.int .u64 m] 22)) fun e w' => e = .returned (.int .i64 z) ∧ Below w.heap.size w w' := by
  have h := natZeros_any (rowC_one w m 22) (Nm.one hm).ws (by omega)
  rw [num_one hm, hz] at h
  have b1 := alloc_below (w := w) (.cells #[.int .u64 m] 22)
  exact h.mono fun e w' k => ⟨k.1, b1.trans (k.2.mono b1.size)⟩
theorem bitsOne {m z : Int} (hm : U m) (hz : bitsN m = z) (w : World) :
    Calls Try.prog 22 #[.slice (some ⟨w.heap.size, 0, none⟩) 1 1] (w.alloc (.cells #[.int .u64 m] 22)) fun e w' => e = .returned (.int .i64 z) ∧ Below w.heap.size w w' := by
  have h := natBits_any (rowC_one w m 22) (Nm.one hm).ws (by omega)
  rw [num_one hm, hz] at h
  have b1 := alloc_below (w := w) (.cells #[.int .u64 m] 22)
  exact h.mono fun e w' k => ⟨k.1, b1.trans (k.2.mono b1.size)⟩
theorem shlOne {m : Int} (hm : U m) (t : Nat) (ht : t ≤ 2100) (w : World) :
    Calls Try.prog 23 #[.slice (some ⟨w.heap.size, 0, none⟩) 1 1, .int .i64 (t : Int)] (w.alloc (.cells #[.int .u64 m] 22)) fun e w' => ∃ a n c l, e = .returned (.tuple #[.slice a n c, .int .i64 0]) ∧ RowC w' a n c l ∧ Nm l (m * 2 ^ t) ∧ Below w.heap.size w w' := by
  have hL : Lt (m * 2 ^ t) 34 := ((Lt.word (x := m) hm).pow2 (t := t)).mono (by omega)
  have b1 := alloc_below (w := w) (.cells #[.int .u64 m] 22)
  refine (shlQ (rowC_one w m 22) (Nm.one hm) t (by omega) hL (by omega)).mono ?_
  rintro e w1 ⟨a, n, c, l, rfl, r, nm, _, hb⟩
  exact ⟨a, n, c, l, rfl, r, nm, b1.trans (hb.mono b1.size)⟩
end Go.Proofs.Yteohdooeinogoab
