/- plumblaw07: size, value, above. -/
import Derived.Test.YtceecgklgkiffaaGreatDoorNearV
namespace Go.Proofs.YtceecgklgkiffaaGreatDoor
open Go.ChangeShapes Go.WideShapes Go.ChangeAt Go.RowKit
open Na Ar
set_option linter.unusedVariables false
theorem mkR_abs {s : Bool} {A B : Int} (hA : 0 ≤ A) (hB : 0 < B) : ((mkR s A B).num.natAbs = (mkR false A B).num.natAbs) ∧ (mkR s A B).den = (mkR false A B).den ∧ ¬ (mkR false A B).num < 0 := by
  have h0 : ¬ (mkR false A B).num < 0 := by
    intro h
    have := mkR_cross false hA hB
    have p : 0 ≤ sg false A * ((mkR false A B).den : Int) := Int.mul_nonneg (by unfold sg; simp; omega) (by omega)
    have : (mkR false A B).num * B < 0 := Int.mul_neg_of_neg_of_pos h hB
    omega
  cases s
  · exact ⟨rfl, rfl, h0⟩
  · have e : mkR true A B = -(mkR false A B) := by
      unfold mkR sg
      simp [Rat.neg_mkRat]
    rw [e]
    exact ⟨by rw [Rat.neg_num]; omega, by rw [Rat.neg_den], h0⟩
section
variable {w : World} {s1 : Bool} {a1 b1 : Option Addr} {n1 c1 m1 d1 : Nat} {k : Nat}
theorem Rt.size7 {s : Bool} {A B : Int} (hA : 0 ≤ A) (hB : 0 < B) (h : Rt w s1 a1 n1 c1 b1 m1 d1 (mkR s A B)) : Rt w false a1 n1 c1 b1 m1 d1 (mkR false A B) := by
  obtain ⟨e1, e2, e3⟩ := mkR_abs (s := s) hA hB
  refine ⟨(decide_eq_false e3).symm, ?_, ?_⟩
  · have := h.nu; rw [e1] at this; exact this
  · have := h.de; rw [e2] at this; exact this
/-- a pattern's number -/
def valR (b : Int) : Rat := mkR (spS b) (spM b * e2 (spX b)) (e2 (-(spX b)))
theorem valR_num {b : Int} (h : U b) (hf : ef b ≠ 2047) : valR b = mkR (spS b) (numW b) (e2 1074) := by
  obtain ⟨p, e1, e2', e3, e4, e5, e6, e7⟩ := num_parts h hf
  unfold valR
  have hx : -1074 ≤ spX b := by omega
  rw [mk_eq (Int.mul_nonneg e3 (Int.le_of_lt (e2_pos _))) (e2_pos _) (by rw [e7]; exact Int.mul_nonneg e3 (Int.le_of_lt (p2pos _))) (e2_pos _)]
  have key : spM b * e2 (spX b) * e2 1074 = numW b * e2 (-(spX b)) := by
    rw [e7, ← e2_nat p, ← e1]
    by_cases hx0 : 0 ≤ spX b
    · rw [e2_zero (k := -(spX b)) (by omega), Int.mul_one, Int.mul_assoc, ← e2_add hx0 (by omega)]
    · rw [e2_zero (k := spX b) (by omega), Int.mul_one, Int.mul_assoc, ← e2_add (by omega) (by omega)]
      congr 2; omega
  have sgm : ∀ s x y, sg s x * y = sg s (x * y) := fun s x y => by unfold sg; split <;> simp [Int.neg_mul]
  rw [sgm, sgm, key]
theorem value_size {b : Int} (h : U b) (hf : ef b ≠ 2047) : Sz (valR b) 20 := by
  obtain ⟨p, e1, e2', e3, e4, e5, e6, e7⟩ := num_parts h hf
  unfold valR
  have l1 : Lt (spM b * e2 (spX b)) 20 := ((Lt.word (x := spM b) ⟨e3, by omega⟩).pow2 (t := (spX b).toNat)).mono (by omega)
  have l2 : Lt (e2 (-(spX b))) 20 := by
    have := (Lt.word (x := 1) (by omega)).pow2 (t := (-(spX b)).toNat)
    rw [Int.one_mul] at this
    exact this.mono (by omega)
  exact Sz.mkR l1 l2 (e2_pos _)
theorem spS_low {b : Int} (h0 : 0 ≤ b) (h1 : b ≤ mostP) : spS b = false := by
  unfold mostP at h1
  unfold spS
  split
  · rfl
  · exact decide_eq_false (by omega)
/-- the number of a pattern without a sign -/
theorem valR_low {b : Int} (h0 : 0 ≤ b) (h1 : b ≤ mostP) : valR b = mkR false (numW b) (e2 1074) := by
  obtain ⟨u, f, _⟩ := size_fin h0 h1
  rw [valR_num u f, spS_low h0 h1]
theorem nxt_most : nxtN mostP = e2 2098 := by
  obtain ⟨m1, m2⟩ := most_nums
  unfold nxtN
  rw [m1, m2]
  have e : e2 2098 = e2 53 * e2 2045 := by rw [← e2_add (by omega) (by omega)]; rfl
  rw [e, e2_53]
  generalize e2 2045 = P
  omega
theorem top_is7 : mkR false (1 * 2 ^ 1024) 1 = mkR false (nxtN mostP) (e2 1074) := by
  rw [nxt_most, mk_eq (Int.mul_nonneg (by omega) (Int.le_of_lt (p2pos _))) (by omega) (Int.le_of_lt (e2_pos _)) (e2_pos _)]
  have : (1 * (2 : Int) ^ 1024) * e2 1074 = e2 2098 * 1 := by
    rw [Int.one_mul, Int.mul_one, ← e2_nat 1024, ← e2_add (by omega) (by omega)]; rfl
  unfold sg
  simp only [Bool.false_eq_true, if_false]
  exact this
end
end Go.Proofs.YtceecgklgkiffaaGreatDoor
