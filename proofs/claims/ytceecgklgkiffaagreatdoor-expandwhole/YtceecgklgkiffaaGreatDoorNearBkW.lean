/- NearBack. -/
import Derived.Test.YtceecgklgkiffaaGreatDoorNearH
import Derived.Test.YtceecgklgkiffaaGreatDoorNearR
import Derived.Test.YtceecgklgkiffaaGreatDoorNearF
import Derived.Test.YtceecgklgkiffaaGreatDoorRatG
namespace Go.Proofs.YtceecgklgkiffaaGreatDoor
open Go.ChangeShapes Go.WideShapes Go.ChangeAt Go.RowKit
open Na Ar
set_option linter.unusedVariables false
namespace Na
theorem ordR_self (p : Rat) : ordR p p = 0 := by
  unfold ordR
  rw [if_neg Rat.lt_irrefl, if_pos rfl]
theorem valR_neg {b : Int} (h : U b) (hf : ef b ≠ 2047) : valR b + valR (negW b) = ((0 : Int) : Rat) := by
  have e1 : spM (negW b) = spM b := by unfold spM; rw [ef_negW h, fr_negW h]
  have e3 : spX (negW b) = spX b := by unfold spX; rw [ef_negW h]
  have e4 : spS (negW b) = !spS b := by
    unfold spS; rw [ef_negW h, if_neg hf, if_neg hf]
    unfold U at h
    unfold negW
    rw [Bool.eq_iff_iff]
    simp
    split <;> omega
  unfold valR
  rw [e1, e3, e4]
  unfold mkR
  have s : sg (!spS b) (spM b * e2 (spX b)) = -(sg (spS b) (spM b * e2 (spX b))) := by
    unfold sg
    cases spS b <;> simp
  rw [s, ← Rat.neg_mkRat, Rat.add_neg_cancel]
  rfl
theorem sgn_zero : sgnR ((0 : Int) : Rat) = 0 := rfl
theorem fin_size {b : Int} (h : U b) (hf : ef b ≠ 2047) : 0 ≤ mg b ∧ mg b ≤ mostP ∧ numW (mg b) = numW b := by
  have b1 := mg_bd b
  have b2 := mg_parts b
  have b3 := ef_bd b
  have b4 := fr_bd b
  have l : mg b ≤ mostP := by unfold mostP; omega
  obtain ⟨u1, f1, m1⟩ := size_fin b1.1 l
  exact ⟨b1.1, l, (num_ord u1 h f1 hf).2 m1⟩
theorem want_is {b : Int} (h : U b) (hf : ef b ≠ 2047) : mg b + sgB (decide ((valR b).num < 0)) = wantB b := by
  obtain ⟨p, e1, e2', e3, e4, e5, e6, e7⟩ := num_parts h hf
  have pp := pat_parts h hf
  by_cases hz : spM b = 0
  · have q : valR b = ((0 : Int) : Rat) := by rw [binQ_val, hz, binQ_zero]
    have hm : mg b = 0 := by omega
    rw [q, hm]
    unfold wantB
    unfold mg at hm
    unfold U at h
    show (0 : Int) + 0 = _
    split <;> omega
  · obtain ⟨K, o, hmo, ho2, ho0, hzn, hdv⟩ := two_form (M := spM b) (by omega)
    have q : valR b = binQ (spS b) o (spX b + K) := by rw [binQ_val, hmo]; exact binQ_move _ (by omega) K _
    obtain ⟨a1, a2, a3⟩ := binQ_odd ho2 ho0 (spS b) (spX b + K)
    rw [q, a3]
    unfold wantB
    rw [if_neg]
    · omega
    · intro r
      have : mg b = 0 := by rw [r]; rfl
      omega
theorem round_val {b v E mode : Int} {s : Bool} (h : U b) (hf : ef b ≠ 2047) (hs : s = decide ((valR b).num < 0)) (hr : RoundIs (scA ((valR b).num.natAbs : Int) 0) (scB ((valR b).den : Int) 0) false s mode v E) : v = wantB b ∧ E = 0 := by
  obtain ⟨f1, f2, f3⟩ := fin_size h hf
  have pD : (0 : Int) < ((valR b).den : Int) := by have := (valR b).den_pos; omega
  have pB : 0 < scB ((valR b).den : Int) 0 := by unfold scB; exact Int.mul_pos pD (e2_pos _)
  have eq : scA ((valR b).num.natAbs : Int) 0 = numW (mg b) * scB ((valR b).den : Int) 0 := by
    rw [f3]
    unfold scA scB
    rw [e2_zero (show -(0 + 1074 : Int) ≤ 0 by omega), Int.mul_one, Int.zero_add]
    have nn : 0 ≤ numW b := by rw [← f3]; exact num_nonneg' f1 f2
    have p1 := e2_pos 1074
    have c := mkR_cross (spS b) nn p1
    rw [← valR_num h hf] at c
    have c2 := congrArg (fun z : Int => (z.natAbs : Int)) c
    simp only [Int.natAbs_mul, Int.natCast_mul] at c2
    rw [sg_abs _ nn] at c2
    have q1 : ((e2 1074).natAbs : Int) = e2 1074 := by omega
    rw [q1] at c2
    rw [c2]
    simp
  have rs := round_self (neg := s) (mode := mode) pB f1 f2 eq
  have u := roundIs_uniq pB hr rs
  rw [u.1, hs, want_is h hf]
  exact ⟨rfl, u.2⟩
end Na
end Go.Proofs.YtceecgklgkiffaaGreatDoor
