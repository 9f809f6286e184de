/- Layer 13: the walk of ExpandWhole. -/
import Derived.Test.YtceecgklgkiffabGreatDoorExpL
namespace Go.Proofs.YtceecgklgkiffabGreatDoor
open Go.ChangeShapes Go.WideShapes Go.ChangeAt Go.RowKit
open Na Ar Ep
set_option linter.unusedVariables false
namespace Ep
theorem dT_cast : ((dT : Nat) : Int) = e2 1074 := by
  have h : (1074 : Int) = ((dX : Nat) : Int) := rfl
  rw [h, e2_nat]
  unfold dT
  rw [Int.natCast_pow]
  rfl
theorem mg_low {b : Int} (hf : ef b ≠ 2047) : 0 ≤ mg b ∧ mg b ≤ mostP := by
  have a := mg_bd b
  have c := mg_parts b
  have d := ef_bd b
  have e := fr_bd b
  have m : mostP = 9218868437227405311 := rfl
  omega
theorem val_mg {b : Int} (hf : ef b ≠ 2047) : valR (mg b) = mkR false ((szA b : Nat) : Int) (e2 1074) := by
  have h := mg_low hf
  rw [valR_low h.1 h.2]
  have hn := num_nonneg' h.1 h.2
  have : ((szA b : Nat) : Int) = numW (mg b) := by
    rw [← szA_mg]
    unfold szA
    omega
  rw [this]
theorem dec_val {b : Int} (hf : ef b ≠ 2047) {N L : Nat} {x : Int} (h : Dec (szA b) N L x) : dcR N x = valR (mg b) := by
  rw [val_mg hf]
  unfold dcR
  have h0 : 0 ≤ dcN N x := Int.mul_nonneg (by omega) (Int.pow_nonneg (by omega))
  rw [mk_eq h0 (dcD_pos x) (by omega) (e2_pos _)]
  show dcN N x * e2 1074 = ((szA b : Nat) : Int) * dcD x
  have e := h.eq
  have e' : ((N * 10 ^ x.toNat * dT : Nat) : Int) = ((szA b * 10 ^ (-x).toNat : Nat) : Int) := by rw [e]
  rw [Int.natCast_mul, Int.natCast_mul, Int.natCast_mul, Int.natCast_pow, Int.natCast_pow, dT_cast] at e'
  exact e'
theorem val_sign {b : Int} (hf : ef b ≠ 2047) : sgnR (valR (mg b)) = if szA b = 0 then 0 else 1 := by
  have hf' : ef (mg b) ≠ 2047 := by rw [ef_mg]; exact hf
  have hneg : ¬ (valR (mg b)).num < 0 := by
    rw [val_mg hf]
    exact (mkR_abs (s := false) (by omega) (e2_pos _)).2.2
  have hp := size_parts (Ar.U_mg b) hf'
  rw [szA_mg] at hp
  unfold sgnR
  rcases hp with ⟨h1, h2, _⟩ | ⟨h1, _, _, _, h2, _⟩
  · rw [if_pos h1, if_pos (by omega)]
  · have h0 : (valR (mg b)).num ≠ 0 := by omega
    rw [if_neg h0, if_neg hneg, if_neg (by omega)]
theorem dg_ne {L N : Nat} (h : 1 ≤ L) : dg L N ≠ [] := fun e => by
  have := dg_len L N
  rw [e] at this
  simp at this
  omega
theorem dg_first {L N : Nat} (h1 : 1 ≤ L) (h2 : 10 ^ (L - 1) ≤ N) (h3 : N < 10 ^ L) : ∃ c, (dg L N)[0]? = some c ∧ c ≠ 48 := by
  obtain ⟨d, rfl⟩ : ∃ d, L = d + 1 := ⟨L - 1, by omega⟩
  rw [Nat.add_sub_cancel] at h2
  have p : 0 < 10 ^ d := Nat.pow_pos (by omega)
  have hq : N / 10 ^ d < 10 := by
    rw [Nat.div_lt_iff_lt_mul p]
    rw [Nat.pow_succ] at h3
    omega
  have hq1 : 1 ≤ N / 10 ^ d := by
    rw [Nat.le_div_iff_mul_le p]
    omega
  refine ⟨_, dg_at (by omega), fun e => ?_⟩
  have := congrArg UInt8.toNat e
  rw [show d + 1 - 1 - 0 = d by omega, Nat.mod_eq_of_lt hq, dch_nat hq] at this
  have e48 : (48 : UInt8).toNat = 48 := rfl
  omega
theorem dg_lastne {L N : Nat} (h1 : 1 ≤ L) (h2 : N % 10 ≠ 0) : ∃ c, (dg L N)[L - 1]? = some c ∧ c ≠ 48 := by
  refine ⟨_, dg_at (by omega), fun e => ?_⟩
  have := congrArg UInt8.toNat e
  rw [Nat.sub_self, Nat.pow_zero, Nat.div_one, dch_nat (Nat.mod_lt _ (by omega))] at this
  have e48 : (48 : UInt8).toNat = 48 := rfl
  omega
theorem szA_negW {b : Int} (h : U b) : szA (negW b) = szA b := by rw [← szA_mg (negW b), mg_negW h, szA_mg]
end Ep
end Go.Proofs.YtceecgklgkiffabGreatDoor
