/- Layer 13: the walk of ExpandWhole. -/
import Derived.Test.YtceecgklgkiffaaGreatDoorExpL
namespace Go.Proofs.YtceecgklgkiffaaGreatDoor
open Go.ChangeShapes Go.WideShapes Go.ChangeAt Go.RowKit
open Na Ar Ep
set_option linter.unusedVariables false
namespace Ep
theorem dT_cast : ((dT : Nat) : Int) = e2 1074 := by
  have h : (1074 : Int) = ((dX : Nat) : Int) := rfl
  rw [h, e2_nat]
  unfold dT
  rw [Int.natCast_pow]
  rfl
theorem mg_low {b : Int} (hf : ef b ≠ 2047) : 0 ≤ mg b ∧ mg b ≤ mostP := by
  have a := mg_bd b
  have c := mg_parts b
  have d := ef_bd b
  have e := fr_bd b
  have m : mostP = 9218868437227405311 := rfl
  omega
theorem val_mg {b : Int} (hf : ef b ≠ 2047) : valR (mg b) = mkR false ((szA b : Nat) : Int) (e2 1074) := by
  have h := mg_low hf
  rw [valR_low h.1 h.2]
  have hn := num_nonneg' h.1 h.2
  have : ((szA b : Nat) : Int) = numW (mg b) := by
    rw [← szA_mg]
    unfold szA
    omega
  rw [this]
theorem dec_val {b : Int} (hf : ef b ≠ 2047) {N L : Nat} {x : Int} (h : Dec (szA b) N L x) : dcR N x = valR (mg b) := by
  rw [val_mg hf]
  unfold dcR
  have h0 : 0 ≤ dcN N x := Int.mul_nonneg (by omega) (Int.pow_nonneg (by omega))
  rw [mk_eq h0 (dcD_pos x) (by omega) (e2_pos _)]
  show dcN N x * e2 1074 = ((szA b : Nat) : Int) * dcD x
  have e := h.eq
  have e' : ((N * 10 ^ x.toNat * dT : Nat) : Int) = ((szA b * 10 ^ (-x).toNat : Nat) : Int) := by rw [e]
  rw [Int.natCast_mul, Int.natCast_mul, Int.natCast_mul, Int.natCast_pow, Int.natCast_pow, dT_cast] at e'
  exact e'
theorem val_sign {b : Int} (hf : ef b ≠ 2047) : sgnR (valR (mg b)) = if szA b = 0 then 0 else 1 := by
  have hf' : ef (mg b) ≠ 2047 := by rw [ef_mg]; exact hf
  have hneg : ¬ (valR (mg b)).num < 0 := by
    rw [val_mg hf]
    exact (mkR_abs (s := false) (by omega) (e2_pos _)).2.2
  have hp := size_parts (Ar.U_mg b) hf'
  rw [szA_mg] at hp
  unfold sgnR
  rcases hp with ⟨h1, h2, _⟩ | ⟨h1, _, _, _, h2, _⟩
  · rw [if_pos h1, if_pos (by omega)]
  · have h0 : (valR (mg b)).num ≠ 0 := by omega
    rw [if_neg h0, if_neg hneg, if_neg (by omega)]
theorem dg_ne {L N : Nat} (h : 1 ≤ L) : dg L N ≠ [] := fun e => by
  have := dg_len L N
  rw [e] at this
  simp at this
  omega
theorem dg_first {L N : Nat} (h1 : 1 ≤ L) (h2 : 10 ^ (L - 1) ≤ N) (h3 : N < 10 ^ L) : ∃ c, (dg L N)[0]? = some c ∧ c ≠ 48 := by
  obtain ⟨d, rfl⟩ : ∃ d, L = d + 1 := ⟨L - 1, by omega⟩
  rw [Nat.add_sub_cancel] at h2
  have p : 0 < 10 ^ d := Nat.pow_pos (by omega)
  have hq : N / 10 ^ d < 10 := by
    rw [Nat.div_lt_iff_lt_mul p]
    rw [Nat.pow_succ] at h3
    omega
  have hq1 : 1 ≤ N / 10 ^ d := by
    rw [Nat.le_div_iff_mul_le p]
    omega
  refine ⟨_, dg_at (by omega), fun e => ?_⟩
  have := congrArg UInt8.toNat e
  rw [show d + 1 - 1 - 0 = d by omega, Nat.mod_eq_of_lt hq, dch_nat hq] at this
  have e48 : (48 : UInt8).toNat = 48 := rfl
  omega
theorem dg_lastne {L N : Nat} (h1 : 1 ≤ L) (h2 : N % 10 ≠ 0) : ∃ c, (dg L N)[L - 1]? = some c ∧ c ≠ 48 := by
  refine ⟨_, dg_at (by omega), fun e => ?_⟩
  have := congrArg UInt8.toNat e
  rw [Nat.sub_self, Nat.pow_zero, Nat.div_one, dch_nat (Nat.mod_lt _ (by omega))] at this
  have e48 : (48 : UInt8).toNat = 48 := rfl
  omega
theorem szA_negW {b : Int} (h : U b) : szA (negW b) = szA b := by rw [← szA_mg (negW b), mg_negW h, szA_mg]
end Ep
set_option maxHeartbeats 3200000 in
set_option maxRecDepth 100000 in
theorem whole_walk {b : Int} (hu : U b) {w : World} :
    Calls Tryz.prog 7 #[.int .u64 b] w fun r w' => r = .returned (.bool true) ∧ Below w.heap.size w w' := by
  have hN := fun w => f6Neg_any hu w
  have hA := alive13_any
  have hF := finite13_any hu
  have hun : U (negW b) := by have := hu; unfold U at this; unfold negW U; split <;> omega
  by_cases hf : ef b = 2047
  · have hD1 := fun w => digits_inf hu hf w
    have hD2 := fun w => digits_inf hun (by rw [Ar.ef_negW hu]; exact hf) w
    have da : decide (ef b ≠ 2047) = false := by simp [hf]
    rw [da] at hF
    generalize negW b = nb at *
    clear hf hu hun da
    go_enter Tryz.func7, Tryz.ntmps7
    go_wp2_with fail
    refine (hD1 w).mono ?_
    rintro e w1 ⟨rfl, hb1⟩
    go_wp2_with fail
    refine (hN w1).mono ?_
    rintro e w2 ⟨rfl, rfl⟩
    go_wp2_with fail
    refine (hD2 w1).mono ?_
    rintro e w3 ⟨rfl, hb3⟩
    have hB3 := hb1.trans (hb3.mono hb1.size)
    go_wp2_with fail
    refine (hA w3).mono ?_
    rintro e w4 ⟨rfl, hb4⟩
    have hB4 := hB3.trans (hb4.mono hB3.size)
    go_wp2_with fail
    refine (hF w4).mono ?_
    rintro e w5 ⟨rfl, rfl⟩
    go_wp2
    go_ret
    exact ⟨rfl, hB4⟩
  · have hD1 := fun w => digits_fin hu hf w
    have hD2 := fun w => digits_fin hun (by rw [Ar.ef_negW hu]; exact hf) w
    have da : decide (ef b ≠ 2047) = true := by simp [hf]
    have hSz := size13_any hu
    have hV := fun w => nearValue_fin (Ar.U_mg b) (by rw [ef_mg]; exact hf) w
    have hvs := value_size (Ar.U_mg b) (by rw [ef_mg]; exact hf)
    have hsg := val_sign hf
    rw [da] at hF
    rw [szA_negW hu] at hD2
    have hdv := fun N L x => @dec_val b hf N L x
    generalize negW b = nb at *
    generalize valR (mg b) = V at *
    generalize mg b = mb at *
    generalize szA b = A at *
    clear hf hu hun da
    go_enter Tryz.func7, Tryz.ntmps7
    go_wp2_with fail
    refine (hD1 w).mono ?_
    rintro e w1 ⟨N, L, x, rfl, hDz, hbd, hb1⟩
    go_wp2_with fail
    refine (hN w1).mono ?_
    rintro e w2 ⟨rfl, rfl⟩
    go_wp2_with fail
    refine (hD2 w1).mono ?_
    rintro e w3 ⟨N', L', x', rfl, hDz', _, hb3⟩
    have hB3 := hb1.trans (hb3.mono hb1.size)
    obtain ⟨rfl, rfl, rfl⟩ := dz_uniq hDz hDz'
    have hL : L ≤ 1300 := hbd.2.1
    have hx0 : -1100 ≤ x := hbd.2.2.1
    have hx1 : x ≤ 1300 := hbd.2.2.2
    have hL1 := hbd.1
    have hNe : (⟨(dg L N).toArray⟩ : ByteArray) ≠ ⟨#[]⟩ := fun e => dg_ne (N := N) hL1 (by have := congrArg (fun t => t.data.toList) e; simpa using this)
    obtain ⟨s, hs⟩ : ∃ s : ByteArray, s = ⟨(dg L N).toArray⟩ := ⟨_, rfl⟩
    have HS : Hid (s = ⟨(dg L N).toArray⟩) := hs
    have hsz : s.size = L := by rw [hs, Lib.size_eq]; exact dg_len L N
    rw [← hs] at hNe ⊢
    have hNe2 : s.toList.isEmpty = false := by rw [Lib.toList_data, HS.out]; have := dg_ne (N := N) hL1; cases hq : dg L N with
      | nil => exact absurd hq this
      | cons _ _ => rfl
    clear hs hDz' hD1 hD2 hN hb1 hb3
    go_wp2_with fail
    refine (hA w3).mono ?_
    rintro e w4 ⟨rfl, hb4⟩
    have hB4 := hB3.trans (hb4.mono hB3.size)
    go_wp2_with fail
    refine (hF w4).mono ?_
    rintro e w5 ⟨rfl, rfl⟩
    go_wp2_with fail
    refine (hSz w5).mono ?_
    rintro e w6 ⟨rfl, rfl⟩
    go_wp2_with fail
    refine (hV w6).mono ?_
    rintro e w7 ⟨s7, v71, v72, rfl, R7, hb7⟩
    obtain ⟨a7, n7, c7, b7, m7, d7, rfl, rfl, Q7⟩ := R7.opens
    have hB7 := hB4.trans (hb7.mono hB4.size)
    have ba := alloc_below (w := w7) (.cells #[.bool s7, .slice a7 n7 c7, .slice b7 m7 d7] 50)
    have hB8 := hB7.trans (ba.mono hB7.size)
    have st8 := st_new w7 (.bool s7) (.slice a7 n7 c7) (.slice b7 m7 d7) 50
    have Q8 := Q7.later ba
    have ln7 : n7 ≤ 20 := Q7.le hvs
    have hSg := rSign_any Q8 (by omega) hsg
    obtain ⟨w8, hw8⟩ : ∃ w8, w8 = w7.alloc (.cells #[.bool s7, .slice a7 n7 c7, .slice b7 m7 d7] 50) := ⟨_, rfl⟩
    obtain ⟨g8, hg8⟩ : ∃ g8, g8 = w7.heap.size := ⟨_, rfl⟩
    rw [← hw8] at st8 Q8 hB8 hSg
    rw [← hg8] at st8
    obtain ⟨p0, p1, p2⟩ := st8.cells
    clear hA hF hSz hV hB3 hb4 hB4 R7 hb7 Q7 ba hB7
    go_wp2_with fail
    rw [← hw8, ← hg8]
    clear hw8 hg8
    refine hSg.mono ?_
    rintro e w9 ⟨rfl, hb9⟩
    have hB9 := hB8.trans (hb9.mono hB8.size)
    have st9 := st8.later hb9
    have Q9 := Q8.later hb9
    clear hSg hb9 hB8 st8 Q8 p0 p1 p2
    rcases hDz with ⟨hA0, rfl, rfl, rfl⟩ | ⟨hA0, hDec⟩
    · rw [if_pos hA0]
      have hs0 : s = ⟨#[48]⟩ := HS.out
      subst hs0
      go_wp2
      go_ret
      exact ⟨rfl, hB9⟩
    · rw [if_neg (by omega)]
      have hdx := hdv N L x hDec
      have hD := fun w => dec13_any hbd.1 (by omega) hDec.hi (e := x) (by omega) (by omega) w
      have hdz := dc_size (by omega) hDec.hi (e := x) (m := L) (by omega) (by omega)
      rw [← HS.out] at hD
      obtain ⟨c0, hc0, hc1⟩ := dg_first hDec.L1 hDec.lo hDec.hi
      obtain ⟨c2, hc2, hc3⟩ := dg_lastne (L := L) hDec.L1 hDec.last
      have sl : s.data.toList = dg L N := by rw [HS.out]
      have i0 : ∀ h, (s[0]'h) = c0 := fun h => by
        have := Lib.data_getElem? s 0 h
        rw [sl, hc0] at this
        exact (Option.some.inj this).symm
      have i1 : ∀ h, (s[L - 1]'h) = c2 := fun h => by
        have := Lib.data_getElem? s (L - 1) h
        rw [sl, hc2] at this
        exact (Option.some.inj this).symm
      have k0 : ((c0.toNat : Int) == 48) = false := beq_eq_false_iff_ne.2 fun e => hc1 (UInt8.toNat_inj.1 (by exact_mod_cast e))
      have k1 : ((c2.toNat : Int) == 48) = false := beq_eq_false_iff_ne.2 fun e => hc3 (UInt8.toNat_inj.1 (by exact_mod_cast e))
      have hc : ((L : Int) - 1) = ((L - 1 : Nat) : Int) := by omega
      have hl0 : 0 < s.size := by omega
      have hl1 : L - 1 < s.size := by omega
      have hl2 : (0 : Int) < (s.size : Int) := by omega
      have hl3 : ((L - 1 : Nat) : Int) < (s.size : Int) := by omega
      have hl4 : ((L - 1 : Nat) : Int) < (L : Int) := by omega
      have hl5 : (0 : Int) < (L : Int) := by omega
      clear hc0 hc1 hc2 hc3 sl HS hDec hbd hsg hdv
      go_wp2_with fail
      refine (hD _).mono ?_
      rintro e w10 ⟨s10, a10, n10, c10, b10, m10, d10, rfl, Q10, hb10⟩
      have ba := alloc_below (w := w10) (.cells #[.bool s10, .slice a10 n10 c10, .slice b10 m10 d10] 50)
      have hB10 := hB9.trans (hb10.mono hB9.size)
      have hB11 := hB10.trans (ba.mono hB10.size)
      have st11 := st_new w10 (.bool s10) (.slice a10 n10 c10) (.slice b10 m10 d10) 50
      have st12 := (st9.later hb10).later ba
      have Q11 := Q10.later ba
      have Q12 := (Q9.later hb10).later ba
      have hCm := rCmp_ok Q11 Q12 hdz.2.2 hvs (by omega) (ordR_zero.2 hdx)
      have hlt8 := (st9.later hb10).lt
      obtain ⟨w11, hw11⟩ : ∃ w11, w11 = w10.alloc (.cells #[.bool s10, .slice a10 n10 c10, .slice b10 m10 d10] 50) := ⟨_, rfl⟩
      obtain ⟨g11, hg11⟩ : ∃ g11, g11 = w10.heap.size := ⟨_, rfl⟩
      rw [← hw11] at st11 st12 Q11 Q12 hB11 hCm
      rw [← hg11] at st11
      obtain ⟨p0, p1, p2⟩ := st11.cells
      obtain ⟨q0, q1, q2⟩ := st12.cells
      obtain ⟨u0, u1, u2⟩ := (st9.later hb10).cells
      clear hD hb10 ba hB10 Q10 Q9 st9 hB9 hdx hdz
      go_wp2_with fail
      rw [← hw11]
      clear hw11 hg11
      refine hCm.mono ?_
      rintro e w12 ⟨rfl, hb12⟩
      have hB12 := hB11.trans (hb12.mono hB11.size)
      go_wp2
      go_ret
      exact ⟨rfl, hB12⟩
end Go.Proofs.YtceecgklgkiffaaGreatDoor
