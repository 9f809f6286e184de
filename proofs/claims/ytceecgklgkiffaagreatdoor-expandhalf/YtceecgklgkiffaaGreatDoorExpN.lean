/- Layer 13: the walk of ExpandHalf. -/
import Derived.Test.YtceecgklgkiffaaGreatDoorExpM
import Derived.Test.YtceecgklgkiffaaGreatDoorRatD
import Derived.Test.YtceecgklgkiffaaGreatDoorNearMm
namespace Go.Proofs.YtceecgklgkiffaaGreatDoor
open Go.ChangeShapes Go.WideShapes Go.ChangeAt Go.RowKit
open Na Ar Ep
set_option linter.unusedVariables false
namespace Ep
theorem mkR_diff {P Q E : Int} (hE : 0 < E) : mkR false P E - mkR false Q E = mkR (decide (P < Q)) (if P < Q then Q - P else P - Q) E := by
  rw [mkR_div false hE, mkR_div false hE, mkR_div _ hE]
  have e : sg (decide (P < Q)) (if P < Q then Q - P else P - Q) = P - Q := by
    by_cases h : P < Q
    · rw [if_pos h, decide_eq_true h]
      simp only [sg, if_true]
      omega
    · rw [if_neg h, decide_eq_false h]
      rfl
  rw [e]
  show ((P : Int) : Rat) / _ - ((Q : Int) : Rat) / _ = _
  rw [Rat.div_def, Rat.div_def, Rat.div_def, Rat.intCast_sub, Rat.sub_eq_add_neg, Rat.sub_eq_add_neg, Rat.add_mul, Rat.neg_mul]
/-- how far Fixed is off: D / E -/
def hfD (A n : Nat) : Nat := if fxR A n * dT < A * 10 ^ n then A * 10 ^ n - fxR A n * dT else fxR A n * dT - A * 10 ^ n
def hfE (n : Nat) : Int := ((10 ^ n * dT : Nat) : Int)
theorem hfE_pos (n : Nat) : 0 < hfE n := by
  have := Nat.mul_pos (Nat.pow_pos (n := n) (show 0 < 10 by omega)) dT_pos
  unfold hfE
  omega
theorem half_off {b : Int} (hf : ef b ≠ 2047) (n : Nat) : dcR (fxR (szA b) n) (-(n : Int)) - valR (mg b) = mkR (decide (fxR (szA b) n * dT < szA b * 10 ^ n)) ((hfD (szA b) n : Nat) : Int) (hfE n) := by
  rw [val_mg hf]
  generalize szA b = A
  unfold dcR hfD
  generalize fxR A n = R
  have p10 : (0 : Int) < 10 ^ n := Int.pow_pos (by omega)
  have pT : (0 : Int) < ((dT : Nat) : Int) := by have := dT_pos; omega
  have eN : dcN R (-(n : Int)) = (R : Int) := by unfold dcN; rw [show (-(n : Int)).toNat = 0 by omega]; simp
  have eD : dcD (-(n : Int)) = 10 ^ n := by unfold dcD; rw [show (-(-(n : Int))).toNat = n by omega]
  have hE : hfE n = 10 ^ n * ((dT : Nat) : Int) := by unfold hfE; push_cast; rfl
  rw [eN, eD, ← dT_cast]
  have e1 : mkR false (R : Int) (10 ^ n) = mkR false ((R : Int) * ((dT : Nat) : Int)) (hfE n) := by rw [hE]; exact (mkR_scale (by omega) p10 pT).symm
  have e2 : mkR false (A : Int) ((dT : Nat) : Int) = mkR false ((A : Int) * 10 ^ n) (hfE n) := by rw [hE, Int.mul_comm (10 ^ n)]; exact (mkR_scale (by omega) pT p10).symm
  rw [e1, e2, mkR_diff (hfE_pos n)]
  have c1 : (R : Int) * ((dT : Nat) : Int) = ((R * dT : Nat) : Int) := by push_cast; rfl
  have c2 : (A : Int) * 10 ^ n = ((A * 10 ^ n : Nat) : Int) := by push_cast; rfl
  rw [c1, c2]
  generalize R * dT = x
  generalize A * 10 ^ n = y
  by_cases h : x < y
  · rw [if_pos h, if_pos (by omega), decide_eq_true h, decide_eq_true (by omega), show (y : Int) - (x : Int) = ((y - x : Nat) : Int) by omega]
  · rw [if_neg h, if_neg (by omega), decide_eq_false h, decide_eq_false (by omega), show (x : Int) - (y : Int) = ((x - y : Nat) : Int) by omega]
theorem half_ord {A n : Nat} : ∃ K, ordR (mkR false ((hfD A n : Nat) : Int) (hfE n)) (dcR 5 (-(n : Int) - 1)) = K ∧ (K = -1 ∨ (K = 0 ∧ fxR A n % 2 = 0)) := by
  have hq := rq_half (P := A * 10 ^ n) (Q := dT) dT_pos
  have hR : rq (A * 10 ^ n) dT = fxR A n := rfl
  rw [hR] at hq
  unfold dcR
  have eN : dcN 5 (-(n : Int) - 1) = 5 := by unfold dcN; rw [show (-(n : Int) - 1).toNat = 0 by omega]; rfl
  have eD : dcD (-(n : Int) - 1) = ((10 ^ n * 10 : Nat) : Int) := by
    unfold dcD
    rw [show (-(-(n : Int) - 1)).toNat = n + 1 by omega, Int.pow_succ]
    push_cast
    rfl
  rw [eN, eD, ordR_mk (by omega) (hfE_pos n) (by omega) (by have := Nat.pow_pos (n := n) (show 0 < 10 by omega); omega)]
  refine ⟨_, rfl, ?_⟩
  show ordN (((hfD A n : Nat) : Int) * ((10 ^ n * 10 : Nat) : Int)) (5 * hfE n) = -1 ∨ (ordN (((hfD A n : Nat) : Int) * ((10 ^ n * 10 : Nat) : Int)) (5 * hfE n) = 0 ∧ _)
  have c1 : ((hfD A n : Nat) : Int) * ((10 ^ n * 10 : Nat) : Int) = ((hfD A n * (10 ^ n * 10) : Nat) : Int) := by push_cast; rfl
  have c2 : 5 * hfE n = ((5 * (10 ^ n * dT) : Nat) : Int) := by unfold hfE; push_cast; rfl
  rw [c1, c2]
  have p := Nat.pow_pos (n := n) (show 0 < 10 by omega)
  have f1 : hfD A n * (10 ^ n * 10) = 10 ^ n * 5 * (2 * hfD A n) := by
    generalize 10 ^ n = t
    generalize hfD A n = d
    rw [show (10 : Nat) = 5 * 2 from rfl]
    ac_rfl
  have f2 : 5 * (10 ^ n * dT) = 10 ^ n * 5 * dT := by
    generalize dT = d
    generalize 10 ^ n = t
    ac_rfl
  have hd : 2 * hfD A n ≤ dT ∧ (2 * hfD A n = dT → fxR A n % 2 = 0) := by
    unfold hfD
    generalize fxR A n * dT = x at *
    generalize A * 10 ^ n = y at *
    split <;> omega
  rw [f1, f2]
  unfold ordN
  rcases Nat.lt_or_eq_of_le hd.1 with h | h
  · left
    rw [if_pos]
    have := (Nat.mul_lt_mul_left (a := 10 ^ n * 5) (by omega)).2 h
    omega
  · right
    rw [h, if_neg (by omega), if_neg (by omega)]
    exact ⟨rfl, hd.2 h⟩
theorem mok_ltN {R n M : Nat} (h : Mok R n M) : R < 10 ^ M ∧ n + 1 ≤ M := by
  rcases h with ⟨rfl, h⟩ | ⟨h1, h2, h3⟩
  · exact ⟨h, Nat.le_refl _⟩
  · exact ⟨h3, by omega⟩
/-- the looks of Fixed's text -/
theorem txt_facts {sS : Bool} {M R n : Nat} (h : n + 1 ≤ M) : (∃ c0, (sgL sS ++ ptL M R n)[0]? = some c0 ∧ ((c0.toNat : Int) == 45) = sS) ∧ (0 < n → n + 2 ≤ (sgL sS ++ ptL M R n).length ∧ (sgL sS ++ ptL M R n)[(sgL sS ++ ptL M R n).length - n - 1]? = some 46) ∧ 1 ≤ (sgL sS ++ ptL M R n).length := by
  have first : ∃ c, (ptL M R n)[0]? = some c ∧ ((c.toNat : Int) == 45) = false := by
    have key : ∀ (m X : Nat) (r : List UInt8), 1 ≤ m → ∃ c, (dg m X ++ r)[0]? = some c ∧ ((c.toNat : Int) == 45) = false := fun m X r hm => by
      refine ⟨_, by rw [List.getElem?_append_left (by rw [dg_len]; omega)]; exact dg_at (by omega), ?_⟩
      rw [dch_nat (Nat.mod_lt _ (by omega))]
      refine beq_eq_false_iff_ne.2 ?_
      omega
    unfold ptL
    split
    · have := key M R [] (by omega)
      rwa [List.append_nil] at this
    · exact key (M - n) _ _ (by omega)
  have hlen : (ptL M R n).length = if n = 0 then M else M + 1 := by
    unfold ptL
    split
    · exact dg_len _ _
    · rw [List.length_append, List.length_cons, dg_len, dg_len]
      omega
  refine ⟨?_, fun hn => ?_, ?_⟩
  · cases sS
    · obtain ⟨c, h1, h2⟩ := first
      exact ⟨c, by simpa [sgL] using h1, h2⟩
    · exact ⟨45, rfl, rfl⟩
  · have hp : ptL M R n = dg (M - n) (R / 10 ^ n) ++ (46 :: dg n R) := by unfold ptL; rw [if_neg (by omega)]
    have hl : (sgL sS ++ ptL M R n).length = (sgL sS).length + (M + 1) := by rw [List.length_append, hlen, if_neg (by omega)]
    refine ⟨by rw [hl]; omega, ?_⟩
    rw [hl, hp, List.getElem?_append_right (by omega), List.getElem?_append_right (by rw [dg_len]; omega), dg_len, show (sgL sS).length + (M + 1) - n - 1 - (sgL sS).length - (M - n) = 0 by omega]
    rfl
  · rw [List.length_append, hlen]
    split <;> omega
theorem dg_odd {M R : Nat} (h : 1 ≤ M) : ∃ c, (dg M R)[M - 1]? = some c ∧ 48 ≤ (c.toNat : Int) ∧ (c.toNat : Int) ≤ 57 ∧ ((c.toNat : Int) - 48) % 2 = ((R % 2 : Nat) : Int) := by
  refine ⟨_, dg_at (by omega), ?_⟩
  rw [Nat.sub_self, Nat.pow_zero, Nat.div_one, dch_nat (Nat.mod_lt _ (by omega))]
  omega
end Ep
set_option maxHeartbeats 6400000 in
set_option maxRecDepth 100000 in
theorem half_walk {b n0 : Int} (hu : U b) (i0 : -9223372036854775808 ≤ n0) (i1 : n0 ≤ 9223372036854775807) {w : World} :
    Calls Tryz.prog 8 #[.int .u64 b, .int .i64 n0] w fun r w' => r = .returned (.bool true) ∧ Below w.heap.size w w' := by
  obtain ⟨n, hn, hn9⟩ : ∃ n : Nat, (IntKind.u64.wrap n0).tmod 1101 = (n : Int) ∧ n < 1101 := by
    have h0 : 0 ≤ IntKind.u64.wrap n0 % 1101 := Int.emod_nonneg _ (by omega)
    have h1 := Int.emod_lt_of_pos (IntKind.u64.wrap n0) (show (0 : Int) < 1101 by omega)
    have h2 : 0 ≤ IntKind.u64.wrap n0 := (U_wrap n0).1
    rw [Int.tmod_eq_emod_of_nonneg h2]
    exact ⟨(IntKind.u64.wrap n0 % 1101).toNat, by omega, by omega⟩
  have hA := alive13_any
  have hF := finite13_any hu
  have z0 : (n : Int) < 1101 := by omega
  by_cases hf : ef b = 2047
  · have hX := fun w => fixed_inf hu hf (n := n) (by omega) w
    have da : decide (ef b ≠ 2047) = false := by simp [hf]
    rw [da] at hF
    go_enter Tryz.func8, Tryz.ntmps8
    go_wp2_with fail
    refine (hX w).mono ?_
    rintro e w1 ⟨rfl, hb1⟩
    go_wp2_with fail
    refine (hA w1).mono ?_
    rintro e w2 ⟨rfl, hb2⟩
    have hB2 := hb1.trans (hb2.mono hb1.size)
    go_wp2_with fail
    refine (hF w2).mono ?_
    rintro e w3 ⟨rfl, rfl⟩
    go_wp2_with fail
    refine (hA _).mono ?_
    rintro e w4 ⟨rfl, hb4⟩
    have hB4 := hB2.trans (hb4.mono hB2.size)
    go_wp2
    go_ret
    exact ⟨rfl, hB4⟩
  · have hX := fun w => fixed_fin hu hf (n := n) (by omega) w
    have da : decide (ef b ≠ 2047) = true := by simp [hf]
    have hSz := size13_any hu
    have hV := fun w => nearValue_fin (Ar.U_mg b) (by rw [ef_mg]; exact hf) w
    have hvs := value_size (Ar.U_mg b) (by rw [ef_mg]; exact hf)
    have hoff := half_off hf n
    obtain ⟨K, hK, hK2⟩ := half_ord (A := szA b) (n := n)
    have hsS : decide (9223372036854775808 ≤ b) = spS b := by unfold spS; rw [if_neg hf]
    rw [da] at hF
    generalize spS b = sS at *
    generalize valR (mg b) = V at *
    generalize mg b = mb at *
    generalize szA b = A at *
    generalize hRR : fxR A n = R at *
    generalize decide (R * dT < A * 10 ^ n) = sg9 at hoff
    have hDn : (0 : Int) ≤ ((hfD A n : Nat) : Int) := by omega
    have hEp := hfE_pos n
    generalize ((hfD A n : Nat) : Int) = D at *
    generalize hfE n = E at *
    clear hf da hRR
    go_enter Tryz.func8, Tryz.ntmps8
    go_wp2_with fail
    refine (hX w).mono ?_
    rintro e w1 ⟨M, hM, hM9, rfl, hb1⟩
    obtain ⟨hRM, hnM⟩ := mok_ltN hM
    obtain ⟨⟨c0, hc0, hc1⟩, hdot, hlen1⟩ := txt_facts (sS := sS) (R := R) hnM
    have hW := fun w => without13_any (l := sgL sS ++ ptL M R n) (by have := ptL_len (W := R) hnM; have : (sgL sS).length ≤ 1 := by cases sS <;> decide
                                                                     rw [List.length_append]; omega) w
    rw [woL_pt (by omega)] at hW
    have hlen9 : (sgL sS ++ ptL M R n).length ≤ 6000 := by
      have := ptL_len (W := R) hnM
      have : (sgL sS).length ≤ 1 := by cases sS <;> decide
      rw [List.length_append]
      omega
    have hD1 := fun w => dec13_any (m := M) (X := R) (e := -(n : Int)) (by omega) (by omega) hRM (by omega) (by omega) w
    have hD2 := fun w => dec13_any (m := 1) (X := 5) (e := -(n : Int) - 1) (by omega) (by omega) (by omega) (by omega) (by omega) w
    have hz1 := (dc_size (m := M) (X := R) (e := -(n : Int)) (by omega) hRM (by omega) (by omega)).2.2
    have hz2 := (dc_size (m := 1) (X := 5) (e := -(n : Int) - 1) (by omega) (by omega) (by omega) (by omega)).2.2
    have hd5 : dg 1 5 = [53] := rfl
    rw [hd5] at hD2
    obtain ⟨cl, hcl, hcl1, hcl2, hcl3⟩ := dg_odd (M := M) (R := R) (by omega)
    have hfirst : n + 1 < M → ∃ c, (dg M R)[0]? = some c ∧ c ≠ 48 := fun hlt => by
      rcases hM with ⟨h1, _⟩ | ⟨_, h2, h3⟩
      · omega
      · exact dg_first (by omega) h2 h3
    obtain ⟨T, hT⟩ : ∃ T, T = sgL sS ++ ptL M R n := ⟨_, rfl⟩
    rw [← hT] at hc0 hdot hlen1 hlen9 hW ⊢
    obtain ⟨s, hs⟩ : ∃ s : ByteArray, s = ⟨T.toArray⟩ := ⟨_, rfl⟩
    have hsl : s.data.toList = T := by rw [hs]
    have hsz : s.size = T.length := by rw [Lib.size_eq, hsl]
    obtain ⟨d, hd⟩ : ∃ d : ByteArray, d = ⟨(dg M R).toArray⟩ := ⟨_, rfl⟩
    have hdl : d.data.toList = dg M R := by rw [hd]
    have hdz : d.size = M := by rw [Lib.size_eq, hdl]; exact dg_len M R
    rw [← hs] at hW ⊢
    rw [← hd] at hW hD1
    have hNe2 : s.toList.isEmpty = false := by
      rw [Lib.toList_data, hsl]
      cases T with
      | nil => simp at hlen1
      | cons _ _ => rfl
    have x0 : ∀ h, (s[0]'h) = c0 := fun h => by
      have := Lib.data_getElem? s 0 h
      rw [hsl, hc0] at this
      exact (Option.some.inj this).symm
    have xd : 0 < n → ∀ h, (s[T.length - n - 1]'h) = 46 := fun hn h => by
      have := Lib.data_getElem? s (T.length - n - 1) h
      rw [hsl, (hdot hn).2] at this
      exact (Option.some.inj this).symm
    have xl : ∀ h, (d[M - 1]'h) = cl := fun h => by
      have := Lib.data_getElem? d (M - 1) h
      rw [hdl, hcl] at this
      exact (Option.some.inj this).symm
    obtain ⟨TL, hTL⟩ : ∃ TL, TL = T.length := ⟨_, rfl⟩
    rw [← hTL] at hsz xd hlen1 hlen9 hdot
    have hl2 : 0 < n → n + 2 ≤ TL := fun h => (hdot h).1
    have xf : n + 1 < M → ∃ c, c ≠ 48 ∧ ∀ h, (d[0]'h) = c := fun hlt => by
      obtain ⟨c, h1, h2⟩ := hfirst hlt
      refine ⟨c, h2, fun h => ?_⟩
      have := Lib.data_getElem? d 0 h
      rw [hdl, h1] at this
      exact (Option.some.inj this).symm
    clear hX hT hs hsl hTL hd hdl hcl hfirst hc0 hdot hM hd5
    go_wp2_with fail
    refine (hA w1).mono ?_
    rintro e w2 ⟨rfl, hb2⟩
    have hB2 := hb1.trans (hb2.mono hb1.size)
    go_wp2_with fail
    refine (hF w2).mono ?_
    rintro e w3 ⟨rfl, rfl⟩
    clear hA hF hb1 hb2
    rcases Nat.eq_zero_or_pos n with hn0 | hn0
    · have u0 : ¬ (0 : Int) < (n : Int) := by omega
      have u1 : 0 < s.size := by omega
      have u2 : (0 : Int) < (TL : Int) := by omega
      clear hn0
      go_wp2_with fail
      refine (hW w3).mono ?_
      rintro e w4 ⟨rfl, hb4⟩
      have hB4 := hB2.trans (hb4.mono hB2.size)
      have y9 : ¬ (M : Int) < (n : Int) + 1 := by omega
      clear hW hb4 hB2 hNe2 x0 xd hl2
      rcases Nat.lt_or_eq_of_le hnM with hm0 | hm0
      · obtain ⟨cf, hcf, xf0⟩ := xf hm0
        have k0 : ((cf.toNat : Int) == 48) = false := beq_eq_false_iff_ne.2 fun e => hcf (UInt8.toNat_inj.1 (by exact_mod_cast e))
        have y0 : (n : Int) + 1 < (M : Int) := by omega
        have y1 : (0 : Int) < (M : Int) := by omega
        have y2 : 0 < d.size := by omega
        clear xf hcf hm0
        go_wp2_with fail
        refine (hD1 _).mono ?_
        rintro e w5 ⟨s5, a5, n5, c5, b5, m5, d5, rfl, Q5, hb5⟩
        have ba5 := alloc_below (w := w5) (.cells #[.bool s5, .slice a5 n5 c5, .slice b5 m5 d5] 50)
        have hB5 := hB4.trans (hb5.mono hB4.size)
        have hB5' := hB5.trans (ba5.mono hB5.size)
        have st5 := st_new w5 (.bool s5) (.slice a5 n5 c5) (.slice b5 m5 d5) 50
        have Q5' := Q5.later ba5
        obtain ⟨w6, hw6⟩ : ∃ w6, w6 = w5.alloc (.cells #[.bool s5, .slice a5 n5 c5, .slice b5 m5 d5] 50) := ⟨_, rfl⟩
        obtain ⟨g5, hg5⟩ : ∃ g5, g5 = w5.heap.size := ⟨_, rfl⟩
        rw [← hw6] at hB5' st5 Q5'
        rw [← hg5] at st5
        clear hb5 ba5 hB5 Q5 hB4 hD1
        go_wp2_with fail
        rw [← hw6, ← hg5]
        clear hw6 hg5
        refine (hD2 _).mono ?_
        rintro e w7 ⟨s7, a7, n7, c7, b7, m7, d7, rfl, Q7, hb7⟩
        have ba7 := alloc_below (w := w7) (.cells #[.bool s7, .slice a7 n7 c7, .slice b7 m7 d7] 50)
        have hB7 := hB5'.trans (hb7.mono hB5'.size)
        have hB7' := hB7.trans (ba7.mono hB7.size)
        have st7 := st_new w7 (.bool s7) (.slice a7 n7 c7) (.slice b7 m7 d7) 50
        have Q7' := Q7.later ba7
        have st5b := (st5.later hb7).later ba7
        have Q5b := (Q5'.later hb7).later ba7
        obtain ⟨w8, hw8⟩ : ∃ w8, w8 = w7.alloc (.cells #[.bool s7, .slice a7 n7 c7, .slice b7 m7 d7] 50) := ⟨_, rfl⟩
        obtain ⟨g7, hg7⟩ : ∃ g7, g7 = w7.heap.size := ⟨_, rfl⟩
        rw [← hw8] at hB7' st7 Q7' st5b Q5b
        rw [← hg7] at st7
        clear hb7 ba7 hB7 Q7 hB5' hD2 st5 Q5'
        go_wp2_with fail
        rw [← hw8, ← hg7]
        clear hw8 hg7
        refine (hSz _).mono ?_
        rintro e w9 ⟨rfl, rfl⟩
        go_wp2_with fail
        refine (hV _).mono ?_
        rintro e w10 ⟨s10, v1, v2, rfl, R10, hb10⟩
        obtain ⟨a10, n10, c10, b10, m10, d10, rfl, rfl, Q10⟩ := R10.opens
        have ba10 := alloc_below (w := w10) (.cells #[.bool s10, .slice a10 n10 c10, .slice b10 m10 d10] 50)
        have hB10 := hB7'.trans (hb10.mono hB7'.size)
        have hB10' := hB10.trans (ba10.mono hB10.size)
        have Q10' := Q10.later ba10
        have st7b := (st7.later hb10).later ba10
        have Q7b := (Q7'.later hb10).later ba10
        have st5c := (st5b.later hb10).later ba10
        have Q5c := (Q5b.later hb10).later ba10
        have st10 := st_new w10 (.bool s10) (.slice a10 n10 c10) (.slice b10 m10 d10) 50
        have hSb := rSub_ok Q5c Q10' hz1 hvs (by omega)
        rw [hoff] at hSb
        obtain ⟨o0, o1, o2⟩ := (st5b.later hb10).cells
        have o3 := (st5b.later hb10).lt
        obtain ⟨w11, hw11⟩ : ∃ w11, w11 = w10.alloc (.cells #[.bool s10, .slice a10 n10 c10, .slice b10 m10 d10] 50) := ⟨_, rfl⟩
        obtain ⟨g10, hg10⟩ : ∃ g10, g10 = w10.heap.size := ⟨_, rfl⟩
        rw [← hw11] at hB10' st7b Q7b st5c st10 hSb
        rw [← hg10] at st10
        obtain ⟨p0, p1, p2⟩ := st5c.cells
        obtain ⟨q0, q1, q2⟩ := st10.cells
        clear hb10 ba10 hB10 Q10 R10 hB7' hV hSz st7 Q7' st5b Q5b Q10' Q5c
        go_wp2_with fail
        rw [← hw11, ← hg10]
        clear hw11 hg10 p0 p1 p2 q0 q1 q2 o0 o1 o2 o3 st5c st10
        refine hSb.mono ?_
        rintro e w12 ⟨s12, v1, v2, rfl, R12, hs12, hb12⟩
        obtain ⟨a12, n12, c12, b12, m12, d12, rfl, rfl, Q12⟩ := R12.opens
        have hB12 := hB10'.trans (hb12.mono hB10'.size)
        have st7c := st7b.later hb12
        have Q7c := Q7b.later hb12
        have Q12s := Q12.size7 hDn hEp
        have ba12 := alloc_below (w := w12) (.cells #[.bool false, .slice a12 n12 c12, .slice b12 m12 d12] 50)
        have hB13 := hB12.trans (ba12.mono hB12.size)
        have st13 := st_new w12 (.bool false) (.slice a12 n12 c12) (.slice b12 m12 d12) 50
        have st7d := st7c.later ba12
        have Q7d := Q7c.later ba12
        have Q13 := Q12s.later ba12
        have hszA : Sz (mkR false D E) (210 + 210 + 20 + 1) := by
          have h := mkR_abs (s := sg9) hDn hEp
          unfold Sz at hs12 ⊢
          rw [h.1, h.2.1] at hs12
          exact hs12
        have hCm := rCmp_ok Q13 Q7d hszA hz2 (by omega) hK
        have hlt7 := st7c.lt
        obtain ⟨o0, o1, o2⟩ := st7c.cells
        clear hSb hb12 hB10' st7b Q7b R12 hs12 Q12 Q7c Q12s hszA hB12 hoff hz1 hz2 hvs
        go_wp2_with fail
        refine hCm.mono ?_
        rintro e w14 ⟨rfl, hb14⟩
        have hB14 := hB13.trans (hb14.mono hB13.size)
        clear hCm hb14 hB13 Q13 Q7d st7d st13 st7c hK hlt7 o0 o1 o2 ba12
        rcases hK2 with rfl | ⟨rfl, hev⟩
        · clear xl hcl3
          go_wp2
          go_ret
          exact ⟨rfl, hB14⟩
        · have v0 : (M : Int) - 1 = ((M - 1 : Nat) : Int) := by omega
          have v1 : ((M - 1 : Nat) : Int) < (M : Int) := by omega
          have v2 : M - 1 < d.size := by omega
          have v3 : Int.tmod ((cl.toNat : Int) - 48) 2 = 0 := by rw [Int.tmod_eq_emod_of_nonneg (by omega)]; omega
          clear hev hcl3
          go_wp2
          go_ret
          exact ⟨rfl, hB14⟩
      · have y0 : ¬ (n : Int) + 1 < (M : Int) := by omega
        clear xf hm0
        go_wp2_with fail
        refine (hD1 _).mono ?_
        rintro e w5 ⟨s5, a5, n5, c5, b5, m5, d5, rfl, Q5, hb5⟩
        have ba5 := alloc_below (w := w5) (.cells #[.bool s5, .slice a5 n5 c5, .slice b5 m5 d5] 50)
        have hB5 := hB4.trans (hb5.mono hB4.size)
        have hB5' := hB5.trans (ba5.mono hB5.size)
        have st5 := st_new w5 (.bool s5) (.slice a5 n5 c5) (.slice b5 m5 d5) 50
        have Q5' := Q5.later ba5
        obtain ⟨w6, hw6⟩ : ∃ w6, w6 = w5.alloc (.cells #[.bool s5, .slice a5 n5 c5, .slice b5 m5 d5] 50) := ⟨_, rfl⟩
        obtain ⟨g5, hg5⟩ : ∃ g5, g5 = w5.heap.size := ⟨_, rfl⟩
        rw [← hw6] at hB5' st5 Q5'
        rw [← hg5] at st5
        clear hb5 ba5 hB5 Q5 hB4 hD1
        go_wp2_with fail
        rw [← hw6, ← hg5]
        clear hw6 hg5
        refine (hD2 _).mono ?_
        rintro e w7 ⟨s7, a7, n7, c7, b7, m7, d7, rfl, Q7, hb7⟩
        have ba7 := alloc_below (w := w7) (.cells #[.bool s7, .slice a7 n7 c7, .slice b7 m7 d7] 50)
        have hB7 := hB5'.trans (hb7.mono hB5'.size)
        have hB7' := hB7.trans (ba7.mono hB7.size)
        have st7 := st_new w7 (.bool s7) (.slice a7 n7 c7) (.slice b7 m7 d7) 50
        have Q7' := Q7.later ba7
        have st5b := (st5.later hb7).later ba7
        have Q5b := (Q5'.later hb7).later ba7
        obtain ⟨w8, hw8⟩ : ∃ w8, w8 = w7.alloc (.cells #[.bool s7, .slice a7 n7 c7, .slice b7 m7 d7] 50) := ⟨_, rfl⟩
        obtain ⟨g7, hg7⟩ : ∃ g7, g7 = w7.heap.size := ⟨_, rfl⟩
        rw [← hw8] at hB7' st7 Q7' st5b Q5b
        rw [← hg7] at st7
        clear hb7 ba7 hB7 Q7 hB5' hD2 st5 Q5'
        go_wp2_with fail
        rw [← hw8, ← hg7]
        clear hw8 hg7
        refine (hSz _).mono ?_
        rintro e w9 ⟨rfl, rfl⟩
        go_wp2_with fail
        refine (hV _).mono ?_
        rintro e w10 ⟨s10, v1, v2, rfl, R10, hb10⟩
        obtain ⟨a10, n10, c10, b10, m10, d10, rfl, rfl, Q10⟩ := R10.opens
        have ba10 := alloc_below (w := w10) (.cells #[.bool s10, .slice a10 n10 c10, .slice b10 m10 d10] 50)
        have hB10 := hB7'.trans (hb10.mono hB7'.size)
        have hB10' := hB10.trans (ba10.mono hB10.size)
        have Q10' := Q10.later ba10
        have st7b := (st7.later hb10).later ba10
        have Q7b := (Q7'.later hb10).later ba10
        have st5c := (st5b.later hb10).later ba10
        have Q5c := (Q5b.later hb10).later ba10
        have st10 := st_new w10 (.bool s10) (.slice a10 n10 c10) (.slice b10 m10 d10) 50
        have hSb := rSub_ok Q5c Q10' hz1 hvs (by omega)
        rw [hoff] at hSb
        obtain ⟨o0, o1, o2⟩ := (st5b.later hb10).cells
        have o3 := (st5b.later hb10).lt
        obtain ⟨w11, hw11⟩ : ∃ w11, w11 = w10.alloc (.cells #[.bool s10, .slice a10 n10 c10, .slice b10 m10 d10] 50) := ⟨_, rfl⟩
        obtain ⟨g10, hg10⟩ : ∃ g10, g10 = w10.heap.size := ⟨_, rfl⟩
        rw [← hw11] at hB10' st7b Q7b st5c st10 hSb
        rw [← hg10] at st10
        obtain ⟨p0, p1, p2⟩ := st5c.cells
        obtain ⟨q0, q1, q2⟩ := st10.cells
        clear hb10 ba10 hB10 Q10 R10 hB7' hV hSz st7 Q7' st5b Q5b Q10' Q5c
        go_wp2_with fail
        rw [← hw11, ← hg10]
        clear hw11 hg10 p0 p1 p2 q0 q1 q2 o0 o1 o2 o3 st5c st10
        refine hSb.mono ?_
        rintro e w12 ⟨s12, v1, v2, rfl, R12, hs12, hb12⟩
        obtain ⟨a12, n12, c12, b12, m12, d12, rfl, rfl, Q12⟩ := R12.opens
        have hB12 := hB10'.trans (hb12.mono hB10'.size)
        have st7c := st7b.later hb12
        have Q7c := Q7b.later hb12
        have Q12s := Q12.size7 hDn hEp
        have ba12 := alloc_below (w := w12) (.cells #[.bool false, .slice a12 n12 c12, .slice b12 m12 d12] 50)
        have hB13 := hB12.trans (ba12.mono hB12.size)
        have st13 := st_new w12 (.bool false) (.slice a12 n12 c12) (.slice b12 m12 d12) 50
        have st7d := st7c.later ba12
        have Q7d := Q7c.later ba12
        have Q13 := Q12s.later ba12
        have hszA : Sz (mkR false D E) (210 + 210 + 20 + 1) := by
          have h := mkR_abs (s := sg9) hDn hEp
          unfold Sz at hs12 ⊢
          rw [h.1, h.2.1] at hs12
          exact hs12
        have hCm := rCmp_ok Q13 Q7d hszA hz2 (by omega) hK
        have hlt7 := st7c.lt
        obtain ⟨o0, o1, o2⟩ := st7c.cells
        clear hSb hb12 hB10' st7b Q7b R12 hs12 Q12 Q7c Q12s hszA hB12 hoff hz1 hz2 hvs
        go_wp2_with fail
        refine hCm.mono ?_
        rintro e w14 ⟨rfl, hb14⟩
        have hB14 := hB13.trans (hb14.mono hB13.size)
        clear hCm hb14 hB13 Q13 Q7d st7d st13 st7c hK hlt7 o0 o1 o2 ba12
        rcases hK2 with rfl | ⟨rfl, hev⟩
        · clear xl hcl3
          go_wp2
          go_ret
          exact ⟨rfl, hB14⟩
        · have v0 : (M : Int) - 1 = ((M - 1 : Nat) : Int) := by omega
          have v1 : ((M - 1 : Nat) : Int) < (M : Int) := by omega
          have v2 : M - 1 < d.size := by omega
          have v3 : Int.tmod ((cl.toNat : Int) - 48) 2 = 0 := by rw [Int.tmod_eq_emod_of_nonneg (by omega)]; omega
          clear hev hcl3
          go_wp2
          go_ret
          exact ⟨rfl, hB14⟩
    · have u0 : (0 : Int) < (n : Int) := by omega
      have u1 : 0 < s.size := by omega
      have u2 : (0 : Int) < (TL : Int) := by omega
      have u3 := hl2 hn0
      have u4 := xd hn0
      have u5 : (TL : Int) - (n : Int) - 1 = ((TL - n - 1 : Nat) : Int) := by omega
      have u6 : ((TL - n - 1 : Nat) : Int) < (TL : Int) := by omega
      have u7 : TL - n - 1 < s.size := by omega
      go_wp2_with fail
      refine (hW w3).mono ?_
      rintro e w4 ⟨rfl, hb4⟩
      have hB4 := hB2.trans (hb4.mono hB2.size)
      have y9 : ¬ (M : Int) < (n : Int) + 1 := by omega
      clear hW hb4 hB2 hNe2 x0 xd hl2
      rcases Nat.lt_or_eq_of_le hnM with hm0 | hm0
      · obtain ⟨cf, hcf, xf0⟩ := xf hm0
        have k0 : ((cf.toNat : Int) == 48) = false := beq_eq_false_iff_ne.2 fun e => hcf (UInt8.toNat_inj.1 (by exact_mod_cast e))
        have y0 : (n : Int) + 1 < (M : Int) := by omega
        have y1 : (0 : Int) < (M : Int) := by omega
        have y2 : 0 < d.size := by omega
        clear xf hcf hm0
        go_wp2_with fail
        refine (hD1 _).mono ?_
        rintro e w5 ⟨s5, a5, n5, c5, b5, m5, d5, rfl, Q5, hb5⟩
        have ba5 := alloc_below (w := w5) (.cells #[.bool s5, .slice a5 n5 c5, .slice b5 m5 d5] 50)
        have hB5 := hB4.trans (hb5.mono hB4.size)
        have hB5' := hB5.trans (ba5.mono hB5.size)
        have st5 := st_new w5 (.bool s5) (.slice a5 n5 c5) (.slice b5 m5 d5) 50
        have Q5' := Q5.later ba5
        obtain ⟨w6, hw6⟩ : ∃ w6, w6 = w5.alloc (.cells #[.bool s5, .slice a5 n5 c5, .slice b5 m5 d5] 50) := ⟨_, rfl⟩
        obtain ⟨g5, hg5⟩ : ∃ g5, g5 = w5.heap.size := ⟨_, rfl⟩
        rw [← hw6] at hB5' st5 Q5'
        rw [← hg5] at st5
        clear hb5 ba5 hB5 Q5 hB4 hD1
        go_wp2_with fail
        rw [← hw6, ← hg5]
        clear hw6 hg5
        refine (hD2 _).mono ?_
        rintro e w7 ⟨s7, a7, n7, c7, b7, m7, d7, rfl, Q7, hb7⟩
        have ba7 := alloc_below (w := w7) (.cells #[.bool s7, .slice a7 n7 c7, .slice b7 m7 d7] 50)
        have hB7 := hB5'.trans (hb7.mono hB5'.size)
        have hB7' := hB7.trans (ba7.mono hB7.size)
        have st7 := st_new w7 (.bool s7) (.slice a7 n7 c7) (.slice b7 m7 d7) 50
        have Q7' := Q7.later ba7
        have st5b := (st5.later hb7).later ba7
        have Q5b := (Q5'.later hb7).later ba7
        obtain ⟨w8, hw8⟩ : ∃ w8, w8 = w7.alloc (.cells #[.bool s7, .slice a7 n7 c7, .slice b7 m7 d7] 50) := ⟨_, rfl⟩
        obtain ⟨g7, hg7⟩ : ∃ g7, g7 = w7.heap.size := ⟨_, rfl⟩
        rw [← hw8] at hB7' st7 Q7' st5b Q5b
        rw [← hg7] at st7
        clear hb7 ba7 hB7 Q7 hB5' hD2 st5 Q5'
        go_wp2_with fail
        rw [← hw8, ← hg7]
        clear hw8 hg7
        refine (hSz _).mono ?_
        rintro e w9 ⟨rfl, rfl⟩
        go_wp2_with fail
        refine (hV _).mono ?_
        rintro e w10 ⟨s10, v1, v2, rfl, R10, hb10⟩
        obtain ⟨a10, n10, c10, b10, m10, d10, rfl, rfl, Q10⟩ := R10.opens
        have ba10 := alloc_below (w := w10) (.cells #[.bool s10, .slice a10 n10 c10, .slice b10 m10 d10] 50)
        have hB10 := hB7'.trans (hb10.mono hB7'.size)
        have hB10' := hB10.trans (ba10.mono hB10.size)
        have Q10' := Q10.later ba10
        have st7b := (st7.later hb10).later ba10
        have Q7b := (Q7'.later hb10).later ba10
        have st5c := (st5b.later hb10).later ba10
        have Q5c := (Q5b.later hb10).later ba10
        have st10 := st_new w10 (.bool s10) (.slice a10 n10 c10) (.slice b10 m10 d10) 50
        have hSb := rSub_ok Q5c Q10' hz1 hvs (by omega)
        rw [hoff] at hSb
        obtain ⟨o0, o1, o2⟩ := (st5b.later hb10).cells
        have o3 := (st5b.later hb10).lt
        obtain ⟨w11, hw11⟩ : ∃ w11, w11 = w10.alloc (.cells #[.bool s10, .slice a10 n10 c10, .slice b10 m10 d10] 50) := ⟨_, rfl⟩
        obtain ⟨g10, hg10⟩ : ∃ g10, g10 = w10.heap.size := ⟨_, rfl⟩
        rw [← hw11] at hB10' st7b Q7b st5c st10 hSb
        rw [← hg10] at st10
        obtain ⟨p0, p1, p2⟩ := st5c.cells
        obtain ⟨q0, q1, q2⟩ := st10.cells
        clear hb10 ba10 hB10 Q10 R10 hB7' hV hSz st7 Q7' st5b Q5b Q10' Q5c
        go_wp2_with fail
        rw [← hw11, ← hg10]
        clear hw11 hg10 p0 p1 p2 q0 q1 q2 o0 o1 o2 o3 st5c st10
        refine hSb.mono ?_
        rintro e w12 ⟨s12, v1, v2, rfl, R12, hs12, hb12⟩
        obtain ⟨a12, n12, c12, b12, m12, d12, rfl, rfl, Q12⟩ := R12.opens
        have hB12 := hB10'.trans (hb12.mono hB10'.size)
        have st7c := st7b.later hb12
        have Q7c := Q7b.later hb12
        have Q12s := Q12.size7 hDn hEp
        have ba12 := alloc_below (w := w12) (.cells #[.bool false, .slice a12 n12 c12, .slice b12 m12 d12] 50)
        have hB13 := hB12.trans (ba12.mono hB12.size)
        have st13 := st_new w12 (.bool false) (.slice a12 n12 c12) (.slice b12 m12 d12) 50
        have st7d := st7c.later ba12
        have Q7d := Q7c.later ba12
        have Q13 := Q12s.later ba12
        have hszA : Sz (mkR false D E) (210 + 210 + 20 + 1) := by
          have h := mkR_abs (s := sg9) hDn hEp
          unfold Sz at hs12 ⊢
          rw [h.1, h.2.1] at hs12
          exact hs12
        have hCm := rCmp_ok Q13 Q7d hszA hz2 (by omega) hK
        have hlt7 := st7c.lt
        obtain ⟨o0, o1, o2⟩ := st7c.cells
        clear hSb hb12 hB10' st7b Q7b R12 hs12 Q12 Q7c Q12s hszA hB12 hoff hz1 hz2 hvs
        go_wp2_with fail
        refine hCm.mono ?_
        rintro e w14 ⟨rfl, hb14⟩
        have hB14 := hB13.trans (hb14.mono hB13.size)
        clear hCm hb14 hB13 Q13 Q7d st7d st13 st7c hK hlt7 o0 o1 o2 ba12
        rcases hK2 with rfl | ⟨rfl, hev⟩
        · clear xl hcl3
          go_wp2
          go_ret
          exact ⟨rfl, hB14⟩
        · have v0 : (M : Int) - 1 = ((M - 1 : Nat) : Int) := by omega
          have v1 : ((M - 1 : Nat) : Int) < (M : Int) := by omega
          have v2 : M - 1 < d.size := by omega
          have v3 : Int.tmod ((cl.toNat : Int) - 48) 2 = 0 := by rw [Int.tmod_eq_emod_of_nonneg (by omega)]; omega
          clear hev hcl3
          go_wp2
          go_ret
          exact ⟨rfl, hB14⟩
      · have y0 : ¬ (n : Int) + 1 < (M : Int) := by omega
        clear xf hm0
        go_wp2_with fail
        refine (hD1 _).mono ?_
        rintro e w5 ⟨s5, a5, n5, c5, b5, m5, d5, rfl, Q5, hb5⟩
        have ba5 := alloc_below (w := w5) (.cells #[.bool s5, .slice a5 n5 c5, .slice b5 m5 d5] 50)
        have hB5 := hB4.trans (hb5.mono hB4.size)
        have hB5' := hB5.trans (ba5.mono hB5.size)
        have st5 := st_new w5 (.bool s5) (.slice a5 n5 c5) (.slice b5 m5 d5) 50
        have Q5' := Q5.later ba5
        obtain ⟨w6, hw6⟩ : ∃ w6, w6 = w5.alloc (.cells #[.bool s5, .slice a5 n5 c5, .slice b5 m5 d5] 50) := ⟨_, rfl⟩
        obtain ⟨g5, hg5⟩ : ∃ g5, g5 = w5.heap.size := ⟨_, rfl⟩
        rw [← hw6] at hB5' st5 Q5'
        rw [← hg5] at st5
        clear hb5 ba5 hB5 Q5 hB4 hD1
        go_wp2_with fail
        rw [← hw6, ← hg5]
        clear hw6 hg5
        refine (hD2 _).mono ?_
        rintro e w7 ⟨s7, a7, n7, c7, b7, m7, d7, rfl, Q7, hb7⟩
        have ba7 := alloc_below (w := w7) (.cells #[.bool s7, .slice a7 n7 c7, .slice b7 m7 d7] 50)
        have hB7 := hB5'.trans (hb7.mono hB5'.size)
        have hB7' := hB7.trans (ba7.mono hB7.size)
        have st7 := st_new w7 (.bool s7) (.slice a7 n7 c7) (.slice b7 m7 d7) 50
        have Q7' := Q7.later ba7
        have st5b := (st5.later hb7).later ba7
        have Q5b := (Q5'.later hb7).later ba7
        obtain ⟨w8, hw8⟩ : ∃ w8, w8 = w7.alloc (.cells #[.bool s7, .slice a7 n7 c7, .slice b7 m7 d7] 50) := ⟨_, rfl⟩
        obtain ⟨g7, hg7⟩ : ∃ g7, g7 = w7.heap.size := ⟨_, rfl⟩
        rw [← hw8] at hB7' st7 Q7' st5b Q5b
        rw [← hg7] at st7
        clear hb7 ba7 hB7 Q7 hB5' hD2 st5 Q5'
        go_wp2_with fail
        rw [← hw8, ← hg7]
        clear hw8 hg7
        refine (hSz _).mono ?_
        rintro e w9 ⟨rfl, rfl⟩
        go_wp2_with fail
        refine (hV _).mono ?_
        rintro e w10 ⟨s10, v1, v2, rfl, R10, hb10⟩
        obtain ⟨a10, n10, c10, b10, m10, d10, rfl, rfl, Q10⟩ := R10.opens
        have ba10 := alloc_below (w := w10) (.cells #[.bool s10, .slice a10 n10 c10, .slice b10 m10 d10] 50)
        have hB10 := hB7'.trans (hb10.mono hB7'.size)
        have hB10' := hB10.trans (ba10.mono hB10.size)
        have Q10' := Q10.later ba10
        have st7b := (st7.later hb10).later ba10
        have Q7b := (Q7'.later hb10).later ba10
        have st5c := (st5b.later hb10).later ba10
        have Q5c := (Q5b.later hb10).later ba10
        have st10 := st_new w10 (.bool s10) (.slice a10 n10 c10) (.slice b10 m10 d10) 50
        have hSb := rSub_ok Q5c Q10' hz1 hvs (by omega)
        rw [hoff] at hSb
        obtain ⟨o0, o1, o2⟩ := (st5b.later hb10).cells
        have o3 := (st5b.later hb10).lt
        obtain ⟨w11, hw11⟩ : ∃ w11, w11 = w10.alloc (.cells #[.bool s10, .slice a10 n10 c10, .slice b10 m10 d10] 50) := ⟨_, rfl⟩
        obtain ⟨g10, hg10⟩ : ∃ g10, g10 = w10.heap.size := ⟨_, rfl⟩
        rw [← hw11] at hB10' st7b Q7b st5c st10 hSb
        rw [← hg10] at st10
        obtain ⟨p0, p1, p2⟩ := st5c.cells
        obtain ⟨q0, q1, q2⟩ := st10.cells
        clear hb10 ba10 hB10 Q10 R10 hB7' hV hSz st7 Q7' st5b Q5b Q10' Q5c
        go_wp2_with fail
        rw [← hw11, ← hg10]
        clear hw11 hg10 p0 p1 p2 q0 q1 q2 o0 o1 o2 o3 st5c st10
        refine hSb.mono ?_
        rintro e w12 ⟨s12, v1, v2, rfl, R12, hs12, hb12⟩
        obtain ⟨a12, n12, c12, b12, m12, d12, rfl, rfl, Q12⟩ := R12.opens
        have hB12 := hB10'.trans (hb12.mono hB10'.size)
        have st7c := st7b.later hb12
        have Q7c := Q7b.later hb12
        have Q12s := Q12.size7 hDn hEp
        have ba12 := alloc_below (w := w12) (.cells #[.bool false, .slice a12 n12 c12, .slice b12 m12 d12] 50)
        have hB13 := hB12.trans (ba12.mono hB12.size)
        have st13 := st_new w12 (.bool false) (.slice a12 n12 c12) (.slice b12 m12 d12) 50
        have st7d := st7c.later ba12
        have Q7d := Q7c.later ba12
        have Q13 := Q12s.later ba12
        have hszA : Sz (mkR false D E) (210 + 210 + 20 + 1) := by
          have h := mkR_abs (s := sg9) hDn hEp
          unfold Sz at hs12 ⊢
          rw [h.1, h.2.1] at hs12
          exact hs12
        have hCm := rCmp_ok Q13 Q7d hszA hz2 (by omega) hK
        have hlt7 := st7c.lt
        obtain ⟨o0, o1, o2⟩ := st7c.cells
        clear hSb hb12 hB10' st7b Q7b R12 hs12 Q12 Q7c Q12s hszA hB12 hoff hz1 hz2 hvs
        go_wp2_with fail
        refine hCm.mono ?_
        rintro e w14 ⟨rfl, hb14⟩
        have hB14 := hB13.trans (hb14.mono hB13.size)
        clear hCm hb14 hB13 Q13 Q7d st7d st13 st7c hK hlt7 o0 o1 o2 ba12
        rcases hK2 with rfl | ⟨rfl, hev⟩
        · clear xl hcl3
          go_wp2
          go_ret
          exact ⟨rfl, hB14⟩
        · have v0 : (M : Int) - 1 = ((M - 1 : Nat) : Int) := by omega
          have v1 : ((M - 1 : Nat) : Int) < (M : Int) := by omega
          have v2 : M - 1 < d.size := by omega
          have v3 : Int.tmod ((cl.toNat : Int) - 48) 2 = 0 := by rw [Int.tmod_eq_emod_of_nonneg (by omega)]; omega
          clear hev hcl3
          go_wp2
          go_ret
          exact ⟨rfl, hB14⟩
end Go.Proofs.YtceecgklgkiffaaGreatDoor
