/- Layer 13: the walk of ExpandCuts. -/
import Derived.Test.YtceecgklgkiffabGreatDoorExpV0
namespace Go.Proofs.YtceecgklgkiffabGreatDoor
open Go.ChangeShapes Go.WideShapes Go.ChangeAt Go.RowKit
open Na Ar Ep
set_option linter.unusedVariables false
namespace Ep
def filS (m i : Nat) : List UInt8 := List.replicate i 48 ++ List.replicate (m - i) 0
theorem filS_zero (m : Nat) : filS m 0 = List.replicate m 0 := by unfold filS; simp
theorem filS_end (m : Nat) : filS m m = List.replicate m 48 := by unfold filS; simp
theorem filS_set {m i : Nat} (h : i < m) : (filS m i).set i 48 = filS m (i + 1) := by
  unfold filS
  obtain ⟨k, hk⟩ : ∃ k, m - i = k + 1 := ⟨m - i - 1, by omega⟩
  have h2 : m - (i + 1) = k := by omega
  rw [hk, h2, List.set_append_right _ _ (by simp), List.length_replicate, Nat.sub_self, List.replicate_succ, List.set_cons_zero, List.replicate_succ', List.append_assoc]
  rfl
end Ep
theorem fixed_wo {b : Int} (hu : U b) (hf : ef b ≠ 2047) {n : Nat} (hn : n ≤ 1100) (w : World) :
    Calls Tryz.prog 15 #[.int .u64 b, .int .i64 (n : Int)] w fun e w' => ∃ T D : ByteArray, e = .returned (.tuple #[.string T, .int .i64 0]) ∧ (∀ w, Calls Tryz.prog 16 #[.string T] w fun e w' => e = .returned (.string D) ∧ Below w.heap.size w w') ∧ (∀ w, Calls Tryz.prog 10 #[.string D, .int .i64 (-(n : Int))] w fun r w' => ∃ s a n' c b' m f, r = .returned (.tuple #[.agg #[.bool s, .slice a n' c, .slice b' m f], .bool true]) ∧ Rt w' s a n' c b' m f (dcR (fxR (szA b) n) (-(n : Int))) ∧ Below w.heap.size w w') ∧ Sz (dcR (fxR (szA b) n) (-(n : Int))) (210 + 210) ∧ Below w.heap.size w w' := by
  refine (fixed_fin hu hf hn w).mono ?_
  rintro e w' ⟨M, hM, hM9, rfl, hb⟩
  generalize fxR (szA b) n = R at *
  have hM2 : R < 10 ^ M ∧ n + 1 ≤ M := by
    rcases hM with ⟨h1, h2⟩ | ⟨h1, _, h2⟩
    · rw [h1]; exact ⟨h2, Nat.le_refl _⟩
    · exact ⟨h2, by omega⟩
  have hl : (sgL (spS b) ++ ptL M (R) n).length ≤ 100000 := by
    have a1 := ptL_len (W := R) hM2.2
    have a2 : (sgL (spS b)).length ≤ 1 := by cases spS b <;> decide
    rw [List.length_append]
    omega
  have hW := fun w => without13_any hl w
  rw [woL_pt (by omega)] at hW
  exact ⟨_, _, rfl, hW, fun w => dec13_any (by omega) hM9 hM2.1 (by omega) (by omega) w, (dc_size (m := M) hM9 hM2.1 (by omega) (by omega)).2.2, hb⟩
set_option maxHeartbeats 6400000 in
set_option maxRecDepth 100000 in
theorem cuts_pos {b n0 : Int} (hu : U b) (i0 : -9223372036854775808 ≤ n0) (i1 : n0 ≤ 9223372036854775807) {w : World} (hf : ef b ≠ 2047) (hA0 : ¬ szA b = 0) :
    Calls Tryz.prog 3 #[.int .u64 b, .int .i64 n0] w fun r w' => r = .returned (.bool true) ∧ Below w.heap.size w w' := by
  obtain ⟨n, hn, hn1, hn9⟩ : ∃ n : Nat, (IntKind.u64.wrap n0).tmod 1100 = (n : Int) - 1 ∧ 1 ≤ n ∧ n ≤ 1100 := by
    have h0 : 0 ≤ IntKind.u64.wrap n0 % 1100 := Int.emod_nonneg _ (by omega)
    have h1 := Int.emod_lt_of_pos (IntKind.u64.wrap n0) (show (0 : Int) < 1100 by omega)
    have h2 : 0 ≤ IntKind.u64.wrap n0 := (U_wrap n0).1
    rw [Int.tmod_eq_emod_of_nonneg h2]
    exact ⟨(IntKind.u64.wrap n0 % 1100).toNat + 1, by omega, by omega, by omega⟩
  obtain ⟨i_u8, hi_u8, hz0_u8, hz1_u8, hz2_u8⟩ := info_parts info8
  have hA := alive13_any
  have hF := finite13_any hu
  have z0 : (n : Int) ≤ 1100 := by omega
  have z1 : (1 : Int) ≤ n := by omega
  have z2 : 1 + ((n : Int) - 1) = (n : Int) := by omega
  have hX := fun w => precise_fin hu hf (n := n) hn1 hn9 w
  have hDg := fun w => digits_fin hu hf w
  have da : decide (ef b ≠ 2047) = true := by simp [hf]
  rw [da] at hF
  obtain ⟨N, L, x, hDec⟩ := dec_ex (A := szA b) (by omega)
  obtain ⟨D, X, hPP⟩ : ∃ D X, ((rn L N n < 10 ^ n ∧ D = rn L N n ∧ X = (L : Int) + x - n) ∨ (rn L N n = 10 ^ n ∧ D = 10 ^ (n - 1) ∧ X = (L : Int) + x - n + 1)) := by
    have := rn_le (n := n) hDec.hi
    by_cases q : rn L N n < 10 ^ n
    · exact ⟨_, _, Or.inl ⟨q, rfl, rfl⟩⟩
    · exact ⟨_, _, Or.inr ⟨by omega, rfl, rfl⟩⟩
  have hPz : Pz (szA b) n D X := Or.inr ⟨N, L, x, by omega, hDec, hPP⟩
  have htop := dec_top hu hf hDec
  have hDlt : D < 10 ^ n := by
    rcases hPP with ⟨h1, h2, _⟩ | ⟨_, h2, _⟩
    · omega
    · rw [h2]; exact Nat.pow_lt_pow_right (by omega) (by omega)
  have hX0 : -1500 ≤ X ∧ X ≤ 400 := by omega
  obtain ⟨sg9, W, y, hoff, K, hK, hK1, hK2⟩ := cuts_half hDec hn1 hPP
  have hfst := cuts_first hDec hn1 hPP
  have hall := fun h => cuts_all (n := n) (D := D) hDec h hPP
  have hex := fun h => cuts_exact hf (n := n) hDec h
  have hval := dec_val hf hDec
  rw [hval] at hoff hex
  have hX2 : ∀ w, Calls Tryz.prog 5 #[.int .u64 b, .int .i64 (n : Int)] w fun e w' => e = .returned (.tuple #[.string ⟨(dg n D).toArray⟩, .int .i64 X, .int .i64 0]) ∧ Below w.heap.size w w' := fun w => by
    refine (hX w).mono ?_
    rintro e w' ⟨D', X', h1, _, rfl, hb⟩
    obtain ⟨rfl, rfl⟩ := pz_uniq h1 hPz
    exact ⟨rfl, hb⟩
  have hD2 : ∀ w, Calls Tryz.prog 8 #[.int .u64 b] w fun e w' => e = .returned (.tuple #[.string ⟨(dg L N).toArray⟩, .int .i64 x, .int .i64 0]) ∧ (L ≤ 1300 ∧ -1100 ≤ x ∧ x ≤ 1300) ∧ Below w.heap.size w w' := fun w => by
    refine (hDg w).mono ?_
    rintro e w' ⟨N', L', x', rfl, h1, hbd, hb⟩
    obtain ⟨rfl, rfl, rfl⟩ := dz_uniq h1 (Or.inr ⟨by omega, hDec⟩)
    exact ⟨rfl, by omega, hb⟩
  have hSz := size13_any hu
  have hV := fun w => nearValue_fin (Ar.U_mg b) (by rw [ef_mg]; exact hf) w
  have hvs := value_size (Ar.U_mg b) (by rw [ef_mg]; exact hf)
  have hD5 := fun w => dec13_any (m := 1) (X := 5) (e := X - 1) (by omega) (by omega) (by omega) (by omega) (by omega) w
  have hd5 : dg 1 5 = [53] := rfl
  rw [hd5] at hD5
  have hDc := fun w => dec13_any (m := n) (X := D) (e := X) hn1 (by omega) hDlt (by omega) (by omega) w
  have hzD := (dc_size (m := n) (X := D) (e := X) (by omega) hDlt (by omega) (by omega)).2.2
  have hz5 := (dc_size (m := 1) (X := 5) (e := X - 1) (by omega) (by omega) (by omega) (by omega)).2.2
  have hFx := fun w => fixed_wo hu hf (n := n) hn9 w
  have h0W : 0 ≤ dcN W y := Int.mul_nonneg (by omega) (Int.pow_nonneg (by omega))
  have hpy := dcD_pos y
  have hL1 := hDec.L1
  have hlast := hDec.last
  obtain ⟨cf, hcf, hcf1⟩ := dg_first hn1 hfst hDlt
  obtain ⟨s, hs⟩ : ∃ s : ByteArray, s = ⟨(dg n D).toArray⟩ := ⟨_, rfl⟩
  have hsl : s.data.toList = dg n D := by rw [hs]
  have hsz : s.size = n := by rw [Lib.size_eq, hsl]; exact dg_len n D
  obtain ⟨d, hd⟩ : ∃ d : ByteArray, d = ⟨(dg L N).toArray⟩ := ⟨_, rfl⟩
  have hdl : d.data.toList = dg L N := by rw [hd]
  have hdz : d.size = L := by rw [Lib.size_eq, hdl]; exact dg_len L N
  have x0 : ∀ h, (s[0]'h) = cf := fun h => by
    have := Lib.data_getElem? s 0 h
    rw [hsl, hcf] at this
    exact (Option.some.inj this).symm
  have k0 : ((cf.toNat : Int) == 48) = false := beq_eq_false_iff_ne.2 fun e => hcf1 (UInt8.toNat_inj.1 (by exact_mod_cast e))
  have hNe2 : d.toList.isEmpty = false := by
    rw [Lib.toList_data, hdl]
    have := dg_ne (N := N) hL1
    cases hq : dg L N with
    | nil => exact absurd hq this
    | cons _ _ => rfl
  have hNo : ¬ dg L N = [48] := fun e => by
    have hl : L = 1 := by have := congrArg List.length e; rw [dg_len] at this; simpa using this
    rw [hl] at e
    have e1 : dg 1 N = [] ++ [UInt8.ofNat (48 + N % 10)] := rfl
    rw [e1] at e
    have e2 : UInt8.ofNat (48 + N % 10) = 48 := by simpa using e
    have e3 := congrArg UInt8.toNat e2
    rw [dch_nat (Nat.mod_lt _ (by omega))] at e3
    have e48 : (48 : UInt8).toNat = 48 := rfl
    omega
  have hn0 : (d.toList == [48]) = false := by rw [Lib.toList_data, hdl]; exact beq_eq_false_iff_ne.2 hNo
  have hn2 : ¬ d.toList = [48] := by rw [Lib.toList_data, hdl]; exact hNo
  rw [← hs] at hX2 hDc
  rw [← hd] at hD2
  have HALL : Hid (L ≤ n → s = d ++ ⟨(List.replicate (n - L) (48 : UInt8)).toArray⟩ ∧ X = x - ((n - L : Nat) : Int)) := fun h => by
    have := hall h
    refine ⟨?_, this.2⟩
    rw [hs, this.1, hd]
    apply ByteArray.ext
    simp
  have HEX : Hid (-x ≤ (n : Int) → dcR (fxR (szA b) n) (-(n : Int)) = valR (mg b)) := hex
  generalize valR (mg b) = V at *
  generalize mg b = mb at *
  generalize spS b = sS at *
  generalize szA b = A at *
  clear hs hd hsl hdl hall hex hX hDg hPz hPP hDec hcf hcf1 hfst hNo hval hlast da hf hA0 htop hd5
  go_enter Tryz.func3, Tryz.ntmps3
  go_wp2_with fail
  refine (hX2 w).mono ?_
  rintro e w1 ⟨rfl, hb1⟩
  go_wp2_with fail
  refine (hA w1).mono ?_
  rintro e w2 ⟨rfl, hb2⟩
  have hB2 := hb1.trans (hb2.mono hb1.size)
  go_wp2_with fail
  refine (hF w2).mono ?_
  rintro e w3 ⟨rfl, rfl⟩
  go_wp2_with fail
  refine (hD2 _).mono ?_
  rintro e w4 ⟨rfl, hbd, hb4⟩
  have hB4 := hB2.trans (hb4.mono hB2.size)
  clear hX2 hA hF hD2 hb1 hb2 hb4 hB2
  go_wp2_with fail
  refine (hDc _).mono ?_
  rintro e w5 ⟨s5, a5, n5, c5, b5, m5, d5, rfl, Q5, hb5⟩
  have ba5 := alloc_below (w := w5) (.cells #[.bool s5, .slice a5 n5 c5, .slice b5 m5 d5] 36)
  have hB5 := hB4.trans (hb5.mono hB4.size)
  have hB5' := hB5.trans (ba5.mono hB5.size)
  have st5 := st_new w5 (.bool s5) (.slice a5 n5 c5) (.slice b5 m5 d5) 36
  have Q5' := Q5.later ba5
  obtain ⟨w6, hw6⟩ : ∃ w6, w6 = w5.alloc (.cells #[.bool s5, .slice a5 n5 c5, .slice b5 m5 d5] 36) := ⟨_, rfl⟩
  obtain ⟨g5, hg5⟩ : ∃ g5, g5 = w5.heap.size := ⟨_, rfl⟩
  rw [← hw6] at hB5' st5 Q5'
  rw [← hg5] at st5
  clear hb5 ba5 hB5 Q5 hB4 hDc
  go_wp2_with fail
  rw [← hw6, ← hg5]
  clear hw6 hg5
  refine (hD5 _).mono ?_
  rintro e w7 ⟨s7, a7, n7, c7, b7, m7, d7, rfl, Q7, hb7⟩
  have ba7 := alloc_below (w := w7) (.cells #[.bool s7, .slice a7 n7 c7, .slice b7 m7 d7] 36)
  have hB7 := hB5'.trans (hb7.mono hB5'.size)
  have hB7' := hB7.trans (ba7.mono hB7.size)
  have st7 := st_new w7 (.bool s7) (.slice a7 n7 c7) (.slice b7 m7 d7) 36
  have Q7' := Q7.later ba7
  have st5b := (st5.later hb7).later ba7
  have Q5b := (Q5'.later hb7).later ba7
  obtain ⟨w8, hw8⟩ : ∃ w8, w8 = w7.alloc (.cells #[.bool s7, .slice a7 n7 c7, .slice b7 m7 d7] 36) := ⟨_, rfl⟩
  obtain ⟨g7, hg7⟩ : ∃ g7, g7 = w7.heap.size := ⟨_, rfl⟩
  rw [← hw8] at hB7' st7 Q7' st5b Q5b
  rw [← hg7] at st7
  clear hb7 ba7 hB7 Q7 hB5' hD5 st5 Q5'
  go_wp2_with fail
  rw [← hw8, ← hg7]
  clear hw8 hg7
  refine (hSz _).mono ?_
  rintro e w9 ⟨rfl, rfl⟩
  go_wp2_with fail
  refine (hV _).mono ?_
  rintro e w10 ⟨s10, v1, v2, rfl, R10, hb10⟩
  obtain ⟨a10, n10, c10, b10, m10, d10, rfl, rfl, Q10⟩ := R10.opens
  have ba10 := alloc_below (w := w10) (.cells #[.bool s10, .slice a10 n10 c10, .slice b10 m10 d10] 36)
  have hB10 := hB7'.trans (hb10.mono hB7'.size)
  have hB10' := hB10.trans (ba10.mono hB10.size)
  have Q10' := Q10.later ba10
  have st7b := (st7.later hb10).later ba10
  have Q7b := (Q7'.later hb10).later ba10
  have st5c := (st5b.later hb10).later ba10
  have Q5c := (Q5b.later hb10).later ba10
  have st10 := st_new w10 (.bool s10) (.slice a10 n10 c10) (.slice b10 m10 d10) 36
  have hSb := rSub_ok Q5c Q10' hzD hvs (by omega)
  rw [hoff] at hSb
  obtain ⟨o0, o1, o2⟩ := (st5b.later hb10).cells
  have o3 := (st5b.later hb10).lt
  obtain ⟨w11, hw11⟩ : ∃ w11, w11 = w10.alloc (.cells #[.bool s10, .slice a10 n10 c10, .slice b10 m10 d10] 36) := ⟨_, rfl⟩
  obtain ⟨g10, hg10⟩ : ∃ g10, g10 = w10.heap.size := ⟨_, rfl⟩
  rw [← hw11] at hB10' st7b Q7b st5c st10 hSb Q10'
  rw [← hg10] at st10
  obtain ⟨p0, p1, p2⟩ := st5c.cells
  obtain ⟨q0, q1, q2⟩ := st10.cells
  clear hb10 ba10 hB10 Q10 R10 hB7' hV hSz st7 Q7' st5b Q5b Q5c
  go_wp2_with fail
  rw [← hw11, ← hg10]
  clear hw11 hg10 p0 p1 p2 q0 q1 q2 o0 o1 o2 o3 st5c
  refine hSb.mono ?_
  rintro e w12 ⟨s12, v1, v2, rfl, R12, hs12, hb12⟩
  obtain ⟨a12, n12, c12, b12, m12, d12, rfl, rfl, Q12⟩ := R12.opens
  have hB12 := hB10'.trans (hb12.mono hB10'.size)
  have st7c := st7b.later hb12
  have Q7c := Q7b.later hb12
  have stv := st10.later hb12
  have Qv := Q10'.later hb12
  have Q12s := Q12.size7 h0W hpy
  have ba12 := alloc_below (w := w12) (.cells #[.bool false, .slice a12 n12 c12, .slice b12 m12 d12] 36)
  have hB13 := hB12.trans (ba12.mono hB12.size)
  have st13 := st_new w12 (.bool false) (.slice a12 n12 c12) (.slice b12 m12 d12) 36
  have st7d := st7c.later ba12
  have Q7d := Q7c.later ba12
  have Q13 := Q12s.later ba12
  have stv2 := stv.later ba12
  have Qv2 := Qv.later ba12
  have hszA : Sz (mkR false (dcN W y) (dcD y)) (210 + 210 + 20 + 1) := by
    have h := mkR_abs (s := sg9) h0W hpy
    unfold Sz at hs12 ⊢
    rw [h.1, h.2.1] at hs12
    exact hs12
  have hCm := rCmp_ok Q13 Q7d hszA hz5 (by omega) hK
  have hlt7 := st7c.lt
  obtain ⟨o0, o1, o2⟩ := st7c.cells
  clear hSb hb12 hB10' st7b Q7b R12 hs12 Q12 Q7c Q12s hszA hB12 hoff hzD hz5
  go_wp2_with fail
  refine hCm.mono ?_
  rintro e w14 ⟨rfl, hb14⟩
  have hB14 := hB13.trans (hb14.mono hB13.size)
  have stv3 := stv2.later hb14
  have Qv3 := Qv2.later hb14
  clear hCm hb14 hB13 Q13 Q7d st7d st13 st7c hK hlt7 o0 o1 o2 ba12 stv Qv stv2 Qv2 st10 Q10'
  have c0 : ¬ (0 : Int) < K := by omega
  clear hK1 hK2
  by_cases hLn : L ≤ n
  · obtain ⟨hse, hxe⟩ := HALL.out hLn
    obtain ⟨m, hm⟩ : ∃ m, m = n - L := ⟨_, rfl⟩
    rw [← hm] at hse hxe
    have y0 : (L : Int) ≤ (n : Int) := by omega
    have y1 : (n : Int) - (L : Int) = (m : Int) := by omega
    have y2 : (m : Int) ≤ 1100 := by omega
    have HXE : Hid (X = x - (m : Int)) := hxe
    obtain ⟨Z, hZ⟩ : ∃ Z : ByteArray, Z = ⟨(List.replicate m (48 : UInt8)).toArray⟩ := ⟨_, rfl⟩
    have HZ : Hid ((⟨(List.replicate m (48 : UInt8)).toArray⟩ : ByteArray) = Z) := hZ.symm
    rw [← hZ] at hse
    have HSE : Hid (s = d ++ Z) := hse
    clear hn hse hxe hZ HALL hm
    go_wp2_with (at_make; refine wpList_make_full _ rfl _ _ 45 rfl w14.heap.size 5 i_u8 (.int .u8 0) 1 Tryz.underlying45 hi_u8 hz0_u8 hz1_u8 .i64 .i64 _ _ m rfl rfl (by omega) (by omega) (by rw [hz2_u8]; omega) (by unfold maxLen; omega) (Nat.le_refl _) ?_)
    intro w15 hmade hgr
    have hown := own_zeros hmade
    rw [← nz_zeros] at hown
    have hb15 : Below w14.heap.size w14 w15 := (Below.refl _ _).grown hgr (Nat.le_refl _) (fun k hk => by cases hk)
    have hW := wr_own hown (by rw [List.length_replicate])
    obtain ⟨g, hg⟩ : ∃ g, g = w14.heap.size := ⟨_, rfl⟩
    have HG : Hid (w14.heap.size = g) := hg.symm
    rw [← hg] at hW hb15 ⊢
    clear hmade hgr hown hg
    go_wp2_with fail
    go_loopg [24] m (fun k s4 wr => ∃ i : Nat, s4 = .int .i64 (i : Int) ∧ i ≤ m ∧ m - i ≤ k ∧ Wr wr g g m (filS m i) ∧ Below g w14 wr)
    case atStart => exact ⟨0, rfl, Nat.zero_le _, by omega, by rw [filS_zero]; exact hW, hb15⟩
    case round =>
      obtain ⟨i, rfl, hi, hk, hWi, hBi⟩ := hrel
      clear hW hb15
      by_cases hlt : i < m
      · have hc := hWi.cell i hlt
        have hf := hWi.free i hlt
        obtain ⟨hs, hsb⟩ := hWi.set i 48 48 rfl hlt
        rw [filS_set hlt] at hs
        have hB3 := hBi.trans hsb
        have q1 : (i : Int) < (m : Int) := by omega
        clear hWi hBi hsb
        go_wp2
        go_roundg (m - (i + 1))
        case measure => omega
        case rel => exact ⟨i + 1, by go_num, by omega, by omega, hs, hB3⟩
      · have hi2 : i = m := by omega
        rw [hi2] at hWi ⊢
        rw [filS_end] at hWi
        have hR := hWi.row (c := m) (Nat.le_refl _) (by omega)
        have hcv := conv8 hR
        rw [HZ.out] at hcv
        have hBi2 : Below w14.heap.size w14 wr := by rw [HG.out]; exact hBi
        have hB15 := hB14.trans (hBi2.mono hB14.size)
        have stv4 := stv3.later hBi2
        have Qv4 := Qv3.later hBi2
        clear hWi hR hBi hBi2 stv3 Qv3 hB14 hi2 hlt hk hi
        have tq : s.toList = (d ++ Z).toList := by rw [HSE.out]
        have hzs : ¬ 9223372036854775807 < L + Z.size := by
          rw [← HZ.out]
          show ¬ 9223372036854775807 < L + (List.replicate m (48 : UInt8)).toArray.size
          simp
          omega
        have tx : (X != x - (m : Int)) = false := by rw [HXE.out]; simp
        have q1 : (m : Int) ≤ (m : Int) := by omega
        clear HSE HZ HXE HG
        by_cases hnx : (n : Int) < -x
        · go_wp2
          go_ret
          exact ⟨rfl, hB15⟩
        · have HV := HEX.out (by omega)
          have hnx2 : -x ≤ (n : Int) := by omega
          rw [HV] at hFx
          clear HV HEX hnx
          go_wp2_with fail
          refine (hFx _).mono ?_
          rintro e w16 ⟨TS, DS, rfl, hWo, hDw, hzw, hb16⟩
          have hB16 := hB15.trans (hb16.mono hB15.size)
          have st16 := stv4.later hb16
          have Q16 := Qv4.later hb16
          clear hb16 hB15 stv4 Qv4 hFx
          go_wp2_with fail
          refine (hWo _).mono ?_
          rintro e w17 ⟨rfl, hb17⟩
          have hB17 := hB16.trans (hb17.mono hB16.size)
          have st17 := st16.later hb17
          have Q17 := Q16.later hb17
          clear hb17 hB16 st16 Q16 hWo
          go_wp2_with fail
          refine (hDw _).mono ?_
          rintro e w18 ⟨s18, a18, n18, c18, b18, m18, d18, rfl, Q18, hb18⟩
          have ba := alloc_below (w := w18) (.cells #[.bool s18, .slice a18 n18 c18, .slice b18 m18 d18] 36)
          have hB18 := hB17.trans (hb18.mono hB17.size)
          have hB19 := hB18.trans (ba.mono hB18.size)
          have st18 := st_new w18 (.bool s18) (.slice a18 n18 c18) (.slice b18 m18 d18) 36
          have stv9 := (st17.later hb18).later ba
          have Q19 := Q18.later ba
          have Qv9 := (Q17.later hb18).later ba
          have hCm := rCmp_ok Q19 Qv9 hzw hvs (by omega) (ordR_zero.2 rfl)
          have hlt8 := (st17.later hb18).lt
          obtain ⟨w19, hw19⟩ : ∃ w19, w19 = w18.alloc (.cells #[.bool s18, .slice a18 n18 c18, .slice b18 m18 d18] 36) := ⟨_, rfl⟩
          obtain ⟨g19, hg19⟩ : ∃ g19, g19 = w18.heap.size := ⟨_, rfl⟩
          rw [← hw19] at st18 stv9 Q19 Qv9 hB19 hCm
          rw [← hg19] at st18
          obtain ⟨p0, p1, p2⟩ := st18.cells
          obtain ⟨q0, q1, q2⟩ := stv9.cells
          obtain ⟨u0, u1, u2⟩ := (st17.later hb18).cells
          clear hDw hb18 ba hB18 Q18 Q17 st17 hB17 hzw
          go_wp2_with fail
          rw [← hw19]
          clear hw19 hg19
          refine hCm.mono ?_
          rintro e w20 ⟨rfl, hb20⟩
          have hB20 := hB19.trans (hb20.mono hB19.size)
          go_wp2
          go_ret
          exact ⟨rfl, hB20⟩
  · have y0 : (n : Int) < (L : Int) := by omega
    clear HALL hn hLn
    by_cases hnx : (n : Int) < -x
    · go_wp2
      go_ret
      exact ⟨rfl, hB14⟩
    · have HV := HEX.out (by omega)
      have hnx2 : -x ≤ (n : Int) := by omega
      rw [HV] at hFx
      clear HV HEX hnx
      go_wp2_with fail
      refine (hFx _).mono ?_
      rintro e w16 ⟨TS, DS, rfl, hWo, hDw, hzw, hb16⟩
      have hB16 := hB14.trans (hb16.mono hB14.size)
      have st16 := stv3.later hb16
      have Q16 := Qv3.later hb16
      clear hb16 hB14 stv3 Qv3 hFx
      go_wp2_with fail
      refine (hWo _).mono ?_
      rintro e w17 ⟨rfl, hb17⟩
      have hB17 := hB16.trans (hb17.mono hB16.size)
      have st17 := st16.later hb17
      have Q17 := Q16.later hb17
      clear hb17 hB16 st16 Q16 hWo
      go_wp2_with fail
      refine (hDw _).mono ?_
      rintro e w18 ⟨s18, a18, n18, c18, b18, m18, d18, rfl, Q18, hb18⟩
      have ba := alloc_below (w := w18) (.cells #[.bool s18, .slice a18 n18 c18, .slice b18 m18 d18] 36)
      have hB18 := hB17.trans (hb18.mono hB17.size)
      have hB19 := hB18.trans (ba.mono hB18.size)
      have st18 := st_new w18 (.bool s18) (.slice a18 n18 c18) (.slice b18 m18 d18) 36
      have stv9 := (st17.later hb18).later ba
      have Q19 := Q18.later ba
      have Qv9 := (Q17.later hb18).later ba
      have hCm := rCmp_ok Q19 Qv9 hzw hvs (by omega) (ordR_zero.2 rfl)
      have hlt8 := (st17.later hb18).lt
      obtain ⟨w19, hw19⟩ : ∃ w19, w19 = w18.alloc (.cells #[.bool s18, .slice a18 n18 c18, .slice b18 m18 d18] 36) := ⟨_, rfl⟩
      obtain ⟨g19, hg19⟩ : ∃ g19, g19 = w18.heap.size := ⟨_, rfl⟩
      rw [← hw19] at st18 stv9 Q19 Qv9 hB19 hCm
      rw [← hg19] at st18
      obtain ⟨p0, p1, p2⟩ := st18.cells
      obtain ⟨q0, q1, q2⟩ := stv9.cells
      obtain ⟨u0, u1, u2⟩ := (st17.later hb18).cells
      clear hDw hb18 ba hB18 Q18 Q17 st17 hB17 hzw
      go_wp2_with fail
      rw [← hw19]
      clear hw19 hg19
      refine hCm.mono ?_
      rintro e w20 ⟨rfl, hb20⟩
      have hB20 := hB19.trans (hb20.mono hB19.size)
      go_wp2
      go_ret
      exact ⟨rfl, hB20⟩
set_option maxHeartbeats 1600000 in
theorem cuts_walk13 {b n0 : Int} (hu : U b) (i0 : -9223372036854775808 ≤ n0) (i1 : n0 ≤ 9223372036854775807) {w : World} :
    Calls Tryz.prog 3 #[.int .u64 b, .int .i64 n0] w fun r w' => r = .returned (.bool true) ∧ Below w.heap.size w w' := by
  by_cases hf : ef b = 2047
  · exact cuts_inf hu i0 i1 hf
  by_cases h0 : szA b = 0
  · exact cuts_zero hu i0 i1 hf h0
  exact cuts_pos hu i0 i1 hf h0
end Go.Proofs.YtceecgklgkiffabGreatDoor
