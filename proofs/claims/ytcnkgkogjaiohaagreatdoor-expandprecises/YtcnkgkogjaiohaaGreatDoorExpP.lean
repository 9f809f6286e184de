/- Layer 13: the document's zeros, plus, rounded. -/
import Derived.Test.YtcnkgkogjaiohaaGreatDoorExpO
namespace Go.Proofs.YtcnkgkogjaiohaaGreatDoor
open Go.ChangeShapes Go.WideShapes Go.ChangeAt Go.RowKit
open Na Ar Ep
set_option linter.unusedVariables false
theorem bytesW13 (w : World) (t : ByteArray) (l : List UInt8) (ht : t.data.toList = l) (hl : l.length ≤ 100000) : ∃ (c : Nat) (w' : World), (convert 9 60 (.string t)).run Tryz.prog w = .ok (.slice (some ⟨w.heap.size, 0, none⟩) l.length c) w' ∧ (l.length ≤ c ∧ c ≤ 9223372036854775807) ∧ Wr w' w.heap.size w.heap.size l.length l ∧ Below w.heap.size w w' := by
  have hs : t.size = l.length := by rw [Lib.size_eq, ht]
  have hr := Lib.run_convert_string_bytes (P := Tryz.prog) w 9 60 5 t (u := .string) Tryz.underlying9 Tryz.underlying60 Tryz.underlying5
  have hge := grownCap_ge w t.size 0 5
  have hle := grownCap_le_maxLen w t.size 0 5 (by unfold maxLen; omega)
  rw [hs] at hr hge hle
  refine ⟨_, _, hr, ⟨hge, by unfold maxLen at hle; omega⟩, ⟨Nat.le_refl _, by rw [Lib.bytesWorld_size]; omega, rfl, fun j hj => ?_, fun j hj => ?_⟩, Lib.bytesWorld_below w 5 t⟩
  · have := Lib.bytesWorld_cell w 5 t j (by omega)
    rw [ht] at this
    exact this
  · rw [← hs] at hj
    unfold World.frozen?
    rw [Lib.bytesWorld_at_new]
    have l : t.size ≤ (Lib.bytesCells w 5 t).size := by
      unfold Lib.bytesCells
      have : t.data.size = t.size := rfl
      simp
    simp
    omega
set_option maxHeartbeats 1600000 in
set_option maxRecDepth 100000 in
theorem rzeros_any {n : Nat} (hn : n ≤ 100000) (w : World) : Calls Tryz.prog 46 #[.int .i64 (n : Int)] w fun e w' => e = .returned (.string ⟨(List.replicate n 48).toArray⟩) ∧ Below w.heap.size w w' := by
  obtain ⟨i_u8, hi_u8, hz0_u8, hz1_u8, hz2_u8⟩ := info_parts info8
  have z0 : (n : Int) ≤ 100000 := by omega
  go_enter Tryz.func46, Tryz.ntmps46
  go_wp2
  go_loopg [3, 4] n (fun k s3 s4 wr => ∃ i : Nat, s4 = .int .i64 (i : Int) ∧ i ≤ n ∧ n - i ≤ k ∧ Own .u8 wr w.heap.size 5 s3 (nz (List.replicate i 48)) ∧ Below w.heap.size w wr)
  case atStart => exact ⟨0, rfl, Nat.zero_le _, by omega, own_nil _ _ _ _, Below.refl _ _⟩
  case round =>
    obtain ⟨i, rfl, hi, hk, hO, hB⟩ := hrel
    by_cases hlt : i < n
    · have q0 : (i : Int) < (n : Int) := by omega
      have HW : Hid (List.replicate (i + 1) (48 : UInt8) = List.replicate i 48 ++ [48]) := List.replicate_succ'
      obtain ⟨a3, c3, rfl, hR3⟩ := rb_own hO
      rw [List.length_replicate] at hO ⊢
      have hnl : (nz (List.replicate i (48 : UInt8))).length = i := by rw [nz_len, List.length_replicate]
      have hBs := hB.size
      clear hR3
      go_wp2_with (at_builtin; refine wpList_append_own _ rfl _ _ 60 rfl w.heap.size 5 i_u8 (.int .u8 0) 1 1 Tryz.underlying60 hi_u8 hz0_u8 hz1_u8 hz2_u8 rfl (by decide) _ _ _ rfl (hO.row.alloc _) ⟨wr.heap.size, 0, none⟩ 1 1 [.int .u8 48] rfl rfl one_new one_cell (by rw [hnl]; unfold maxLen; omega) (by rw [hnl]; omega) (by simp; omega) ?_)
      intro v4 w4 hv4 hg4 hn4
      have hO4 : Own .u8 w4 w.heap.size 5 v4 (nz (List.replicate (i + 1) 48)) := by
        rw [HW.out, nz_app]
        exact own_next hv4 hnl.symm
      have hB4 : Below w.heap.size w w4 := grow_below hBs hO.row hB hg4
      clear hv4 hg4 hn4 hO hB hnl
      go_wp2
      go_roundg (n - (i + 1))
      case measure => omega
      case rel => exact ⟨i + 1, by go_num, by omega, by omega, hO4, hB4⟩
    · have hi2 : i = n := by omega
      subst hi2
      obtain ⟨a3, c3, rfl, hR3⟩ := rb_own hO
      have hcv := conv8 hR3
      clear hO hR3
      obtain ⟨DL, hDL⟩ : ∃ DL, DL = List.replicate i (48 : UInt8) := ⟨_, rfl⟩
      rw [← hDL] at hcv ⊢
      have HDL : Hid (List.replicate i (48 : UInt8) = DL) := hDL.symm
      clear hDL
      go_wp2
      go_ret
      exact ⟨by rw [HDL.out]; rfl, hB⟩
namespace Ep
theorem one_app (l : List UInt8) : (⟨#[49]⟩ : ByteArray) ++ ⟨l.toArray⟩ = ⟨(49 :: l).toArray⟩ := by
  apply ByteArray.ext
  simp
theorem two_app (l m : List UInt8) : (⟨l.toArray⟩ : ByteArray) ++ ⟨m.toArray⟩ = ⟨(l ++ m).toArray⟩ := by
  apply ByteArray.ext
  simp
end Ep
set_option maxHeartbeats 3200000 in
set_option maxRecDepth 100000 in
theorem rplus_any {n Q : Nat} (hn : n ≤ 8000) (hQ : Q < 10 ^ n) (w : World) :
    Calls Tryz.prog 90 #[.string ⟨(dg n Q).toArray⟩] w fun e w' => e = .returned (.string ⟨(dg (nxl n Q) (Q + 1)).toArray⟩) ∧ Below w.heap.size w w' := by
  obtain ⟨c, w1, hcv, ⟨hc, hc9⟩, hW1, hb1⟩ := bytesW13 w ⟨(dg n Q).toArray⟩ (dg n Q) rfl (by rw [dg_len]; omega)
  rw [dg_len] at hcv hW1 hc
  have HQ : Hid (Q < 10 ^ n) := hQ
  have z0 : (n : Int) ≤ 8000 := by omega
  obtain ⟨g, hg⟩ : ∃ g, g = w.heap.size := ⟨_, rfl⟩
  have HG : Hid (w.heap.size = g) := hg.symm
  rw [← hg] at hcv hW1
  rw [← nineL_zero] at hW1
  obtain ⟨s, hs⟩ : ∃ s : ByteArray, s = ⟨(dg n Q).toArray⟩ := ⟨_, rfl⟩
  rw [← hs] at hcv ⊢
  clear hQ hg hs
  go_enter Tryz.func90, Tryz.ntmps90
  go_wp2
  go_loopg [4] (n + 1) (fun k s4 wr => ∃ (j : Nat) (I : Int), s4 = .int .i64 I ∧ I = (n : Int) - 1 - (j : Int) ∧ j ≤ n ∧ n - j < k + 1 ∧ Hid (Q % 10 ^ j = 10 ^ j - 1) ∧ Wr wr g g n (nineL n Q j) ∧ Below w.heap.size w wr)
  case atStart => exact ⟨0, _, rfl, by first | rfl | omega, Nat.zero_le _, by omega, (by show _ = _; rw [Nat.pow_zero]; omega), hW1, hb1⟩
  case round =>
    obtain ⟨j, I, rfl, hI, hj, hk, h9, hW, hB⟩ := hrel
    clear hW1 hb1 hcv
    by_cases hlt : j < n
    · obtain ⟨i, hi⟩ : ∃ i, i = n - 1 - j := ⟨_, rfl⟩
      have hIi : I = (i : Int) := by omega
      subst hIi
      clear hI
      have hin : i < n := by omega
      have hcc := hW.cell i hin
      have hf := hW.free i hin
      obtain ⟨d, hd⟩ : ∃ d, d = Q / 10 ^ j % 10 := ⟨_, rfl⟩
      have hd9 : d < 10 := by omega
      rw [hi, nineL_at hlt, ← hi, ← hd, dch_nat hd9] at hcc
      have HD : Hid (d = Q / 10 ^ j % 10) := hd
      have HI : Hid (i = n - 1 - j) := hi
      have q1 : (i : Int) < (n : Int) := by omega
      have q2 : (0 : Int) ≤ (i : Int) := by omega
      have q3 : ¬ (i : Int) < 0 := by omega
      have HC : Hid (((48 + d : Nat) : Int) = 48 + (d : Int)) := by show _ = _; omega
      rw [HC.out] at hcc
      clear hi hd
      by_cases hne : d = 9
      · obtain ⟨hs, hsb⟩ := hW.set i 48 48 rfl hin
        have HS : Hid ((nineL n Q j).set i 48 = nineL n Q (j + 1)) := by show _ = _; rw [HI.out]; exact nineL_next hlt
        rw [HS.out] at hs
        have HN : Hid (Q % 10 ^ (j + 1) = 10 ^ (j + 1) - 1) := nines_next h9.out (by rw [← HD.out]; exact hne)
        have hB3 : Below w.heap.size w (wr.setCell ⟨g, i, none⟩ (.int .u8 48)) := hB.trans (by rw [HG.out]; exact hsb)
        have hv : (48 + (d : Int)) = 57 := by rw [hne]; rfl
        rw [hv] at hcc
        clear hW hB hsb hne hv
        go_wp2
        go_roundg (n - j - 1)
        case measure => omega
        case rel => exact ⟨j + 1, _, rfl, by have := HI.out; omega, by omega, by omega, HN.out, hs, hB3⟩
      · obtain ⟨hs, hsb⟩ := hW.set i (UInt8.ofNat (48 + Q / 10 ^ j % 10 + 1)) (48 + (d : Int) + 1) (by
            rw [← HD.out, Nat.add_assoc, UInt8.toNat_ofNat']
            omega) hin
        have hnx := next_nines hlt h9.out (by rw [← HD.out]; exact hne)
        have HS : Hid ((nineL n Q j).set i (UInt8.ofNat (48 + Q / 10 ^ j % 10 + 1)) = dg n (Q + 1)) := by show _ = _; rw [HI.out, nineL_set hlt]; exact hnx.1
        rw [HS.out] at hs
        have hB3 : Below w.heap.size w (wr.setCell ⟨g, i, none⟩ (.int .u8 (48 + (d : Int) + 1))) := hB.trans (by rw [HG.out]; exact hsb)
        have hlt2 : Q + 1 < 10 ^ n := hnx.2 HQ.out
        have HL2 : Hid (nxl n Q = n) := by show _ = _; unfold nxl; rw [if_pos hlt2]
        have hb9 : (48 + (d : Int) == 57) = false := by simp; omega
        have hR := hs.row (c := c) hc hc9
        have hcv2 := conv8 hR
        obtain ⟨DL, hDL⟩ : ∃ DL, DL = dg n (Q + 1) := ⟨_, rfl⟩
        rw [← hDL] at hcv2
        have HDL : Hid (dg n (Q + 1) = DL) := hDL.symm
        clear hW hB hsb hnx hs hlt2 hR hDL
        go_wp2
        go_ret
        exact ⟨by rw [HL2.out, HDL.out]; rfl, hB3⟩
    · obtain rfl : j = n := by omega
      have hIi : I < 0 := by omega
      clear hI
      have hR := hW.row (c := c) hc hc9
      have hQ1 := nines_all HQ.out h9.out
      have HL : Hid (49 :: nineL j Q j = dg (nxl j Q) (Q + 1)) := by
        show _ = _
        have : nxl j Q = j + 1 := by unfold nxl; rw [if_neg (by omega)]
        rw [this, hQ1, one_zeros]
        unfold nineL
        rw [Nat.sub_self]
        rfl
      have hcv2 := conv8 hR
      have hln : (nineL j Q j).length = j := nineL_len (Nat.le_refl _)
      obtain ⟨DL, hDL⟩ : ∃ DL, DL = nineL j Q j := ⟨_, rfl⟩
      rw [← hDL] at hcv2 hln
      have HLD : Hid (49 :: DL = dg (nxl j Q) (Q + 1)) := by show _ = _; rw [hDL]; exact HL.out
      have hone := one_app DL
      rw [HLD.out] at hone
      have hlen : DL.length ≤ 8000 := by omega
      have hsz2 : DL.toArray.size ≤ 8000 := by simp; omega
      have hsz : ((⟨DL.toArray⟩ : ByteArray).size : Int) ≤ 8000 := by
        have : (⟨DL.toArray⟩ : ByteArray).size = DL.length := by rw [Lib.size_eq]
        omega
      obtain ⟨EL, hEL⟩ : ∃ EL, EL = dg (nxl j Q) (Q + 1) := ⟨_, rfl⟩
      rw [← hEL] at hone
      have HEL : Hid (dg (nxl j Q) (Q + 1) = EL) := hEL.symm
      clear hW hR hQ1 h9 hDL hEL HL hln HLD
      go_wp2
      go_ret
      exact ⟨by rw [HEL.out]; rfl, hB⟩
namespace Ep
/-- how the document rounds: the digit behind, and what is behind it -/
def upR (L N t : Nat) : Bool := decide (5 < N / 10 ^ (L - t - 1) % 10) || (decide (N / 10 ^ (L - t - 1) % 10 = 5) && (decide (N / 10 ^ (L - t) % 2 = 1) || decide (N % 10 ^ (L - t - 1) ≠ 0)))
theorem upR_up {L N t : Nat} (h : t < L) : upR L N t = up N (10 ^ (L - t)) := by
  obtain ⟨k, hk⟩ : ∃ k, L - t = k + 1 := ⟨L - t - 1, by omega⟩
  unfold upR up
  rw [hk, Nat.add_sub_cancel]
  have p : 0 < 10 ^ k := Nat.pow_pos (by omega)
  have e : N % 10 ^ (k + 1) = 10 ^ k * (N / 10 ^ k % 10) + N % 10 ^ k := by
    rw [Nat.pow_succ, Nat.mod_mul]
    omega
  have hr := Nat.mod_lt N p
  have hd := Nat.mod_lt (N / 10 ^ k) (show 0 < 10 by omega)
  have e10 : 10 ^ (k + 1) = 10 * 10 ^ k := by rw [Nat.pow_succ, Nat.mul_comm]
  rw [e]
  generalize N / 10 ^ k % 10 = d at *
  generalize N % 10 ^ k = r at *
  generalize N / 10 ^ (k + 1) % 2 = o at *
  rw [e10]
  generalize 10 ^ k = P at *
  have key : (10 * P < 2 * (P * d + r) ↔ 5 < d ∨ (d = 5 ∧ r ≠ 0)) ∧ (2 * (P * d + r) = 10 * P ↔ d = 5 ∧ r = 0) := by
    rcases Nat.lt_trichotomy d 5 with q | q | q
    · have : P * d ≤ P * 4 := Nat.mul_le_mul_left _ (by omega)
      omega
    · subst q
      omega
    · have : P * 6 ≤ P * d := Nat.mul_le_mul_left _ (by omega)
      omega
  rw [Bool.eq_iff_iff]
  simp only [Bool.or_eq_true, Bool.and_eq_true, decide_eq_true_eq]
  rw [key.1, key.2]
  omega
/-- whether any of the first i digits behind is not 0 -/
theorem any_zero {k N : Nat} : (∀ c ∈ dg k N, c = 48) ↔ N % 10 ^ k = 0 := by
  constructor
  · intro h
    have e : dg k (N % 10 ^ k) = dg k 0 := by
      rw [dg_mod, dg_zero]
      refine List.eq_replicate_iff.2 ⟨dg_len _ _, h⟩
    exact dg_inj (Nat.mod_lt _ (Nat.pow_pos (by omega))) (Nat.pow_pos (by omega)) e
  · intro h c hc
    rw [← dg_mod, h, dg_zero] at hc
    exact List.eq_of_mem_replicate hc
end Ep
end Go.Proofs.YtcnkgkogjaiohaaGreatDoor
