/- Layer 13: the statements' own helpers: finite, size, without; radix.Parse of digits. -/
import Derived.Test.YtceecgklgkiffaaGreatDoorExpI
import Derived.Lib.IndexBytes
namespace Go.Proofs.YtceecgklgkiffaaGreatDoor
open Go.ChangeShapes Go.WideShapes Go.ChangeAt Go.RowKit
open Na Ar Ep
set_option linter.unusedVariables false
namespace Ep
theorem ef_mg (b : Int) : ef (mg b) = ef b := by unfold ef mg; rw [Int.emod_emod_of_dvd _ (by omega)]
theorem fr_mg (b : Int) : fr (mg b) = fr b := by have a := mg_parts b; have c := mg_parts (mg b); have d := ef_mg b; have : mg (mg b) = mg b := by unfold mg; omega
                                                 omega
theorem numW_mg (b : Int) : numW (mg b) = numW b := by
  unfold numW spM spX
  rw [ef_mg, fr_mg]
theorem szA_mg (b : Int) : szA (mg b) = szA b := by unfold szA; rw [numW_mg]
theorem spS_mg (b : Int) : spS (mg b) = false := by
  unfold spS
  split
  · rfl
  · have := mg_bd b
    exact decide_eq_false (by omega)
theorem dgt_dg {m X i : Nat} (h : i < m) : dgt ⟨(dg m X).toArray⟩ i = ((X / 10 ^ (m - 1 - i) % 10 : Nat) : Int) := by
  have hd : X / 10 ^ (m - 1 - i) % 10 < 10 := Nat.mod_lt _ (by omega)
  unfold dgt
  rw [byte_list]
  show valN (((dg m X).getD i 0).toNat : Int) = _
  rw [List.getD_eq_getElem?_getD, dg_at h]
  show valN ((UInt8.ofNat (48 + X / 10 ^ (m - 1 - i) % 10)).toNat : Int) = _
  rw [dch_nat hd]
  generalize X / 10 ^ (m - 1 - i) % 10 = d at *
  unfold valN
  rw [if_pos (by omega)]
  omega
theorem numB_dg {m X : Nat} : ∀ i, i ≤ m → X < 10 ^ m → numB ⟨(dg m X).toArray⟩ 10 i = ((X / 10 ^ (m - i) : Nat) : Int) := by
  intro i
  induction i with
  | zero =>
    intro _ hX
    rw [Nat.sub_zero, Nat.div_eq_of_lt hX]
    rfl
  | succ i ih =>
    intro hi hX
    have e : numB ⟨(dg m X).toArray⟩ 10 (i + 1) = numB ⟨(dg m X).toArray⟩ 10 i * 10 + dgt ⟨(dg m X).toArray⟩ i := rfl
    rw [e, ih (by omega) hX, dgt_dg (by omega)]
    have h1 : m - i = (m - (i + 1)) + 1 := by omega
    have h2 : m - 1 - i = m - (i + 1) := by omega
    rw [h1, h2, Nat.pow_succ, ← Nat.div_div_eq_div_mul]
    generalize X / 10 ^ (m - (i + 1)) = y
    omega
/-- a text without its minus and its point -/
def woL (l : List UInt8) : List UInt8 := l.filter fun c => !(c == 45) && !(c == 46)
theorem woL_dg (m X : Nat) : woL (dg m X) = dg m X := by
  unfold woL
  refine List.filter_eq_self.2 fun c hc => ?_
  have := dg_range m X c hc
  have h1 : c ≠ 45 := fun e => by rw [e] at this; simp at this
  have h2 : c ≠ 46 := fun e => by rw [e] at this; simp at this
  simp [h1, h2]
theorem woL_app (l m : List UInt8) : woL (l ++ m) = woL l ++ woL m := by unfold woL; rw [List.filter_append]
theorem woL_pt {s : Bool} {M W n : Nat} (h : n ≤ M) : woL (sgL s ++ ptL M W n) = dg M W := by
  rw [woL_app]
  have h0 : woL (sgL s) = [] := by cases s <;> rfl
  rw [h0, List.nil_append]
  unfold ptL
  split
  · exact woL_dg _ _
  · rw [woL_app, woL_dg]
    have : woL (46 :: dg n W) = woL (dg n W) := rfl
    rw [this, woL_dg]
    obtain ⟨k, rfl⟩ : ∃ k, M = k + n := ⟨M - n, by omega⟩
    rw [Nat.add_sub_cancel, ← dg_split]
theorem woL_take {l : List UInt8} {i : Nat} {c : UInt8} (h : l[i]? = some c) : woL (l.take (i + 1)) = woL (l.take i) ++ woL [c] := by
  rw [← woL_app]
  congr 1
  rw [List.take_add_one, h]
  rfl
end Ep
theorem finite13_any {b : Int} (hu : U b) (w : World) : Calls Tryz.prog 10 #[.int .u64 b] w fun e w' => e = .returned (.bool (decide (ef b ≠ 2047))) ∧ w' = w := by
  have hK := fun w => f6Class_any hu w
  have HZ : Hid (decide (clsW b < 3) = decide (ef b ≠ 2047)) := by
    refine decide_eq_decide.2 ?_
    unfold clsW
    by_cases h : ef b = 2047
    · rw [if_pos h]
      split <;> omega
    · rw [if_neg h]
      refine ⟨fun _ => h, fun _ => ?_⟩
      split
      · split <;> omega
      · omega
  have hb3 : -10 ≤ clsW b ∧ clsW b ≤ 10 := by unfold clsW; split <;> split <;> (try split) <;> omega
  generalize clsW b = K at *
  go_enter Tryz.func10, Tryz.ntmps10
  go_wp2_with (refine (hK _).mono ?_; rintro e w' ⟨rfl, rfl⟩)
  go_ret
  exact ⟨by rw [← HZ.out]; rfl, rfl⟩
theorem size13_any {b : Int} (hu : U b) (w : World) : Calls Tryz.prog 11 #[.int .u64 b] w fun e w' => e = .returned (.int .u64 (mg b)) ∧ w' = w := by
  have hs := size_bits hu
  go_enter Tryz.func11, Tryz.ntmps11
  go_wp2
  go_ret
  exact ⟨rfl, rfl⟩
theorem parse13_any {m X : Nat} (hm : 1 ≤ m) (hm9 : m ≤ 4000) (hX : X < 10 ^ m) (w : World) :
    Calls Tryz.prog 13 #[.string ⟨(dg m X).toArray⟩, .int .i64 10] w fun e w' => ∃ a n c ls, e = .returned (.tuple #[.slice a n c, .nilIface]) ∧ RowC w' a n c ls ∧ (Nm ls (X : Int) ∧ n ≤ 4000) ∧ Below w.heap.size w w' := by
  have hs : (⟨(dg m X).toArray⟩ : ByteArray).size = m := by rw [Lib.size_eq]; exact dg_len m X
  have hd : ∀ i, i < (⟨(dg m X).toArray⟩ : ByteArray).size → dgt ⟨(dg m X).toArray⟩ i < 10 := fun i hi => by
    rw [hs] at hi
    rw [dgt_dg hi]
    have := Nat.mod_lt (X / 10 ^ (m - 1 - i)) (show 0 < 10 by omega)
    omega
  have hp := parse_good ⟨(dg m X).toArray⟩ 10 (by omega) (by omega) (by omega) (by omega) hd w
  have hl := numB_len (s := ⟨(dg m X).toArray⟩) (b := 10) (n := m) (by omega) (by omega) (fun i hi => hd i (by omega))
  have hn := numB_dg (m := m) (X := X) m (Nat.le_refl _) hX
  rw [Nat.sub_self, Nat.pow_zero, Nat.div_one] at hn
  rw [hs, hn] at hp
  rw [hn] at hl
  refine hp.mono ?_
  rintro e w' (⟨_, v, rfl, ho, hb⟩ | ⟨h, _⟩)
  · obtain ⟨a, c, rfl, hr⟩ := ho.readsC
    exact ⟨a, _, c, _, rfl, hr, ⟨⟨Dg_words _, num_words (by omega), by omega⟩, by omega⟩, hb⟩
  · omega
set_option maxHeartbeats 1600000 in
set_option maxRecDepth 100000 in
theorem without13_any {l : List UInt8} (hl : l.length ≤ 100000) (w : World) : Calls Tryz.prog 14 #[.string ⟨l.toArray⟩] w fun e w' => e = .returned (.string ⟨(woL l).toArray⟩) ∧ Below w.heap.size w w' := by
  obtain ⟨i_u8, hi_u8, hz0_u8, hz1_u8, hz2_u8⟩ := info_parts info8
  have hs : (⟨l.toArray⟩ : ByteArray).size = l.length := by rw [Lib.size_eq]
  obtain ⟨s, hss⟩ : ∃ s : ByteArray, s = ⟨l.toArray⟩ := ⟨_, rfl⟩
  have hsl : Hid (s.data.toList = l) := by show _ = _; rw [hss]
  rw [← hss] at hs ⊢
  clear hss
  go_enter Tryz.func14, Tryz.ntmps14
  go_wp2
  go_loopg [3, 4] l.length (fun k s3 s4 wr => ∃ i : Nat, s4 = .int .i64 (i : Int) ∧ i ≤ l.length ∧ l.length - i ≤ k ∧ Own .u8 wr w.heap.size 5 s3 (nz (woL (l.take i))) ∧ Below w.heap.size w wr)
  case atStart => exact ⟨0, rfl, Nat.zero_le _, by omega, own_nil _ _ _ _, Below.refl _ _⟩
  case round =>
    obtain ⟨i, rfl, hi, hk, hO, hB⟩ := hrel
    by_cases hlt : i < l.length
    · have h0 : i < s.size := by omega
      have q0 : (i : Int) < (l.length : Int) := by omega
      have q1 : (0 : Int) ≤ (i : Int) := by omega
      have q2 : (i : Int) < (s.size : Int) := by omega
      obtain ⟨x, hx⟩ : ∃ x, ∀ h, (s[i]'h) = x := ⟨s[i]'h0, fun _ => rfl⟩
      have HK : Hid (l[i]? = some x) := by show _ = _; rw [← hsl.out, ← hx h0]; exact Lib.data_getElem? s i h0
      have HW : Hid (woL (l.take (i + 1)) = woL (l.take i) ++ woL [x]) := woL_take HK.out
      have hO1 := hO
      have step0 : woL [x] = [] → Own .u8 wr w.heap.size 5 u3 (nz (woL (l.take (i + 1)))) := fun h => by rw [HW.out, h, List.append_nil]; exact hO1
      by_cases h45 : x = 45
      · have hb : ((x.toNat : Int) != 45) = false := by rw [h45]; rfl
        have hO2 := step0 (by rw [h45]; rfl)
        clear step0 hO hO1 h45
        go_wp2
        go_roundg (l.length - (i + 1))
        case measure => omega
        case rel => exact ⟨i + 1, by go_num, by omega, by omega, hO2, hB⟩
      · have hb : ((x.toNat : Int) != 45) = true := bne_iff_ne.2 fun e => h45 (UInt8.toNat_inj.1 (by exact_mod_cast e))
        by_cases h46 : x = 46
        · have hb2 : ((x.toNat : Int) != 46) = false := by rw [h46]; rfl
          have hO2 := step0 (by rw [h46]; rfl)
          clear step0 hO hO1 h45 h46
          go_wp2
          go_roundg (l.length - (i + 1))
          case measure => omega
          case rel => exact ⟨i + 1, by go_num, by omega, by omega, hO2, hB⟩
        · have hb2 : ((x.toNat : Int) != 46) = true := bne_iff_ne.2 fun e => h46 (UInt8.toNat_inj.1 (by exact_mod_cast e))
          have HX : Hid (woL [x] = [x]) := by
            show _ = _
            unfold woL
            simp [h45, h46]
          obtain ⟨a3, c3, rfl, hR3⟩ := rb_own hO
          have hll : (woL (l.take i)).length ≤ 100000 := by
            have : (woL (l.take i)).length ≤ (l.take i).length := List.length_filter_le _ _
            rw [List.length_take] at this
            omega
          have hnl : (nz (woL (l.take i))).length = (woL (l.take i)).length := nz_len _
          have hBs := hB.size
          clear step0 hO1 h45 h46 hR3
          go_wp2_with (at_builtin; refine wpList_append_own _ rfl _ _ 60 rfl w.heap.size 5 i_u8 (.int .u8 0) 1 1 Tryz.underlying60 hi_u8 hz0_u8 hz1_u8 hz2_u8 rfl (by decide) _ _ _ rfl (hO.row.alloc _) ⟨wr.heap.size, 0, none⟩ 1 1 [.int .u8 (x.toNat : Int)] rfl rfl one_new one_cell (by rw [hnl]; unfold maxLen; omega) (by rw [hnl]; omega) (by simp; omega) ?_)
          intro v4 w4 hv4 hg4 hn4
          have hO4 : Own .u8 w4 w.heap.size 5 v4 (nz (woL (l.take (i + 1)))) := by
            rw [HW.out, HX.out, nz_app]
            exact own_next hv4 hnl.symm
          have hB4 : Below w.heap.size w w4 := grow_below hBs hO.row hB hg4
          clear hv4 hg4 hn4 hO hB hnl
          go_wp2
          go_roundg (l.length - (i + 1))
          case measure => omega
          case rel => exact ⟨i + 1, by go_num, by omega, by omega, hO4, hB4⟩
    · have hi2 : i = l.length := by omega
      subst hi2
      rw [List.take_length] at hO
      obtain ⟨a3, c3, rfl, hR3⟩ := rb_own hO
      have hcv := conv8 hR3
      clear hO hR3
      go_wp2
      go_ret
      exact ⟨rfl, hB⟩
end Go.Proofs.YtceecgklgkiffaaGreatDoor
