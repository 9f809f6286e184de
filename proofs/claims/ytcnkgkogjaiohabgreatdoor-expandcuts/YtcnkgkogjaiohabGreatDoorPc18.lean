import Derived.Lib.IndexBytes
import Derived.Below
import Derived.BigQuiet
import Derived.ChangeOld
import Derived.Deep.DeepCutAuto
import Derived.Deep.DeepFit
import Derived.Deep.LoopGhost
import Derived.Deep.QuietTactic
import Derived.Deep.RegionHeld3
import Derived.Deep.RegionHeldLaw
import Derived.Deep.RegionLaw
import Derived.Deep.RegionWith
import Derived.Defers
import Derived.KernelRfl
import Derived.Laws.BitsAllLaws
import Derived.Laws.CopyRow
import Derived.Laws.EntriesVeiled
import Derived.Laws.IdiomCopy
import Derived.Laws.IdiomRangeMap
import Derived.Laws.IdiomStrings
import Derived.Laws.RangeAny
import Derived.Laws.Strings3
import Derived.Lib.AtoiErrMem
import Derived.Lib.BytesEntry
import Derived.Lib.ConvBytes
import Derived.Lib.MakeNoZero
import Derived.Lib.OthersKept
import Derived.Lib.Strings
import Derived.Lib.TrimByte
import Derived.Lib.Walk
import Derived.OpenShut
import Derived.Orders
import Derived.OwnWalk
import Derived.ProofKit
import Derived.Recover
import Derived.Scope
import Derived.ShutString
import Derived.WalkKit
import Derived.WalkLawsBesides
import Derived.WalkMore
import Derived.WalkSpells
import Derived.Test.YtcnkgkogjaiohabGreatDoorPc9
import Derived.Test.YtcnkgkogjaiohabGreatDoorPc13
import Derived.Test.YtcnkgkogjaiohabGreatDoorPc14
import Derived.Test.YtcnkgkogjaiohabGreatDoorPc17
/- Layer 13: the statements' own helpers: finite, size, without; radix.Parse of digits. -/
namespace Go.Proofs.YtcnkgkogjaiohabGreatDoor
open Go.ChangeShapes Go.WideShapes Go.ChangeAt Go.RowKit
open Na Ar Ep
set_option linter.unusedVariables false
namespace Ep
theorem ef_mg (b : Int) : ef (mg b) = ef b := by unfold ef mg; rw [Int.emod_emod_of_dvd _ (by omega)]
theorem fr_mg (b : Int) : fr (mg b) = fr b := by have a := mg_parts b; have c := mg_parts (mg b); have d := ef_mg b; have : mg (mg b) = mg b := by unfold mg; omega
                                                 omega
theorem numW_mg (b : Int) : numW (mg b) = numW b := by
  unfold numW spM spX
  rw [ef_mg, fr_mg]
theorem szA_mg (b : Int) : szA (mg b) = szA b := by unfold szA; rw [numW_mg]
theorem dgt_dg {m X i : Nat} (h : i < m) : dgt ⟨(dg m X).toArray⟩ i = ((X / 10 ^ (m - 1 - i) % 10 : Nat) : Int) := by
  have hd : X / 10 ^ (m - 1 - i) % 10 < 10 := Nat.mod_lt _ (by omega)
  unfold dgt
  rw [byte_list]
  show valN (((dg m X).getD i 0).toNat : Int) = _
  rw [List.getD_eq_getElem?_getD, dg_at h]
  show valN ((UInt8.ofNat (48 + X / 10 ^ (m - 1 - i) % 10)).toNat : Int) = _
  rw [dch_nat hd]
  generalize X / 10 ^ (m - 1 - i) % 10 = d at *
  unfold valN
  rw [if_pos (by omega)]
  omega
theorem numB_dg {m X : Nat} : ∀ i, i ≤ m → X < 10 ^ m → numB ⟨(dg m X).toArray⟩ 10 i = ((X / 10 ^ (m - i) : Nat) : Int) := by
  intro i
  induction i with
  | zero =>
    intro _ hX
    rw [Nat.sub_zero, Nat.div_eq_of_lt hX]
    rfl
  | succ i ih =>
    intro hi hX
    have e : numB ⟨(dg m X).toArray⟩ 10 (i + 1) = numB ⟨(dg m X).toArray⟩ 10 i * 10 + dgt ⟨(dg m X).toArray⟩ i := rfl
    rw [e, ih (by omega) hX, dgt_dg (by omega)]
    have h1 : m - i = (m - (i + 1)) + 1 := by omega
    have h2 : m - 1 - i = m - (i + 1) := by omega
    rw [h1, h2, Nat.pow_succ, ← Nat.div_div_eq_div_mul]
    generalize X / 10 ^ (m - (i + 1)) = y
    omega
/-- a text without its minus and its point -/
def woL (l : List UInt8) : List UInt8 := l.filter fun c => !(c == 45) && !(c == 46)
theorem woL_dg (m X : Nat) : woL (dg m X) = dg m X := by
  unfold woL
  refine List.filter_eq_self.2 fun c hc => ?_
  have := dg_range m X c hc
  have h1 : c ≠ 45 := fun e => by rw [e] at this; simp at this
  have h2 : c ≠ 46 := fun e => by rw [e] at this; simp at this
  simp [h1, h2]
theorem woL_app (l m : List UInt8) : woL (l ++ m) = woL l ++ woL m := by unfold woL; rw [List.filter_append]
theorem woL_pt {s : Bool} {M W n : Nat} (h : n ≤ M) : woL (sgL s ++ ptL M W n) = dg M W := by
  rw [woL_app]
  have h0 : woL (sgL s) = [] := by cases s <;> rfl
  rw [h0, List.nil_append]
  unfold ptL
  split
  · exact woL_dg _ _
  · rw [woL_app, woL_dg]
    have : woL (46 :: dg n W) = woL (dg n W) := rfl
    rw [this, woL_dg]
    obtain ⟨k, rfl⟩ : ∃ k, M = k + n := ⟨M - n, by omega⟩
    rw [Nat.add_sub_cancel, ← dg_split]
theorem woL_take {l : List UInt8} {i : Nat} {c : UInt8} (h : l[i]? = some c) : woL (l.take (i + 1)) = woL (l.take i) ++ woL [c] := by
  rw [← woL_app]
  congr 1
  rw [List.take_add_one, h]
  rfl
end Ep
theorem finite13_any {b : Int} (hu : U b) (w : World) : Calls Tryz.prog 8 #[.int .u64 b] w fun e w' => e = .returned (.bool (decide (ef b ≠ 2047))) ∧ w' = w := by
  have hK := fun w => f6Class_any hu w
  have HZ : Hid (decide (clsW b < 3) = decide (ef b ≠ 2047)) := by
    refine decide_eq_decide.2 ?_
    unfold clsW
    by_cases h : ef b = 2047
    · rw [if_pos h]
      split <;> omega
    · rw [if_neg h]
      refine ⟨fun _ => h, fun _ => ?_⟩
      split
      · split <;> omega
      · omega
  have hb3 : -10 ≤ clsW b ∧ clsW b ≤ 10 := by unfold clsW; split <;> split <;> (try split) <;> omega
  generalize clsW b = K at *
  go_enter Tryz.func8, Tryz.ntmps8
  go_wp2_with (refine (hK _).mono ?_; rintro e w' ⟨rfl, rfl⟩)
  go_ret
  exact ⟨by rw [← HZ.out]; rfl, rfl⟩
theorem size13_any {b : Int} (hu : U b) (w : World) : Calls Tryz.prog 13 #[.int .u64 b] w fun e w' => e = .returned (.int .u64 (mg b)) ∧ w' = w := by
  have hs := size_bits hu
  go_enter Tryz.func13, Tryz.ntmps13
  go_wp2
  go_ret
  exact ⟨rfl, rfl⟩
theorem parse13_any {m X : Nat} (hm : 1 ≤ m) (hm9 : m ≤ 4000) (hX : X < 10 ^ m) (w : World) :
    Calls Tryz.prog 10 #[.string ⟨(dg m X).toArray⟩, .int .i64 10] w fun e w' => ∃ a n c ls, e = .returned (.tuple #[.slice a n c, .nilIface]) ∧ RowC w' a n c ls ∧ (Nm ls (X : Int) ∧ n ≤ 4000) ∧ Below w.heap.size w w' := by
  have hs : (⟨(dg m X).toArray⟩ : ByteArray).size = m := by rw [Lib.size_eq]; exact dg_len m X
  have hd : ∀ i, i < (⟨(dg m X).toArray⟩ : ByteArray).size → dgt ⟨(dg m X).toArray⟩ i < 10 := fun i hi => by
    rw [hs] at hi
    rw [dgt_dg hi]
    have := Nat.mod_lt (X / 10 ^ (m - 1 - i)) (show 0 < 10 by omega)
    omega
  have hp := parse_good ⟨(dg m X).toArray⟩ 10 (by omega) (by omega) (by omega) (by omega) hd w
  have hl := numB_len (s := ⟨(dg m X).toArray⟩) (b := 10) (n := m) (by omega) (by omega) (fun i hi => hd i (by omega))
  have hn := numB_dg (m := m) (X := X) m (Nat.le_refl _) hX
  rw [Nat.sub_self, Nat.pow_zero, Nat.div_one] at hn
  rw [hs, hn] at hp
  rw [hn] at hl
  refine hp.mono ?_
  rintro e w' (⟨_, v, rfl, ho, hb⟩ | ⟨h, _⟩)
  · obtain ⟨a, c, rfl, hr⟩ := ho.readsC
    exact ⟨a, _, c, _, rfl, hr, ⟨⟨Dg_words _, num_words (by omega), by omega⟩, by omega⟩, hb⟩
  · omega
set_option maxHeartbeats 1600000 in
set_option maxRecDepth 100000 in
theorem without13_any {l : List UInt8} (hl : l.length ≤ 100000) (w : World) : Calls Tryz.prog 17 #[.string ⟨l.toArray⟩] w fun e w' => e = .returned (.string ⟨(woL l).toArray⟩) ∧ Below w.heap.size w w' := by
  obtain ⟨i_u8, hi_u8, hz0_u8, hz1_u8, hz2_u8⟩ := info_parts info8
  have hs : (⟨l.toArray⟩ : ByteArray).size = l.length := by rw [Lib.size_eq]
  obtain ⟨s, hss⟩ : ∃ s : ByteArray, s = ⟨l.toArray⟩ := ⟨_, rfl⟩
  have hsl : Hid (s.data.toList = l) := by show _ = _; rw [hss]
  rw [← hss] at hs ⊢
  clear hss
  go_enter Tryz.func17, Tryz.ntmps17
  go_wp2
  go_loopg [3, 4] l.length (fun k s3 s4 wr => ∃ i : Nat, s4 = .int .i64 (i : Int) ∧ i ≤ l.length ∧ l.length - i ≤ k ∧ Own .u8 wr w.heap.size 5 s3 (nz (woL (l.take i))) ∧ Below w.heap.size w wr)
  case atStart => exact ⟨0, rfl, Nat.zero_le _, by omega, own_nil _ _ _ _, Below.refl _ _⟩
  case round =>
    obtain ⟨i, rfl, hi, hk, hO, hB⟩ := hrel
    by_cases hlt : i < l.length
    · have h0 : i < s.size := by omega
      have q0 : (i : Int) < (l.length : Int) := by omega
      have q1 : (0 : Int) ≤ (i : Int) := by omega
      have q2 : (i : Int) < (s.size : Int) := by omega
      obtain ⟨x, hx⟩ : ∃ x, ∀ h, (s[i]'h) = x := ⟨s[i]'h0, fun _ => rfl⟩
      have HK : Hid (l[i]? = some x) := by show _ = _; rw [← hsl.out, ← hx h0]; exact Lib.data_getElem? s i h0
      have HW : Hid (woL (l.take (i + 1)) = woL (l.take i) ++ woL [x]) := woL_take HK.out
      have hO1 := hO
      have step0 : woL [x] = [] → Own .u8 wr w.heap.size 5 u3 (nz (woL (l.take (i + 1)))) := fun h => by rw [HW.out, h, List.append_nil]; exact hO1
      by_cases h45 : x = 45
      · have hb : ((x.toNat : Int) != 45) = false := by rw [h45]; rfl
        have hO2 := step0 (by rw [h45]; rfl)
        clear step0 hO hO1 h45
        go_wp2
        go_roundg (l.length - (i + 1))
        case measure => omega
        case rel => exact ⟨i + 1, by go_num, by omega, by omega, hO2, hB⟩
      · have hb : ((x.toNat : Int) != 45) = true := bne_iff_ne.2 fun e => h45 (UInt8.toNat_inj.1 (by exact_mod_cast e))
        by_cases h46 : x = 46
        · have hb2 : ((x.toNat : Int) != 46) = false := by rw [h46]; rfl
          have hO2 := step0 (by rw [h46]; rfl)
          clear step0 hO hO1 h45 h46
          go_wp2
          go_roundg (l.length - (i + 1))
          case measure => omega
          case rel => exact ⟨i + 1, by go_num, by omega, by omega, hO2, hB⟩
        · have hb2 : ((x.toNat : Int) != 46) = true := bne_iff_ne.2 fun e => h46 (UInt8.toNat_inj.1 (by exact_mod_cast e))
          have HX : Hid (woL [x] = [x]) := by
            show _ = _
            unfold woL
            simp [h45, h46]
          obtain ⟨a3, c3, rfl, hR3⟩ := rb_own hO
          have hll : (woL (l.take i)).length ≤ 100000 := by
            have : (woL (l.take i)).length ≤ (l.take i).length := List.length_filter_le _ _
            rw [List.length_take] at this
            omega
          have hnl : (nz (woL (l.take i))).length = (woL (l.take i)).length := nz_len _
          have hBs := hB.size
          clear step0 hO1 h45 h46 hR3
          go_wp2_with (at_builtin; refine wpList_append_own _ rfl _ _ 45 rfl w.heap.size 5 i_u8 (.int .u8 0) 1 1 Tryz.underlying45 hi_u8 hz0_u8 hz1_u8 hz2_u8 rfl (by decide) _ _ _ rfl (hO.row.alloc _) ⟨wr.heap.size, 0, none⟩ 1 1 [.int .u8 (x.toNat : Int)] rfl rfl one_new one_cell (by rw [hnl]; unfold maxLen; omega) (by rw [hnl]; omega) (by simp; omega) ?_)
          intro v4 w4 hv4 hg4 hn4
          have hO4 : Own .u8 w4 w.heap.size 5 v4 (nz (woL (l.take (i + 1)))) := by
            rw [HW.out, HX.out, nz_app]
            exact own_next hv4 hnl.symm
          have hB4 : Below w.heap.size w w4 := grow_below hBs hO.row hB hg4
          clear hv4 hg4 hn4 hO hB hnl
          go_wp2
          go_roundg (l.length - (i + 1))
          case measure => omega
          case rel => exact ⟨i + 1, by go_num, by omega, by omega, hO4, hB4⟩
    · have hi2 : i = l.length := by omega
      subst hi2
      rw [List.take_length] at hO
      obtain ⟨a3, c3, rfl, hR3⟩ := rb_own hO
      have hcv := conv8 hR3
      clear hO hR3
      go_wp2
      go_ret
      exact ⟨rfl, hB⟩
end Go.Proofs.YtcnkgkogjaiohabGreatDoor

/- Layer 13: the statements' decimal: digits and an exponent as a Rat. -/
namespace Go.Proofs.YtcnkgkogjaiohabGreatDoor
open Go.ChangeShapes Go.WideShapes Go.ChangeAt Go.RowKit
open Na Ar Ep
set_option linter.unusedVariables false
namespace Ep
def dcN (X : Nat) (e : Int) : Int := (X : Int) * 10 ^ e.toNat
def dcD (e : Int) : Int := 10 ^ (-e).toNat
/-- digits and an exponent, as a number -/
def dcR (X : Nat) (e : Int) : Rat := mkR false (dcN X e) (dcD e)
theorem ten13_big : Nat.blt ((10 : Nat) ^ (4000 : Nat)) ((18446744073709551616 : Nat) ^ (210 : Nat)) = true := by kernel_rfl
theorem ten13_lt {n : Nat} (h : n ≤ 4000) : Lt ((10 : Int) ^ n) 210 := pow_lt (b := 10) (m := 4000) (by omega) ten13_big h
theorem X13_lt {m X : Nat} (hm : m ≤ 4000) (hX : X < 10 ^ m) : Lt (X : Int) 210 := (ten13_lt hm).le (by omega) (by
  have : ((X : Nat) : Int) < ((10 ^ m : Nat) : Int) := by exact_mod_cast hX
  rw [Int.natCast_pow] at this
  exact Int.le_of_lt this)
theorem dcD_pos (e : Int) : 0 < dcD e := Int.pow_pos (by omega)
theorem dc_size {m X : Nat} {e : Int} (hm : m ≤ 4000) (hX : X < 10 ^ m) (h0 : -4000 ≤ e) (h1 : e ≤ 4000) : Lt (dcN X e) (210 + 210) ∧ Lt (dcD e) (210 + 210) ∧ Sz (dcR X e) (210 + 210) := by
  have a : Lt ((X : Int) * 10 ^ e.toNat) (210 + 210) := (X13_lt hm hX).mul (ten13_lt (by omega))
  have b : Lt ((10 : Int) ^ (-e).toNat) (210 + 210) := (ten13_lt (n := (-e).toNat) (by omega)).mono (by omega)
  exact ⟨a, b, Sz.mkR a b (dcD_pos e)⟩
end Ep
theorem ten13_any {k : Nat} {K : Int} (hK : K = k) (h : k ≤ 4000) (w : World) :
    Calls Tryz.prog 33 #[.int .i64 K] w fun e w' => ∃ a l c ls, e = .returned (.tuple #[.slice a l c, .int .i64 0]) ∧ RowC w' a l c ls ∧ Nm ls (10 ^ k) ∧ l ≤ 500 ∧ Below w.heap.size w w' := by
  subst hK
  have f := ten_any (k : Int) (by omega) (by omega) w
  have E1 : pwE 78913 (k : Int) = 0 := by unfold pwE; rw [if_neg (by omega), if_neg (by omega)]
  have E2 : pwL 10 78913 (k : Int) = words (10 ^ k) := by unfold pwL; rw [if_neg (by omega), if_neg (by omega), Int.toNat_natCast]
  rw [E1, E2] at f
  refine f.mono ?_
  rintro e w' ⟨v, rfl, ho, hb⟩
  obtain ⟨a, l, c, ls, rfl, hr, hn, hq⟩ := ho.opens (ten13_lt h) (by omega)
  have e1 := hr.1.1
  have e2 : ls = words (10 ^ k) := hq.out
  have e3 := (ten13_lt h).len
  rw [← e2] at e3
  exact ⟨a, l, c, ls, rfl, hr, hn, by omega, hb⟩
set_option maxHeartbeats 3200000 in
set_option maxRecDepth 100000 in
theorem dec13_neg {m X : Nat} {e : Int} (hm : 1 ≤ m) (hm9 : m ≤ 4000) (hX : X < 10 ^ m) (he0 : -2000 ≤ e) (he1 : e < 0) (w : World) :
    Calls Tryz.prog 11 #[.string ⟨(dg m X).toArray⟩, .int .i64 e] w fun r w' => ∃ s v1 v2, r = .returned (.tuple #[.agg #[.bool s, v1, v2], .bool true]) ∧ RtO w' w.heap.size s v1 v2 (dcR X e) ∧ Below w.heap.size w w' := by
  obtain ⟨l1, l2, -⟩ := dc_size hm9 hX (e := e) (by omega) (by omega)
  have hT := fun w => ten13_any (k := (-e).toNat) (K := -e) (by omega) (by omega) w
  have hP := fun w => parse13_any hm hm9 hX w
  have hXl := (X13_lt hm9 hX).len
  have pD := dcD_pos e
  have eD : (10 : Int) ^ (-e).toNat = dcD e := rfl
  have eN : dcN X e = (X : Int) := by unfold dcN; rw [show e.toNat = 0 by omega]; simp
  unfold dcR
  rw [eN] at l1 ⊢
  rw [eD] at hT
  generalize dcD e = D at *
  generalize dg m X = DL at *
  clear eD eN hX hm
  have t0 := st_new w (.bool false) (.slice none 0 0) (.slice none 0 0) 36
  have hb0 := alloc_below (w := w) (.cells #[.bool false, .slice none 0 0, .slice none 0 0] 36)
  obtain ⟨g, hg⟩ : ∃ g, g = w.heap.size := ⟨_, rfl⟩
  have HG : Hid (w.heap.size = g) := hg.symm
  obtain ⟨w0, hw0⟩ : ∃ w0, w0 = w.alloc (.cells #[.bool false, .slice none 0 0, .slice none 0 0] 36) := ⟨_, rfl⟩
  rw [← hw0] at t0 hb0
  rw [← hg] at t0
  go_enter Tryz.func11, Tryz.ntmps11
  go_wp2_with fail
  rw [← hw0, ← hg]
  refine (hP w0).mono ?_
  rintro r w1 ⟨a1, n1, c1, ls1, rfl, r1, ⟨m1, ln1⟩, hb1⟩
  have B1 := hb0.trans (hb1.mono hb0.size)
  have t1 := t0.later hb1
  clear hP hw0 hg hb0 hb1 t0
  have b2 := alloc_below (w := w1) (.cells #[.int .u64 1] 22)
  have B2 := B1.trans (b2.mono B1.size)
  have t2 := t1.later b2
  have r2 := r1.later b2
  go_wp2_with fail
  refine (hT _).mono ?_
  rintro r w3 ⟨a3, n3, c3, ls3, rfl, r3, m3, q3, hb3⟩
  have B3 := B2.trans (hb3.mono B2.size)
  have t3 := t2.later hb3
  have r4 := r2.later hb3
  have hN := rNew_ok (neg := false) r4 r3 m1 m3 pD (l1.mono (by omega)) (l2.mono (by omega)) (by omega) (by omega)
  clear hT b2 B1 B2 t1 t2 r1 r2 hb3
  go_wp2_with fail
  refine hN.mono ?_
  rintro r w5 ⟨s5, v1, v2, rfl, R5, hb5⟩
  obtain ⟨a5, n5, c5, b5, m5, d5, rfl, rfl, -⟩ := R5.opens
  have B5 := B3.trans (hb5.mono B3.size)
  have t5 := t3.later hb5
  have hg5 : g < w3.heap.size := t3.lt
  obtain ⟨y0, y1, y2⟩ := t5.cells
  obtain ⟨f0, f1, f2⟩ := t5.frozen
  have hg6 : g < w5.heap.size := t5.lt
  have t6 := t5.set (.bool s5) (.slice a5 n5 c5) (.slice b5 m5 d5)
  have hin := in3 w5 g (.bool s5) (.slice a5 n5 c5) (.slice b5 m5 d5)
  have R6 := R5.inn hin hg5
  have B6 := below_in B5 hin (by rw [HG.out]; omega) (Nat.le_refl _)
  have ba := alloc_below (w := (((w5.setCell ⟨g, 0, none⟩ (.bool s5)).setCell ⟨g, 1, none⟩ (.slice a5 n5 c5)).setCell ⟨g, 2, none⟩ (.slice b5 m5 d5))) (.cells #[.bool s5, .slice a5 n5 c5, .slice b5 m5 d5] 36)
  have st9 := (t6.later ba).cells
  have R7 := R6.later ba
  have B7 := B6.trans (ba.mono B6.size)
  have hlow : w.heap.size ≤ w3.heap.size := B3.size
  clear hN hb5 B3 t3 r3 r4 m1 m3 R5 B5 t5 t6 hin R6 B6 ba
  go_wp2
  refine bodyPost_ret (v := .tuple #[.agg #[.bool s5, .slice a5 n5 c5, .slice b5 m5 d5], .bool true]) (by simp [results, Tryz.results11, go_sem, st9]) rfl ?_
  exact ⟨_, _, _, rfl, R7.lower hlow, B7⟩
set_option maxHeartbeats 3200000 in
set_option maxRecDepth 100000 in
theorem dec13_pos {m X : Nat} {e : Int} (hm : 1 ≤ m) (hm9 : m ≤ 4000) (hX : X < 10 ^ m) (he0 : 0 ≤ e) (he1 : e ≤ 2000) (w : World) :
    Calls Tryz.prog 11 #[.string ⟨(dg m X).toArray⟩, .int .i64 e] w fun r w' => ∃ s v1 v2, r = .returned (.tuple #[.agg #[.bool s, v1, v2], .bool true]) ∧ RtO w' w.heap.size s v1 v2 (dcR X e) ∧ Below w.heap.size w w' := by
  obtain ⟨l1, l2, -⟩ := dc_size hm9 hX (e := e) (by omega) (by omega)
  have hT := fun w => ten13_any (k := e.toNat) (K := e) (by omega) (by omega) w
  have lX := X13_lt hm9 hX
  have hP := fun w => parse13_any hm hm9 hX w
  have hXl := (X13_lt hm9 hX).len
  have eD : dcD e = 1 := by unfold dcD; rw [show (-e).toNat = 0 by omega]; rfl
  have eN : dcN X e = (X : Int) * 10 ^ e.toNat := rfl
  unfold dcR
  rw [eD]
  rw [eN] at l1 ⊢
  generalize (10 : Int) ^ e.toNat = D at *
  generalize dg m X = DL at *
  clear eD eN hX hm
  have t0 := st_new w (.bool false) (.slice none 0 0) (.slice none 0 0) 36
  have hb0 := alloc_below (w := w) (.cells #[.bool false, .slice none 0 0, .slice none 0 0] 36)
  obtain ⟨g, hg⟩ : ∃ g, g = w.heap.size := ⟨_, rfl⟩
  have HG : Hid (w.heap.size = g) := hg.symm
  obtain ⟨w0, hw0⟩ : ∃ w0, w0 = w.alloc (.cells #[.bool false, .slice none 0 0, .slice none 0 0] 36) := ⟨_, rfl⟩
  rw [← hw0] at t0 hb0
  rw [← hg] at t0
  go_enter Tryz.func11, Tryz.ntmps11
  go_wp2_with fail
  rw [← hw0, ← hg]
  refine (hP w0).mono ?_
  rintro r w1 ⟨a1, n1, c1, ls1, rfl, r1, ⟨m1, ln1⟩, hb1⟩
  have B1 := hb0.trans (hb1.mono hb0.size)
  have t1 := t0.later hb1
  clear hP hw0 hg hb0 hb1 t0
  have b2 := alloc_below (w := w1) (.cells #[.int .u64 1] 22)
  have B2 := B1.trans (b2.mono B1.size)
  have t2 := t1.later b2
  have r2 := r1.later b2
  go_wp2_with fail
  refine (hT _).mono ?_
  rintro r w3 ⟨a3, n3, c3, ls3, rfl, r3, m3, q3, hb3⟩
  have B3 := B2.trans (hb3.mono B2.size)
  have t3 := t2.later hb3
  have r4 := r2.later hb3
  have hM := mulQ r4 r3 m1 m3 l1 (by omega)
  have one1 := (rowC_one w1 1 22).later hb3
  clear hT b2 B1 B2 t1 t2 r1 r2 hb3
  go_wp2_with fail
  refine hM.mono ?_
  rintro r w4 ⟨a4, n4, c4, l4, rfl, r5, m5', h4, hb4⟩
  have e4 := r5.1.1
  have e5 := l1.len
  rw [← show l4 = words (X * D) from h4.out] at e5
  have B4 := B3.trans (hb4.mono B3.size)
  have t4 := t3.later hb4
  have one2 := one1.later hb4
  have nm1 : Nm [1] 1 := ⟨Dg.one ⟨by omega, by omega⟩, by simp [num, val], by simp⟩
  have hN := rNew_ok (neg := false) r5 one2 m5' nm1 (by omega) (l1.mono (by omega)) ((Lt.word (x := 1) (by omega)).mono (by omega)) (by omega) (by omega)
  clear hM hb4 t3 one1 r3 r4 m1 m3
  go_wp2_with fail
  refine hN.mono ?_
  rintro r w5 ⟨s5, v1, v2, rfl, R5, hb5⟩
  obtain ⟨a5, n5, c5, b5, m5, d5, rfl, rfl, -⟩ := R5.opens
  have B5 := B4.trans (hb5.mono B4.size)
  have t5 := t4.later hb5
  have hg5 : g < w4.heap.size := t4.lt
  obtain ⟨y0, y1, y2⟩ := t5.cells
  obtain ⟨f0, f1, f2⟩ := t5.frozen
  have hg6 : g < w5.heap.size := t5.lt
  have t6 := t5.set (.bool s5) (.slice a5 n5 c5) (.slice b5 m5 d5)
  have hin := in3 w5 g (.bool s5) (.slice a5 n5 c5) (.slice b5 m5 d5)
  have R6 := R5.inn hin hg5
  have B6 := below_in B5 hin (by rw [HG.out]; omega) (Nat.le_refl _)
  have ba := alloc_below (w := (((w5.setCell ⟨g, 0, none⟩ (.bool s5)).setCell ⟨g, 1, none⟩ (.slice a5 n5 c5)).setCell ⟨g, 2, none⟩ (.slice b5 m5 d5))) (.cells #[.bool s5, .slice a5 n5 c5, .slice b5 m5 d5] 36)
  have st9 := (t6.later ba).cells
  have R7 := R6.later ba
  have B7 := B6.trans (ba.mono B6.size)
  have hlow : w.heap.size ≤ w4.heap.size := B4.size
  clear hN hb5 B3 B4 t4 r5 one2 m5' nm1 R5 B5 t5 t6 hin R6 B6 ba
  go_wp2
  refine bodyPost_ret (v := .tuple #[.agg #[.bool s5, .slice a5 n5 c5, .slice b5 m5 d5], .bool true]) (by simp [results, Tryz.results11, go_sem, st9]) rfl ?_
  exact ⟨_, _, _, rfl, R7.lower hlow, B7⟩
theorem dec13_any {m X : Nat} {e : Int} (hm : 1 ≤ m) (hm9 : m ≤ 4000) (hX : X < 10 ^ m) (he0 : -2000 ≤ e) (he1 : e ≤ 2000) (w : World) :
    Calls Tryz.prog 11 #[.string ⟨(dg m X).toArray⟩, .int .i64 e] w fun r w' => ∃ s a n c b m f, r = .returned (.tuple #[.agg #[.bool s, .slice a n c, .slice b m f], .bool true]) ∧ Rt w' s a n c b m f (dcR X e) ∧ Below w.heap.size w w' := by
  have key : Calls Tryz.prog 11 #[.string ⟨(dg m X).toArray⟩, .int .i64 e] w fun r w' => ∃ s v1 v2, r = .returned (.tuple #[.agg #[.bool s, v1, v2], .bool true]) ∧ RtO w' w.heap.size s v1 v2 (dcR X e) ∧ Below w.heap.size w w' := by
    by_cases h : e < 0
    · exact dec13_neg hm hm9 hX he0 h w
    · exact dec13_pos hm hm9 hX (by omega) he1 w
  refine key.mono ?_
  rintro r w' ⟨s, v1, v2, rfl, R, hb⟩
  obtain ⟨a, n, c, b, m, f, rfl, rfl, q⟩ := R.opens
  exact ⟨s, a, n, c, b, m, f, rfl, q, hb⟩
end Go.Proofs.YtcnkgkogjaiohabGreatDoor

/- Layer 13: the numbers of ExpandCuts. -/
namespace Go.Proofs.YtcnkgkogjaiohabGreatDoor
open Go.ChangeShapes Go.WideShapes Go.ChangeAt Go.RowKit
open Na Ar Ep
set_option linter.unusedVariables false
namespace Ep
def u1024 : Nat := 1024
def u309 : Nat := 309
def u324 : Nat := 324
theorem two_ten : Nat.blt ((2 : Nat) ^ u1024) ((10 : Nat) ^ u309) = true := by kernel_rfl
theorem two_ten2 : Nat.blt ((2 : Nat) ^ dX) ((10 : Nat) ^ u324) = true := by kernel_rfl
theorem pow10_lt {a b : Nat} (h : 10 ^ a < 10 ^ b) : a < b := (Nat.pow_lt_pow_iff_right (by omega)).1 h
theorem szA_top {b : Int} (hu : U b) (hf : ef b ≠ 2047) : szA b < 2 ^ u1024 * dT := by
  obtain ⟨P, e1, e2', e3, e4, e5, e6, e7⟩ := num_parts hu hf
  obtain ⟨m, hm⟩ := Int.eq_ofNat_of_zero_le e3
  have hA : szA b = m * 2 ^ P := by
    unfold szA
    rw [e7, hm]
    have : ((m : Int) * 2 ^ P) = ((m * 2 ^ P : Nat) : Int) := by push_cast; rfl
    rw [this]
    rfl
  have hm53 : m < 2 ^ 53 := by omega
  have hd : dX = 1074 := rfl
  have h1 : u1024 = 1024 := rfl
  unfold dT
  rw [hA, ← Nat.pow_add]
  have hp : 2 ^ 53 * 2 ^ P ≤ 2 ^ (u1024 + dX) := by
    rw [← Nat.pow_add]
    exact Nat.pow_le_pow_right (by omega) (by omega)
  have := (Nat.mul_lt_mul_right (a := 2 ^ P) (Nat.pow_pos (by omega))).2 hm53
  omega
theorem dec_top {b : Int} (hu : U b) (hf : ef b ≠ 2047) {N L : Nat} {x : Int} (h : Dec (szA b) N L x) : (L : Int) + x ≤ 309 ∧ -324 < (L : Int) + x := by
  have hA0 : 1 ≤ szA b := by
    rcases Nat.eq_zero_or_pos (szA b) with q | q
    · exfalso
      have := h.eq
      rw [q, Nat.zero_mul] at this
      have hN : 0 < N := by
        have := h.lo
        have := Nat.pow_pos (n := L - 1) (show 0 < 10 by omega)
        omega
      have := Nat.mul_pos (Nat.mul_pos hN (Nat.pow_pos (n := x.toNat) (show 0 < 10 by omega))) dT_pos
      omega
    · exact q
  have hA := szA_top hu hf
  have heq := h.eq
  have hlo := h.lo
  have hhi := h.hi
  have hL := h.L1
  generalize szA b = A at *
  have hT := dT_pos
  have t1 : 2 ^ u1024 < 10 ^ u309 := by have := two_ten; simpa [Nat.blt_eq] using this
  have t2 : dT < 10 ^ u324 := by have := two_ten2; unfold dT; simpa [Nat.blt_eq] using this
  have h3 : u309 = 309 := rfl
  have h4 : u324 = 324 := rfl
  obtain ⟨xp, hxp⟩ : ∃ xp, xp = x.toNat := ⟨_, rfl⟩
  obtain ⟨xn, hxn⟩ : ∃ xn, xn = (-x).toNat := ⟨_, rfl⟩
  rw [← hxp, ← hxn] at heq
  have hx : x = (xp : Int) - (xn : Int) := by omega
  have pn : 0 < 10 ^ xn := Nat.pow_pos (by omega)
  have pp : 0 < 10 ^ xp := Nat.pow_pos (by omega)
  constructor
  · -- N * 10^xp * dT = A * 10^xn < 2^1024 * dT * 10^xn
    have a1 : N * 10 ^ xp * dT < 10 ^ u309 * 10 ^ xn * dT := by
      rw [heq]
      have b1 : A * 10 ^ xn < 2 ^ u1024 * dT * 10 ^ xn := (Nat.mul_lt_mul_right pn).2 hA
      have b2 : 2 ^ u1024 * (dT * 10 ^ xn) ≤ 10 ^ u309 * (dT * 10 ^ xn) := Nat.mul_le_mul_right _ (by omega)
      have e1 : 2 ^ u1024 * dT * 10 ^ xn = 2 ^ u1024 * (dT * 10 ^ xn) := Nat.mul_assoc _ _ _
      have e2 : 10 ^ u309 * 10 ^ xn * dT = 10 ^ u309 * (dT * 10 ^ xn) := by rw [Nat.mul_assoc, Nat.mul_comm (10 ^ xn)]
      omega
    have a2 : N * 10 ^ xp < 10 ^ u309 * 10 ^ xn := Nat.lt_of_mul_lt_mul_right a1
    have a3 : 10 ^ (L - 1) * 10 ^ xp ≤ N * 10 ^ xp := Nat.mul_le_mul_right _ hlo
    rw [← Nat.pow_add] at a2 a3
    have a4 := pow10_lt (Nat.lt_of_le_of_lt a3 a2)
    omega
  · have a1 : 10 ^ xn ≤ A * 10 ^ xn := Nat.le_mul_of_pos_left _ hA0
    have a2 : N * 10 ^ xp * dT < 10 ^ L * 10 ^ xp * 10 ^ u324 := by
      have c1 : N * 10 ^ xp < 10 ^ L * 10 ^ xp := (Nat.mul_lt_mul_right pp).2 hhi
      exact Nat.mul_lt_mul_of_lt_of_le c1 (Nat.le_of_lt t2) (Nat.pow_pos (by omega))
    rw [heq, ← Nat.pow_add, ← Nat.pow_add] at a2
    have a4 := pow10_lt (Nat.lt_of_le_of_lt a1 a2)
    omega
/-- ten to a power that may be below 0, as a Rat: moved -/
theorem dcR_move (W : Nat) (y : Int) (k : Nat) : dcR (W * 10 ^ k) y = dcR W (y + k) := by
  unfold dcR
  have h0 : ∀ (V : Nat) z, 0 ≤ dcN V z := fun V z => Int.mul_nonneg (by omega) (Int.pow_nonneg (by omega))
  rw [mk_eq (h0 _ _) (dcD_pos _) (h0 _ _) (dcD_pos _)]
  show dcN (W * 10 ^ k) y * dcD (y + k) = dcN W (y + k) * dcD y
  unfold dcN dcD
  have e : (((W * 10 ^ k : Nat) : Int)) = (W : Int) * 10 ^ k := by push_cast; rfl
  rw [e]
  have e2 : k + y.toNat + (-(y + (k : Int))).toNat = (y + (k : Int)).toNat + (-y).toNat := by omega
  have e3 : (W : Int) * 10 ^ k * 10 ^ y.toNat * 10 ^ (-(y + (k : Int))).toNat = (W : Int) * 10 ^ (k + y.toNat + (-(y + (k : Int))).toNat) := by rw [Int.pow_add, Int.pow_add]; ac_rfl
  have e4 : (W : Int) * 10 ^ (y + (k : Int)).toNat * 10 ^ (-y).toNat = (W : Int) * 10 ^ ((y + (k : Int)).toNat + (-y).toNat) := by rw [Int.pow_add]; ac_rfl
  rw [e3, e4, e2]
theorem mkR_diffU {P Q E : Int} (hE : 0 < E) : mkR false P E - mkR false Q E = mkR (decide (P < Q)) (if P < Q then Q - P else P - Q) E := by
  rw [mkR_div false hE, mkR_div false hE, mkR_div _ hE]
  have e : sg (decide (P < Q)) (if P < Q then Q - P else P - Q) = P - Q := by
    by_cases h : P < Q
    · rw [if_pos h, decide_eq_true h]
      simp only [sg, if_true]
      omega
    · rw [if_neg h, decide_eq_false h]
      rfl
  rw [e]
  show ((P : Int) : Rat) / _ - ((Q : Int) : Rat) / _ = _
  rw [Rat.div_def, Rat.div_def, Rat.div_def, Rat.intCast_sub, Rat.sub_eq_add_neg, Rat.sub_eq_add_neg, Rat.add_mul, Rat.neg_mul]
def adiff (P Q : Nat) : Nat := if P < Q then Q - P else P - Q
theorem dcR_diff (P Q : Nat) (y : Int) : dcR P y - dcR Q y = mkR (decide (dcN P y < dcN Q y)) (dcN (adiff P Q) y) (dcD y) := by
  unfold dcR
  rw [mkR_diffU (dcD_pos y)]
  congr 1
  have p : (0 : Int) < 10 ^ y.toNat := Int.pow_pos (by omega)
  unfold dcN adiff
  by_cases h : P < Q
  · have h' : (P : Int) * 10 ^ y.toNat < (Q : Int) * 10 ^ y.toNat := (Int.mul_lt_mul_right p).2 (by omega)
    rw [if_pos h, if_pos h', ← Int.sub_mul]
    congr 1
    omega
  · have h' : ¬ (P : Int) * 10 ^ y.toNat < (Q : Int) * 10 ^ y.toNat := fun q => h (by have := (Int.mul_lt_mul_right p).1 q; omega)
    rw [if_neg h, if_neg h', ← Int.sub_mul]
    congr 1
    omega
theorem ord_le {P Q : Nat} {y : Int} (h : P ≤ Q) : ∃ K, ordR (dcR P y) (dcR Q y) = K ∧ -1 ≤ K ∧ K ≤ 0 := by
  refine ⟨_, rfl, ?_⟩
  have p : (0 : Int) < 10 ^ y.toNat := Int.pow_pos (by omega)
  unfold dcR
  have h0 : ∀ (V : Nat) z, 0 ≤ dcN V z := fun V z => Int.mul_nonneg (by omega) (Int.pow_nonneg (by omega))
  rw [ordR_mk (h0 _ _) (dcD_pos _) (h0 _ _) (dcD_pos _)]
  show -1 ≤ ordN (dcN P y * dcD y) (dcN Q y * dcD y) ∧ ordN (dcN P y * dcD y) (dcN Q y * dcD y) ≤ 0
  have : dcN P y * dcD y ≤ dcN Q y * dcD y := by
    refine Int.mul_le_mul_of_nonneg_right ?_ (Int.le_of_lt (dcD_pos y))
    unfold dcN
    exact Int.mul_le_mul_of_nonneg_right (by omega) (Int.le_of_lt p)
  unfold ordN
  split
  · omega
  · split <;> omega
/-- Precise lies within half a unit -/
theorem cuts_half {A n D N L : Nat} {X x : Int} (hd : Dec A N L x) (h1 : 1 ≤ n) (hP : (rn L N n < 10 ^ n ∧ D = rn L N n ∧ X = (L : Int) + x - n) ∨ (rn L N n = 10 ^ n ∧ D = 10 ^ (n - 1) ∧ X = (L : Int) + x - n + 1)) :
    ∃ (s : Bool) (W : Nat) (y : Int), dcR D X - dcR N x = mkR s (dcN W y) (dcD y) ∧ (∃ K, ordR (dcR W y) (dcR 5 (X - 1)) = K ∧ -1 ≤ K ∧ K ≤ 0) := by
  by_cases hln : L ≤ n
  · have hlt := (rn_le (n := n) hd.hi).2 hln
    have hR : rn L N n = N * 10 ^ (n - L) := by unfold rn; rw [if_pos hln]
    obtain ⟨_, hD, hX⟩ : rn L N n < 10 ^ n ∧ D = rn L N n ∧ X = (L : Int) + x - n := by
      rcases hP with h | h
      · exact h
      · omega
    have e1 : dcR N x = dcR D X := by
      rw [hD, hR, dcR_move]
      congr 1
      omega
    refine ⟨_, _, _, by rw [e1]; exact dcR_diff D D X, ?_⟩
    have w0 : adiff D D = 0 := by unfold adiff; rw [if_neg (by omega)]; omega
    have e2 : dcR 0 X = dcR 0 (X - 1) := by
      have := dcR_move 0 (X - 1) 1
      rw [Nat.zero_mul] at this
      rw [this]
      congr 1
      omega
    rw [w0, e2]
    exact ord_le (by omega)
  · obtain ⟨k, hk⟩ : ∃ k, k = L - n := ⟨_, rfl⟩
    have hR : rn L N n = rq N (10 ^ k) := by unfold rn; rw [if_neg hln, hk]
    have hp : 0 < 10 ^ k := Nat.pow_pos (by omega)
    have hq := rq_half (P := N) (Q := 10 ^ k) hp
    rw [← hR] at hq
    have e1 : dcR D X = dcR (rn L N n * 10 ^ k) x := by
      rcases hP with ⟨_, hD, hX⟩ | ⟨h10, hD, hX⟩
      · rw [dcR_move, hD]
        congr 1
        omega
      · have : rn L N n * 10 ^ k = 10 ^ (n - 1) * 10 ^ (k + 1) := by
          rw [h10, ← Nat.pow_add, ← Nat.pow_add]
          congr 1
          omega
        rw [this, dcR_move, hD]
        congr 1
        omega
    refine ⟨_, _, _, by rw [e1]; exact dcR_diff _ N x, ?_⟩
    have hW : 2 * adiff (rn L N n * 10 ^ k) N ≤ 10 ^ k := by
      unfold adiff
      generalize rn L N n * 10 ^ k = y at *
      split <;> omega
    rcases hP with ⟨_, hD, hX⟩ | ⟨h10, hD, hX⟩
    · have e2 : dcR 5 (X - 1) = dcR (5 * 10 ^ (k - 1)) x := by
        rw [dcR_move]
        congr 1
        omega
      rw [e2]
      refine ord_le ?_
      have : 10 ^ k = 10 * 10 ^ (k - 1) := by
        obtain ⟨j, hj⟩ : ∃ j, k = j + 1 := ⟨k - 1, by omega⟩
        rw [hj, Nat.add_sub_cancel, Nat.pow_succ, Nat.mul_comm]
      omega
    · have e2 : dcR 5 (X - 1) = dcR (5 * 10 ^ k) x := by
        rw [dcR_move]
        congr 1
        omega
      rw [e2]
      exact ord_le (by omega)
theorem cuts_first {A n D N L : Nat} {X x : Int} (hd : Dec A N L x) (h1 : 1 ≤ n) (hP : (rn L N n < 10 ^ n ∧ D = rn L N n ∧ X = (L : Int) + x - n) ∨ (rn L N n = 10 ^ n ∧ D = 10 ^ (n - 1) ∧ X = (L : Int) + x - n + 1)) : 10 ^ (n - 1) ≤ D := by
  rcases hP with ⟨_, hD, _⟩ | ⟨_, hD, _⟩
  · rw [hD]
    exact rn_lo hd.L1 hd.lo h1
  · omega
theorem cuts_all {A n D N L : Nat} {X x : Int} (hd : Dec A N L x) (hln : L ≤ n) (hP : (rn L N n < 10 ^ n ∧ D = rn L N n ∧ X = (L : Int) + x - n) ∨ (rn L N n = 10 ^ n ∧ D = 10 ^ (n - 1) ∧ X = (L : Int) + x - n + 1)) : dg n D = dg L N ++ List.replicate (n - L) 48 ∧ X = x - ((n - L : Nat) : Int) := by
  have hlt := (rn_le (n := n) hd.hi).2 hln
  obtain ⟨_, hD, hX⟩ : rn L N n < 10 ^ n ∧ D = rn L N n ∧ X = (L : Int) + x - n := by
    rcases hP with h | h
    · exact h
    · omega
  refine ⟨?_, by omega⟩
  have hR : rn L N n = N * 10 ^ (n - L) := by unfold rn; rw [if_pos hln]
  rw [hD, hR]
  obtain ⟨k, rfl⟩ : ∃ k, n = L + k := ⟨n - L, by omega⟩
  rw [Nat.add_sub_cancel_left, dg_tens]
/-- where Fixed reaches as far it is exact -/
theorem cuts_exact {b : Int} (hf : ef b ≠ 2047) {N L n : Nat} {x : Int} (hd : Dec (szA b) N L x) (hn : -x ≤ (n : Int)) : dcR (fxR (szA b) n) (-(n : Int)) = dcR N x := by
  obtain ⟨f1, _⟩ := dec_fixed (n := n) hd
  have hL := hd.L1
  obtain ⟨T, hT⟩ : ∃ T : Nat, (L : Int) + x + n = T := ⟨((L : Int) + x + n).toNat, by omega⟩
  rw [← f1 T hT]
  have hR : rn L N T = N * 10 ^ (T - L) := by unfold rn; rw [if_pos (by omega)]
  rw [hR, dcR_move]
  congr 1
  omega
end Ep
end Go.Proofs.YtcnkgkogjaiohabGreatDoor

/- Layer 13: the walk of ExpandWhole. -/
namespace Go.Proofs.YtcnkgkogjaiohabGreatDoor
open Go.ChangeShapes Go.WideShapes Go.ChangeAt Go.RowKit
open Na Ar Ep
set_option linter.unusedVariables false
namespace Ep
theorem dT_cast : ((dT : Nat) : Int) = e2 1074 := by
  have h : (1074 : Int) = ((dX : Nat) : Int) := rfl
  rw [h, e2_nat]
  unfold dT
  rw [Int.natCast_pow]
  rfl
theorem mg_low {b : Int} (hf : ef b ≠ 2047) : 0 ≤ mg b ∧ mg b ≤ mostP := by
  have a := mg_bd b
  have c := mg_parts b
  have d := ef_bd b
  have e := fr_bd b
  have m : mostP = 9218868437227405311 := rfl
  omega
theorem val_mg {b : Int} (hf : ef b ≠ 2047) : valR (mg b) = mkR false ((szA b : Nat) : Int) (e2 1074) := by
  have h := mg_low hf
  rw [valR_low h.1 h.2]
  have hn := num_nonneg' h.1 h.2
  have : ((szA b : Nat) : Int) = numW (mg b) := by
    rw [← szA_mg]
    unfold szA
    omega
  rw [this]
theorem dec_val {b : Int} (hf : ef b ≠ 2047) {N L : Nat} {x : Int} (h : Dec (szA b) N L x) : dcR N x = valR (mg b) := by
  rw [val_mg hf]
  unfold dcR
  have h0 : 0 ≤ dcN N x := Int.mul_nonneg (by omega) (Int.pow_nonneg (by omega))
  rw [mk_eq h0 (dcD_pos x) (by omega) (e2_pos _)]
  show dcN N x * e2 1074 = ((szA b : Nat) : Int) * dcD x
  have e := h.eq
  have e' : ((N * 10 ^ x.toNat * dT : Nat) : Int) = ((szA b * 10 ^ (-x).toNat : Nat) : Int) := by rw [e]
  rw [Int.natCast_mul, Int.natCast_mul, Int.natCast_mul, Int.natCast_pow, Int.natCast_pow, dT_cast] at e'
  exact e'
theorem dg_ne {L N : Nat} (h : 1 ≤ L) : dg L N ≠ [] := fun e => by
  have := dg_len L N
  rw [e] at this
  simp at this
  omega
theorem dg_first {L N : Nat} (h1 : 1 ≤ L) (h2 : 10 ^ (L - 1) ≤ N) (h3 : N < 10 ^ L) : ∃ c, (dg L N)[0]? = some c ∧ c ≠ 48 := by
  obtain ⟨d, rfl⟩ : ∃ d, L = d + 1 := ⟨L - 1, by omega⟩
  rw [Nat.add_sub_cancel] at h2
  have p : 0 < 10 ^ d := Nat.pow_pos (by omega)
  have hq : N / 10 ^ d < 10 := by
    rw [Nat.div_lt_iff_lt_mul p]
    rw [Nat.pow_succ] at h3
    omega
  have hq1 : 1 ≤ N / 10 ^ d := by
    rw [Nat.le_div_iff_mul_le p]
    omega
  refine ⟨_, dg_at (by omega), fun e => ?_⟩
  have := congrArg UInt8.toNat e
  rw [show d + 1 - 1 - 0 = d by omega, Nat.mod_eq_of_lt hq, dch_nat hq] at this
  have e48 : (48 : UInt8).toNat = 48 := rfl
  omega
end Ep
end Go.Proofs.YtcnkgkogjaiohabGreatDoor

/- Layer 13: the walk of ExpandCuts. -/
namespace Go.Proofs.YtcnkgkogjaiohabGreatDoor
open Go.ChangeShapes Go.WideShapes Go.ChangeAt Go.RowKit
open Na Ar Ep
set_option linter.unusedVariables false
theorem parse13_zero {m : Nat} (hm : 1 ≤ m) (hm9 : m ≤ 4000) (w : World) :
    Calls Tryz.prog 10 #[.string ⟨(dg m 0).toArray⟩, .int .i64 10] w fun e w' => ∃ a c, e = .returned (.tuple #[.slice a 0 c, .nilIface]) ∧ Below w.heap.size w w' := by
  have hX : 0 < 10 ^ m := Nat.pow_pos (by omega)
  have hs : (⟨(dg m 0).toArray⟩ : ByteArray).size = m := by rw [Lib.size_eq]; exact dg_len m 0
  have hd : ∀ i, i < (⟨(dg m 0).toArray⟩ : ByteArray).size → dgt ⟨(dg m 0).toArray⟩ i < 10 := fun i hi => by
    rw [hs] at hi
    rw [dgt_dg hi]
    have := Nat.mod_lt (0 / 10 ^ (m - 1 - i)) (show 0 < 10 by omega)
    omega
  have hp := parse_good ⟨(dg m 0).toArray⟩ 10 (by omega) (by omega) (by omega) (by omega) hd w
  have hn := numB_dg (m := m) (X := 0) m (Nat.le_refl _) hX
  rw [Nat.sub_self, Nat.pow_zero, Nat.div_one] at hn
  rw [hs, hn] at hp
  have z : words ((0 : Nat) : Int) = [] := dig_zero _
  refine hp.mono ?_
  rintro e w' (⟨_, v, rfl, ho, hb⟩ | ⟨h, _⟩)
  · rw [z] at ho
    obtain ⟨a, c, rfl, hr⟩ := ho.readsC
    exact ⟨a, c, rfl, hb⟩
  · rw [z] at h
    simp at h
set_option maxHeartbeats 6400000 in
set_option maxRecDepth 100000 in
theorem cuts_inf {b n0 : Int} (hu : U b) (i0 : -9223372036854775808 ≤ n0) (i1 : n0 ≤ 9223372036854775807) {w : World} (hf : ef b = 2047) :
    Calls Tryz.prog 3 #[.int .u64 b, .int .i64 n0] w fun r w' => r = .returned (.bool true) ∧ Below w.heap.size w w' := by
  obtain ⟨n, hn, hn1, hn9⟩ : ∃ n : Nat, (IntKind.u64.wrap n0).tmod 1100 = (n : Int) - 1 ∧ 1 ≤ n ∧ n ≤ 1100 := by
    have h0 : 0 ≤ IntKind.u64.wrap n0 % 1100 := Int.emod_nonneg _ (by omega)
    have h1 := Int.emod_lt_of_pos (IntKind.u64.wrap n0) (show (0 : Int) < 1100 by omega)
    have h2 : 0 ≤ IntKind.u64.wrap n0 := (U_wrap n0).1
    rw [Int.tmod_eq_emod_of_nonneg h2]
    exact ⟨(IntKind.u64.wrap n0 % 1100).toNat + 1, by omega, by omega, by omega⟩
  have hA := alive13_any
  have hF := finite13_any hu
  have z0 : (n : Int) ≤ 1100 := by omega
  have z1 : (1 : Int) ≤ n := by omega
  have z2 : 1 + ((n : Int) - 1) = (n : Int) := by omega
  have hX := fun w => precise_inf hu hf (n := n) hn1 hn9 w
  have da : decide (ef b ≠ 2047) = false := by simp [hf]
  rw [da] at hF
  go_enter Tryz.func3, Tryz.ntmps3
  go_wp2_with fail
  refine (hX w).mono ?_
  rintro e w1 ⟨rfl, hb1⟩
  go_wp2_with fail
  refine (hA w1).mono ?_
  rintro e w2 ⟨rfl, hb2⟩
  have hB2 := hb1.trans (hb2.mono hb1.size)
  go_wp2_with fail
  refine (hF w2).mono ?_
  rintro e w3 ⟨rfl, rfl⟩
  go_wp2_with fail
  refine (hA _).mono ?_
  rintro e w4 ⟨rfl, hb4⟩
  have hB4 := hB2.trans (hb4.mono hB2.size)
  go_wp2
  go_ret
  exact ⟨rfl, hB4⟩
set_option maxHeartbeats 6400000 in
set_option maxRecDepth 100000 in
theorem cuts_zero {b n0 : Int} (hu : U b) (i0 : -9223372036854775808 ≤ n0) (i1 : n0 ≤ 9223372036854775807) {w : World} (hf : ef b ≠ 2047) (hA0 : szA b = 0) :
    Calls Tryz.prog 3 #[.int .u64 b, .int .i64 n0] w fun r w' => r = .returned (.bool true) ∧ Below w.heap.size w w' := by
  obtain ⟨n, hn, hn1, hn9⟩ : ∃ n : Nat, (IntKind.u64.wrap n0).tmod 1100 = (n : Int) - 1 ∧ 1 ≤ n ∧ n ≤ 1100 := by
    have h0 : 0 ≤ IntKind.u64.wrap n0 % 1100 := Int.emod_nonneg _ (by omega)
    have h1 := Int.emod_lt_of_pos (IntKind.u64.wrap n0) (show (0 : Int) < 1100 by omega)
    have h2 : 0 ≤ IntKind.u64.wrap n0 := (U_wrap n0).1
    rw [Int.tmod_eq_emod_of_nonneg h2]
    exact ⟨(IntKind.u64.wrap n0 % 1100).toNat + 1, by omega, by omega, by omega⟩
  have hA := alive13_any
  have hF := finite13_any hu
  have z0 : (n : Int) ≤ 1100 := by omega
  have z1 : (1 : Int) ≤ n := by omega
  have z2 : 1 + ((n : Int) - 1) = (n : Int) := by omega
  have hX := fun w => precise_fin hu hf (n := n) hn1 hn9 w
  have hDg := fun w => digits_fin hu hf w
  have da : decide (ef b ≠ 2047) = true := by simp [hf]
  rw [da] at hF
  have hs0 : (⟨(dg 1 0).toArray⟩ : ByteArray) = ⟨#[48]⟩ := rfl
  have hPs := fun w => parse13_zero hn1 (by omega) w
  have hsz : (⟨(dg n 0).toArray⟩ : ByteArray).size = n := by rw [Lib.size_eq]; exact dg_len n 0
  have hX2 : ∀ w, Calls Tryz.prog 6 #[.int .u64 b, .int .i64 (n : Int)] w fun e w' => e = .returned (.tuple #[.string ⟨(dg n 0).toArray⟩, .int .i64 0, .int .i64 0]) ∧ Below w.heap.size w w' := fun w => by
    refine (hX w).mono ?_
    rintro e w' ⟨D, X, h1, _, rfl, hb⟩
    obtain ⟨rfl, rfl⟩ := pz_uniq h1 (Or.inl ⟨hA0, rfl, rfl⟩)
    exact ⟨rfl, hb⟩
  have hD2 : ∀ w, Calls Tryz.prog 9 #[.int .u64 b] w fun e w' => e = .returned (.tuple #[.string ⟨#[48]⟩, .int .i64 0, .int .i64 0]) ∧ Below w.heap.size w w' := fun w => by
    refine (hDg w).mono ?_
    rintro e w' ⟨N, L, x, rfl, h1, _, hb⟩
    obtain ⟨rfl, rfl, rfl⟩ := dz_uniq h1 (Or.inl ⟨hA0, rfl, rfl, rfl⟩)
    exact ⟨rfl, hb⟩
  generalize (⟨(dg n 0).toArray⟩ : ByteArray) = s at *
  clear hX hDg hs0 da hf hA0
  go_enter Tryz.func3, Tryz.ntmps3
  go_wp2_with fail
  refine (hX2 w).mono ?_
  rintro e w1 ⟨rfl, hb1⟩
  go_wp2_with fail
  refine (hA w1).mono ?_
  rintro e w2 ⟨rfl, hb2⟩
  have hB2 := hb1.trans (hb2.mono hb1.size)
  go_wp2_with fail
  refine (hF w2).mono ?_
  rintro e w3 ⟨rfl, rfl⟩
  go_wp2_with fail
  refine (hD2 _).mono ?_
  rintro e w4 ⟨rfl, hb4⟩
  have hB4 := hB2.trans (hb4.mono hB2.size)
  go_wp2_with fail
  refine (hPs _).mono ?_
  rintro e w5 ⟨a5, c5, rfl, hb5⟩
  have hB5 := hB4.trans (hb5.mono hB4.size)
  go_wp2
  go_ret
  exact ⟨rfl, hB5⟩
end Go.Proofs.YtcnkgkogjaiohabGreatDoor

/- Layer 13: the walk of ExpandCuts. -/
namespace Go.Proofs.YtcnkgkogjaiohabGreatDoor
open Go.ChangeShapes Go.WideShapes Go.ChangeAt Go.RowKit
open Na Ar Ep
set_option linter.unusedVariables false
namespace Ep
def filS (m i : Nat) : List UInt8 := List.replicate i 48 ++ List.replicate (m - i) 0
theorem filS_zero (m : Nat) : filS m 0 = List.replicate m 0 := by unfold filS; simp
theorem filS_end (m : Nat) : filS m m = List.replicate m 48 := by unfold filS; simp
theorem filS_set {m i : Nat} (h : i < m) : (filS m i).set i 48 = filS m (i + 1) := by
  unfold filS
  obtain ⟨k, hk⟩ : ∃ k, m - i = k + 1 := ⟨m - i - 1, by omega⟩
  have h2 : m - (i + 1) = k := by omega
  rw [hk, h2, List.set_append_right _ _ (by simp), List.length_replicate, Nat.sub_self, List.replicate_succ, List.set_cons_zero, List.replicate_succ', List.append_assoc]
  rfl
end Ep
theorem fixed_wo {b : Int} (hu : U b) (hf : ef b ≠ 2047) {n : Nat} (hn : n ≤ 1100) (w : World) :
    Calls Tryz.prog 16 #[.int .u64 b, .int .i64 (n : Int)] w fun e w' => ∃ T D : ByteArray, e = .returned (.tuple #[.string T, .int .i64 0]) ∧ (∀ w, Calls Tryz.prog 17 #[.string T] w fun e w' => e = .returned (.string D) ∧ Below w.heap.size w w') ∧ (∀ w, Calls Tryz.prog 11 #[.string D, .int .i64 (-(n : Int))] w fun r w' => ∃ s a n' c b' m f, r = .returned (.tuple #[.agg #[.bool s, .slice a n' c, .slice b' m f], .bool true]) ∧ Rt w' s a n' c b' m f (dcR (fxR (szA b) n) (-(n : Int))) ∧ Below w.heap.size w w') ∧ Sz (dcR (fxR (szA b) n) (-(n : Int))) (210 + 210) ∧ Below w.heap.size w w' := by
  refine (fixed_fin hu hf hn w).mono ?_
  rintro e w' ⟨M, hM, hM9, rfl, hb⟩
  generalize fxR (szA b) n = R at *
  have hM2 : R < 10 ^ M ∧ n + 1 ≤ M := by
    rcases hM with ⟨h1, h2⟩ | ⟨h1, _, h2⟩
    · rw [h1]; exact ⟨h2, Nat.le_refl _⟩
    · exact ⟨h2, by omega⟩
  have hl : (sgL (spS b) ++ ptL M (R) n).length ≤ 100000 := by
    have a1 := ptL_len (W := R) hM2.2
    have a2 : (sgL (spS b)).length ≤ 1 := by cases spS b <;> decide
    rw [List.length_append]
    omega
  have hW := fun w => without13_any hl w
  rw [woL_pt (by omega)] at hW
  exact ⟨_, _, rfl, hW, fun w => dec13_any (by omega) hM9 hM2.1 (by omega) (by omega) w, (dc_size (m := M) hM9 hM2.1 (by omega) (by omega)).2.2, hb⟩
set_option maxHeartbeats 6400000 in
set_option maxRecDepth 100000 in
theorem cuts_pos {b n0 : Int} (hu : U b) (i0 : -9223372036854775808 ≤ n0) (i1 : n0 ≤ 9223372036854775807) {w : World} (hf : ef b ≠ 2047) (hA0 : ¬ szA b = 0) :
    Calls Tryz.prog 3 #[.int .u64 b, .int .i64 n0] w fun r w' => r = .returned (.bool true) ∧ Below w.heap.size w w' := by
  obtain ⟨n, hn, hn1, hn9⟩ : ∃ n : Nat, (IntKind.u64.wrap n0).tmod 1100 = (n : Int) - 1 ∧ 1 ≤ n ∧ n ≤ 1100 := by
    have h0 : 0 ≤ IntKind.u64.wrap n0 % 1100 := Int.emod_nonneg _ (by omega)
    have h1 := Int.emod_lt_of_pos (IntKind.u64.wrap n0) (show (0 : Int) < 1100 by omega)
    have h2 : 0 ≤ IntKind.u64.wrap n0 := (U_wrap n0).1
    rw [Int.tmod_eq_emod_of_nonneg h2]
    exact ⟨(IntKind.u64.wrap n0 % 1100).toNat + 1, by omega, by omega, by omega⟩
  obtain ⟨i_u8, hi_u8, hz0_u8, hz1_u8, hz2_u8⟩ := info_parts info8
  have hA := alive13_any
  have hF := finite13_any hu
  have z0 : (n : Int) ≤ 1100 := by omega
  have z1 : (1 : Int) ≤ n := by omega
  have z2 : 1 + ((n : Int) - 1) = (n : Int) := by omega
  have hX := fun w => precise_fin hu hf (n := n) hn1 hn9 w
  have hDg := fun w => digits_fin hu hf w
  have da : decide (ef b ≠ 2047) = true := by simp [hf]
  rw [da] at hF
  obtain ⟨N, L, x, hDec⟩ := dec_ex (A := szA b) (by omega)
  obtain ⟨D, X, hPP⟩ : ∃ D X, ((rn L N n < 10 ^ n ∧ D = rn L N n ∧ X = (L : Int) + x - n) ∨ (rn L N n = 10 ^ n ∧ D = 10 ^ (n - 1) ∧ X = (L : Int) + x - n + 1)) := by
    have := rn_le (n := n) hDec.hi
    by_cases q : rn L N n < 10 ^ n
    · exact ⟨_, _, Or.inl ⟨q, rfl, rfl⟩⟩
    · exact ⟨_, _, Or.inr ⟨by omega, rfl, rfl⟩⟩
  have hPz : Pz (szA b) n D X := Or.inr ⟨N, L, x, by omega, hDec, hPP⟩
  have htop := dec_top hu hf hDec
  have hDlt : D < 10 ^ n := by
    rcases hPP with ⟨h1, h2, _⟩ | ⟨_, h2, _⟩
    · omega
    · rw [h2]; exact Nat.pow_lt_pow_right (by omega) (by omega)
  have hX0 : -1500 ≤ X ∧ X ≤ 400 := by omega
  obtain ⟨sg9, W, y, hoff, K, hK, hK1, hK2⟩ := cuts_half hDec hn1 hPP
  have hfst := cuts_first hDec hn1 hPP
  have hall := fun h => cuts_all (n := n) (D := D) hDec h hPP
  have hex := fun h => cuts_exact hf (n := n) hDec h
  have hval := dec_val hf hDec
  rw [hval] at hoff hex
  have hX2 : ∀ w, Calls Tryz.prog 6 #[.int .u64 b, .int .i64 (n : Int)] w fun e w' => e = .returned (.tuple #[.string ⟨(dg n D).toArray⟩, .int .i64 X, .int .i64 0]) ∧ Below w.heap.size w w' := fun w => by
    refine (hX w).mono ?_
    rintro e w' ⟨D', X', h1, _, rfl, hb⟩
    obtain ⟨rfl, rfl⟩ := pz_uniq h1 hPz
    exact ⟨rfl, hb⟩
  have hD2 : ∀ w, Calls Tryz.prog 9 #[.int .u64 b] w fun e w' => e = .returned (.tuple #[.string ⟨(dg L N).toArray⟩, .int .i64 x, .int .i64 0]) ∧ (L ≤ 1300 ∧ -1100 ≤ x ∧ x ≤ 1300) ∧ Below w.heap.size w w' := fun w => by
    refine (hDg w).mono ?_
    rintro e w' ⟨N', L', x', rfl, h1, hbd, hb⟩
    obtain ⟨rfl, rfl, rfl⟩ := dz_uniq h1 (Or.inr ⟨by omega, hDec⟩)
    exact ⟨rfl, by omega, hb⟩
  have hSz := size13_any hu
  have hV := fun w => nearValue_fin (Ar.U_mg b) (by rw [ef_mg]; exact hf) w
  have hvs := value_size (Ar.U_mg b) (by rw [ef_mg]; exact hf)
  have hD5 := fun w => dec13_any (m := 1) (X := 5) (e := X - 1) (by omega) (by omega) (by omega) (by omega) (by omega) w
  have hd5 : dg 1 5 = [53] := rfl
  rw [hd5] at hD5
  have hDc := fun w => dec13_any (m := n) (X := D) (e := X) hn1 (by omega) hDlt (by omega) (by omega) w
  have hzD := (dc_size (m := n) (X := D) (e := X) (by omega) hDlt (by omega) (by omega)).2.2
  have hz5 := (dc_size (m := 1) (X := 5) (e := X - 1) (by omega) (by omega) (by omega) (by omega)).2.2
  have hFx := fun w => fixed_wo hu hf (n := n) hn9 w
  have h0W : 0 ≤ dcN W y := Int.mul_nonneg (by omega) (Int.pow_nonneg (by omega))
  have hpy := dcD_pos y
  have hL1 := hDec.L1
  have hlast := hDec.last
  obtain ⟨cf, hcf, hcf1⟩ := dg_first hn1 hfst hDlt
  obtain ⟨s, hs⟩ : ∃ s : ByteArray, s = ⟨(dg n D).toArray⟩ := ⟨_, rfl⟩
  have hsl : s.data.toList = dg n D := by rw [hs]
  have hsz : s.size = n := by rw [Lib.size_eq, hsl]; exact dg_len n D
  obtain ⟨d, hd⟩ : ∃ d : ByteArray, d = ⟨(dg L N).toArray⟩ := ⟨_, rfl⟩
  have hdl : d.data.toList = dg L N := by rw [hd]
  have hdz : d.size = L := by rw [Lib.size_eq, hdl]; exact dg_len L N
  have x0 : ∀ h, (s[0]'h) = cf := fun h => by
    have := Lib.data_getElem? s 0 h
    rw [hsl, hcf] at this
    exact (Option.some.inj this).symm
  have k0 : ((cf.toNat : Int) == 48) = false := beq_eq_false_iff_ne.2 fun e => hcf1 (UInt8.toNat_inj.1 (by exact_mod_cast e))
  have hNe2 : d.toList.isEmpty = false := by
    rw [Lib.toList_data, hdl]
    have := dg_ne (N := N) hL1
    cases hq : dg L N with
    | nil => exact absurd hq this
    | cons _ _ => rfl
  have hNo : ¬ dg L N = [48] := fun e => by
    have hl : L = 1 := by have := congrArg List.length e; rw [dg_len] at this; simpa using this
    rw [hl] at e
    have e1 : dg 1 N = [] ++ [UInt8.ofNat (48 + N % 10)] := rfl
    rw [e1] at e
    have e2 : UInt8.ofNat (48 + N % 10) = 48 := by simpa using e
    have e3 := congrArg UInt8.toNat e2
    rw [dch_nat (Nat.mod_lt _ (by omega))] at e3
    have e48 : (48 : UInt8).toNat = 48 := rfl
    omega
  have hn0 : (d.toList == [48]) = false := by rw [Lib.toList_data, hdl]; exact beq_eq_false_iff_ne.2 hNo
  have hn2 : ¬ d.toList = [48] := by rw [Lib.toList_data, hdl]; exact hNo
  rw [← hs] at hX2 hDc
  rw [← hd] at hD2
  have HALL : Hid (L ≤ n → s = d ++ ⟨(List.replicate (n - L) (48 : UInt8)).toArray⟩ ∧ X = x - ((n - L : Nat) : Int)) := fun h => by
    have := hall h
    refine ⟨?_, this.2⟩
    rw [hs, this.1, hd]
    apply ByteArray.ext
    simp
  have HEX : Hid (-x ≤ (n : Int) → dcR (fxR (szA b) n) (-(n : Int)) = valR (mg b)) := hex
  generalize valR (mg b) = V at *
  generalize mg b = mb at *
  generalize spS b = sS at *
  generalize szA b = A at *
  clear hs hd hsl hdl hall hex hX hDg hPz hPP hDec hcf hcf1 hfst hNo hval hlast da hf hA0 htop hd5
  go_enter Tryz.func3, Tryz.ntmps3
  go_wp2_with fail
  refine (hX2 w).mono ?_
  rintro e w1 ⟨rfl, hb1⟩
  go_wp2_with fail
  refine (hA w1).mono ?_
  rintro e w2 ⟨rfl, hb2⟩
  have hB2 := hb1.trans (hb2.mono hb1.size)
  go_wp2_with fail
  refine (hF w2).mono ?_
  rintro e w3 ⟨rfl, rfl⟩
  go_wp2_with fail
  refine (hD2 _).mono ?_
  rintro e w4 ⟨rfl, hbd, hb4⟩
  have hB4 := hB2.trans (hb4.mono hB2.size)
  clear hX2 hA hF hD2 hb1 hb2 hb4 hB2
  go_wp2_with fail
  refine (hDc _).mono ?_
  rintro e w5 ⟨s5, a5, n5, c5, b5, m5, d5, rfl, Q5, hb5⟩
  have ba5 := alloc_below (w := w5) (.cells #[.bool s5, .slice a5 n5 c5, .slice b5 m5 d5] 36)
  have hB5 := hB4.trans (hb5.mono hB4.size)
  have hB5' := hB5.trans (ba5.mono hB5.size)
  have st5 := st_new w5 (.bool s5) (.slice a5 n5 c5) (.slice b5 m5 d5) 36
  have Q5' := Q5.later ba5
  obtain ⟨w6, hw6⟩ : ∃ w6, w6 = w5.alloc (.cells #[.bool s5, .slice a5 n5 c5, .slice b5 m5 d5] 36) := ⟨_, rfl⟩
  obtain ⟨g5, hg5⟩ : ∃ g5, g5 = w5.heap.size := ⟨_, rfl⟩
  rw [← hw6] at hB5' st5 Q5'
  rw [← hg5] at st5
  clear hb5 ba5 hB5 Q5 hB4 hDc
  go_wp2_with fail
  rw [← hw6, ← hg5]
  clear hw6 hg5
  refine (hD5 _).mono ?_
  rintro e w7 ⟨s7, a7, n7, c7, b7, m7, d7, rfl, Q7, hb7⟩
  have ba7 := alloc_below (w := w7) (.cells #[.bool s7, .slice a7 n7 c7, .slice b7 m7 d7] 36)
  have hB7 := hB5'.trans (hb7.mono hB5'.size)
  have hB7' := hB7.trans (ba7.mono hB7.size)
  have st7 := st_new w7 (.bool s7) (.slice a7 n7 c7) (.slice b7 m7 d7) 36
  have Q7' := Q7.later ba7
  have st5b := (st5.later hb7).later ba7
  have Q5b := (Q5'.later hb7).later ba7
  obtain ⟨w8, hw8⟩ : ∃ w8, w8 = w7.alloc (.cells #[.bool s7, .slice a7 n7 c7, .slice b7 m7 d7] 36) := ⟨_, rfl⟩
  obtain ⟨g7, hg7⟩ : ∃ g7, g7 = w7.heap.size := ⟨_, rfl⟩
  rw [← hw8] at hB7' st7 Q7' st5b Q5b
  rw [← hg7] at st7
  clear hb7 ba7 hB7 Q7 hB5' hD5 st5 Q5'
  go_wp2_with fail
  rw [← hw8, ← hg7]
  clear hw8 hg7
  refine (hSz _).mono ?_
  rintro e w9 ⟨rfl, rfl⟩
  go_wp2_with fail
  refine (hV _).mono ?_
  rintro e w10 ⟨s10, v1, v2, rfl, R10, hb10⟩
  obtain ⟨a10, n10, c10, b10, m10, d10, rfl, rfl, Q10⟩ := R10.opens
  have ba10 := alloc_below (w := w10) (.cells #[.bool s10, .slice a10 n10 c10, .slice b10 m10 d10] 36)
  have hB10 := hB7'.trans (hb10.mono hB7'.size)
  have hB10' := hB10.trans (ba10.mono hB10.size)
  have Q10' := Q10.later ba10
  have st7b := (st7.later hb10).later ba10
  have Q7b := (Q7'.later hb10).later ba10
  have st5c := (st5b.later hb10).later ba10
  have Q5c := (Q5b.later hb10).later ba10
  have st10 := st_new w10 (.bool s10) (.slice a10 n10 c10) (.slice b10 m10 d10) 36
  have hSb := rSub_ok Q5c Q10' hzD hvs (by omega)
  rw [hoff] at hSb
  obtain ⟨o0, o1, o2⟩ := (st5b.later hb10).cells
  have o3 := (st5b.later hb10).lt
  obtain ⟨w11, hw11⟩ : ∃ w11, w11 = w10.alloc (.cells #[.bool s10, .slice a10 n10 c10, .slice b10 m10 d10] 36) := ⟨_, rfl⟩
  obtain ⟨g10, hg10⟩ : ∃ g10, g10 = w10.heap.size := ⟨_, rfl⟩
  rw [← hw11] at hB10' st7b Q7b st5c st10 hSb Q10'
  rw [← hg10] at st10
  obtain ⟨p0, p1, p2⟩ := st5c.cells
  obtain ⟨q0, q1, q2⟩ := st10.cells
  clear hb10 ba10 hB10 Q10 R10 hB7' hV hSz st7 Q7' st5b Q5b Q5c
  go_wp2_with fail
  rw [← hw11, ← hg10]
  clear hw11 hg10 p0 p1 p2 q0 q1 q2 o0 o1 o2 o3 st5c
  refine hSb.mono ?_
  rintro e w12 ⟨s12, v1, v2, rfl, R12, hs12, hb12⟩
  obtain ⟨a12, n12, c12, b12, m12, d12, rfl, rfl, Q12⟩ := R12.opens
  have hB12 := hB10'.trans (hb12.mono hB10'.size)
  have st7c := st7b.later hb12
  have Q7c := Q7b.later hb12
  have stv := st10.later hb12
  have Qv := Q10'.later hb12
  have Q12s := Q12.size7 h0W hpy
  have ba12 := alloc_below (w := w12) (.cells #[.bool false, .slice a12 n12 c12, .slice b12 m12 d12] 36)
  have hB13 := hB12.trans (ba12.mono hB12.size)
  have st13 := st_new w12 (.bool false) (.slice a12 n12 c12) (.slice b12 m12 d12) 36
  have st7d := st7c.later ba12
  have Q7d := Q7c.later ba12
  have Q13 := Q12s.later ba12
  have stv2 := stv.later ba12
  have Qv2 := Qv.later ba12
  have hszA : Sz (mkR false (dcN W y) (dcD y)) (210 + 210 + 20 + 1) := by
    have h := mkR_abs (s := sg9) h0W hpy
    unfold Sz at hs12 ⊢
    rw [h.1, h.2.1] at hs12
    exact hs12
  have hCm := rCmp_ok Q13 Q7d hszA hz5 (by omega) hK
  have hlt7 := st7c.lt
  obtain ⟨o0, o1, o2⟩ := st7c.cells
  clear hSb hb12 hB10' st7b Q7b R12 hs12 Q12 Q7c Q12s hszA hB12 hoff hzD hz5
  go_wp2_with fail
  refine hCm.mono ?_
  rintro e w14 ⟨rfl, hb14⟩
  have hB14 := hB13.trans (hb14.mono hB13.size)
  have stv3 := stv2.later hb14
  have Qv3 := Qv2.later hb14
  clear hCm hb14 hB13 Q13 Q7d st7d st13 st7c hK hlt7 o0 o1 o2 ba12 stv Qv stv2 Qv2 st10 Q10'
  have c0 : ¬ (0 : Int) < K := by omega
  clear hK1 hK2
  by_cases hLn : L ≤ n
  · obtain ⟨hse, hxe⟩ := HALL.out hLn
    obtain ⟨m, hm⟩ : ∃ m, m = n - L := ⟨_, rfl⟩
    rw [← hm] at hse hxe
    have y0 : (L : Int) ≤ (n : Int) := by omega
    have y1 : (n : Int) - (L : Int) = (m : Int) := by omega
    have y2 : (m : Int) ≤ 1100 := by omega
    have HXE : Hid (X = x - (m : Int)) := hxe
    obtain ⟨Z, hZ⟩ : ∃ Z : ByteArray, Z = ⟨(List.replicate m (48 : UInt8)).toArray⟩ := ⟨_, rfl⟩
    have HZ : Hid ((⟨(List.replicate m (48 : UInt8)).toArray⟩ : ByteArray) = Z) := hZ.symm
    rw [← hZ] at hse
    have HSE : Hid (s = d ++ Z) := hse
    clear hn hse hxe hZ HALL hm
    go_wp2_with (at_make; refine wpList_make_full _ rfl _ _ 45 rfl w14.heap.size 5 i_u8 (.int .u8 0) 1 Tryz.underlying45 hi_u8 hz0_u8 hz1_u8 .i64 .i64 _ _ m rfl rfl (by omega) (by omega) (by rw [hz2_u8]; omega) (by unfold maxLen; omega) (Nat.le_refl _) ?_)
    intro w15 hmade hgr
    have hown := own_zeros hmade
    rw [← nz_zeros] at hown
    have hb15 : Below w14.heap.size w14 w15 := (Below.refl _ _).grown hgr (Nat.le_refl _) (fun k hk => by cases hk)
    have hW := wr_own hown (by rw [List.length_replicate])
    obtain ⟨g, hg⟩ : ∃ g, g = w14.heap.size := ⟨_, rfl⟩
    have HG : Hid (w14.heap.size = g) := hg.symm
    rw [← hg] at hW hb15 ⊢
    clear hmade hgr hown hg
    go_wp2_with fail
    go_loopg [24] m (fun k s4 wr => ∃ i : Nat, s4 = .int .i64 (i : Int) ∧ i ≤ m ∧ m - i ≤ k ∧ Wr wr g g m (filS m i) ∧ Below g w14 wr)
    case atStart => exact ⟨0, rfl, Nat.zero_le _, by omega, by rw [filS_zero]; exact hW, hb15⟩
    case round =>
      obtain ⟨i, rfl, hi, hk, hWi, hBi⟩ := hrel
      clear hW hb15
      by_cases hlt : i < m
      · have hc := hWi.cell i hlt
        have hf := hWi.free i hlt
        obtain ⟨hs, hsb⟩ := hWi.set i 48 48 rfl hlt
        rw [filS_set hlt] at hs
        have hB3 := hBi.trans hsb
        have q1 : (i : Int) < (m : Int) := by omega
        clear hWi hBi hsb
        go_wp2
        go_roundg (m - (i + 1))
        case measure => omega
        case rel => exact ⟨i + 1, by go_num, by omega, by omega, hs, hB3⟩
      · have hi2 : i = m := by omega
        rw [hi2] at hWi ⊢
        rw [filS_end] at hWi
        have hR := hWi.row (c := m) (Nat.le_refl _) (by omega)
        have hcv := conv8 hR
        rw [HZ.out] at hcv
        have hBi2 : Below w14.heap.size w14 wr := by rw [HG.out]; exact hBi
        have hB15 := hB14.trans (hBi2.mono hB14.size)
        have stv4 := stv3.later hBi2
        have Qv4 := Qv3.later hBi2
        clear hWi hR hBi hBi2 stv3 Qv3 hB14 hi2 hlt hk hi
        have tq : s.toList = (d ++ Z).toList := by rw [HSE.out]
        have hzs : ¬ 9223372036854775807 < L + Z.size := by
          rw [← HZ.out]
          show ¬ 9223372036854775807 < L + (List.replicate m (48 : UInt8)).toArray.size
          simp
          omega
        have tx : (X != x - (m : Int)) = false := by rw [HXE.out]; simp
        have q1 : (m : Int) ≤ (m : Int) := by omega
        clear HSE HZ HXE HG
        by_cases hnx : (n : Int) < -x
        · go_wp2
          go_ret
          exact ⟨rfl, hB15⟩
        · have HV := HEX.out (by omega)
          have hnx2 : -x ≤ (n : Int) := by omega
          rw [HV] at hFx
          clear HV HEX hnx
          go_wp2_with fail
          refine (hFx _).mono ?_
          rintro e w16 ⟨TS, DS, rfl, hWo, hDw, hzw, hb16⟩
          have hB16 := hB15.trans (hb16.mono hB15.size)
          have st16 := stv4.later hb16
          have Q16 := Qv4.later hb16
          clear hb16 hB15 stv4 Qv4 hFx
          go_wp2_with fail
          refine (hWo _).mono ?_
          rintro e w17 ⟨rfl, hb17⟩
          have hB17 := hB16.trans (hb17.mono hB16.size)
          have st17 := st16.later hb17
          have Q17 := Q16.later hb17
          clear hb17 hB16 st16 Q16 hWo
          go_wp2_with fail
          refine (hDw _).mono ?_
          rintro e w18 ⟨s18, a18, n18, c18, b18, m18, d18, rfl, Q18, hb18⟩
          have ba := alloc_below (w := w18) (.cells #[.bool s18, .slice a18 n18 c18, .slice b18 m18 d18] 36)
          have hB18 := hB17.trans (hb18.mono hB17.size)
          have hB19 := hB18.trans (ba.mono hB18.size)
          have st18 := st_new w18 (.bool s18) (.slice a18 n18 c18) (.slice b18 m18 d18) 36
          have stv9 := (st17.later hb18).later ba
          have Q19 := Q18.later ba
          have Qv9 := (Q17.later hb18).later ba
          have hCm := rCmp_ok Q19 Qv9 hzw hvs (by omega) (ordR_zero.2 rfl)
          have hlt8 := (st17.later hb18).lt
          obtain ⟨w19, hw19⟩ : ∃ w19, w19 = w18.alloc (.cells #[.bool s18, .slice a18 n18 c18, .slice b18 m18 d18] 36) := ⟨_, rfl⟩
          obtain ⟨g19, hg19⟩ : ∃ g19, g19 = w18.heap.size := ⟨_, rfl⟩
          rw [← hw19] at st18 stv9 Q19 Qv9 hB19 hCm
          rw [← hg19] at st18
          obtain ⟨p0, p1, p2⟩ := st18.cells
          obtain ⟨q0, q1, q2⟩ := stv9.cells
          obtain ⟨u0, u1, u2⟩ := (st17.later hb18).cells
          clear hDw hb18 ba hB18 Q18 Q17 st17 hB17 hzw
          go_wp2_with fail
          rw [← hw19]
          clear hw19 hg19
          refine hCm.mono ?_
          rintro e w20 ⟨rfl, hb20⟩
          have hB20 := hB19.trans (hb20.mono hB19.size)
          go_wp2
          go_ret
          exact ⟨rfl, hB20⟩
  · have y0 : (n : Int) < (L : Int) := by omega
    clear HALL hn hLn
    by_cases hnx : (n : Int) < -x
    · go_wp2
      go_ret
      exact ⟨rfl, hB14⟩
    · have HV := HEX.out (by omega)
      have hnx2 : -x ≤ (n : Int) := by omega
      rw [HV] at hFx
      clear HV HEX hnx
      go_wp2_with fail
      refine (hFx _).mono ?_
      rintro e w16 ⟨TS, DS, rfl, hWo, hDw, hzw, hb16⟩
      have hB16 := hB14.trans (hb16.mono hB14.size)
      have st16 := stv3.later hb16
      have Q16 := Qv3.later hb16
      clear hb16 hB14 stv3 Qv3 hFx
      go_wp2_with fail
      refine (hWo _).mono ?_
      rintro e w17 ⟨rfl, hb17⟩
      have hB17 := hB16.trans (hb17.mono hB16.size)
      have st17 := st16.later hb17
      have Q17 := Q16.later hb17
      clear hb17 hB16 st16 Q16 hWo
      go_wp2_with fail
      refine (hDw _).mono ?_
      rintro e w18 ⟨s18, a18, n18, c18, b18, m18, d18, rfl, Q18, hb18⟩
      have ba := alloc_below (w := w18) (.cells #[.bool s18, .slice a18 n18 c18, .slice b18 m18 d18] 36)
      have hB18 := hB17.trans (hb18.mono hB17.size)
      have hB19 := hB18.trans (ba.mono hB18.size)
      have st18 := st_new w18 (.bool s18) (.slice a18 n18 c18) (.slice b18 m18 d18) 36
      have stv9 := (st17.later hb18).later ba
      have Q19 := Q18.later ba
      have Qv9 := (Q17.later hb18).later ba
      have hCm := rCmp_ok Q19 Qv9 hzw hvs (by omega) (ordR_zero.2 rfl)
      have hlt8 := (st17.later hb18).lt
      obtain ⟨w19, hw19⟩ : ∃ w19, w19 = w18.alloc (.cells #[.bool s18, .slice a18 n18 c18, .slice b18 m18 d18] 36) := ⟨_, rfl⟩
      obtain ⟨g19, hg19⟩ : ∃ g19, g19 = w18.heap.size := ⟨_, rfl⟩
      rw [← hw19] at st18 stv9 Q19 Qv9 hB19 hCm
      rw [← hg19] at st18
      obtain ⟨p0, p1, p2⟩ := st18.cells
      obtain ⟨q0, q1, q2⟩ := stv9.cells
      obtain ⟨u0, u1, u2⟩ := (st17.later hb18).cells
      clear hDw hb18 ba hB18 Q18 Q17 st17 hB17 hzw
      go_wp2_with fail
      rw [← hw19]
      clear hw19 hg19
      refine hCm.mono ?_
      rintro e w20 ⟨rfl, hb20⟩
      have hB20 := hB19.trans (hb20.mono hB19.size)
      go_wp2
      go_ret
      exact ⟨rfl, hB20⟩
set_option maxHeartbeats 1600000 in
theorem cuts_walk13 {b n0 : Int} (hu : U b) (i0 : -9223372036854775808 ≤ n0) (i1 : n0 ≤ 9223372036854775807) {w : World} :
    Calls Tryz.prog 3 #[.int .u64 b, .int .i64 n0] w fun r w' => r = .returned (.bool true) ∧ Below w.heap.size w w' := by
  by_cases hf : ef b = 2047
  · exact cuts_inf hu i0 i1 hf
  by_cases h0 : szA b = 0
  · exact cuts_zero hu i0 i1 hf h0
  exact cuts_pos hu i0 i1 hf h0
end Go.Proofs.YtcnkgkogjaiohabGreatDoor

