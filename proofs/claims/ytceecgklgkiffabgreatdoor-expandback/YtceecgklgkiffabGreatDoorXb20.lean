import Derived.Lib.IndexBytes
import Derived.Below
import Derived.BigQuiet
import Derived.ChangeOld
import Derived.Deep.DeepCutAuto
import Derived.Deep.DeepFit
import Derived.Deep.LoopGhost
import Derived.Deep.QuietTactic
import Derived.Deep.RegionHeld3
import Derived.Deep.RegionHeldLaw
import Derived.Deep.RegionLaw
import Derived.Deep.RegionWith
import Derived.Defers
import Derived.KernelRfl
import Derived.Laws.BitsAllLaws
import Derived.Laws.CopyRow
import Derived.Laws.EntriesVeiled
import Derived.Laws.IdiomCopy
import Derived.Laws.IdiomRangeMap
import Derived.Laws.IdiomStrings
import Derived.Laws.RangeAny
import Derived.Laws.Strings3
import Derived.Lib.AtoiErrMem
import Derived.Lib.BytesEntry
import Derived.Lib.ConvBytes
import Derived.Lib.MakeNoZero
import Derived.Lib.OthersKept
import Derived.Lib.Strings
import Derived.Lib.TrimByte
import Derived.Lib.Walk
import Derived.OpenShut
import Derived.Orders
import Derived.OwnWalk
import Derived.ProofKit
import Derived.Recover
import Derived.Scope
import Derived.ShutString
import Derived.WalkKit
import Derived.WalkLawsBesides
import Derived.WalkMore
import Derived.WalkSpells
import Derived.Test.YtceecgklgkiffabGreatDoorXb9
import Derived.Test.YtceecgklgkiffabGreatDoorXb13
import Derived.Test.YtceecgklgkiffabGreatDoorXb14
import Derived.Test.YtceecgklgkiffabGreatDoorXb17
import Derived.Test.YtceecgklgkiffabGreatDoorXb19
/- Layer 13: the statements' own helpers: finite, size, without; radix.Parse of digits. -/
namespace Go.Proofs.YtceecgklgkiffabGreatDoor
open Go.ChangeShapes Go.WideShapes Go.ChangeAt Go.RowKit
open Na Ar Ep
set_option linter.unusedVariables false
namespace Ep
theorem ef_mg (b : Int) : ef (mg b) = ef b := by unfold ef mg; rw [Int.emod_emod_of_dvd _ (by omega)]
theorem fr_mg (b : Int) : fr (mg b) = fr b := by have a := mg_parts b; have c := mg_parts (mg b); have d := ef_mg b; have : mg (mg b) = mg b := by unfold mg; omega
                                                 omega
theorem numW_mg (b : Int) : numW (mg b) = numW b := by
  unfold numW spM spX
  rw [ef_mg, fr_mg]
theorem szA_mg (b : Int) : szA (mg b) = szA b := by unfold szA; rw [numW_mg]
theorem dgt_dg {m X i : Nat} (h : i < m) : dgt ⟨(dg m X).toArray⟩ i = ((X / 10 ^ (m - 1 - i) % 10 : Nat) : Int) := by
  have hd : X / 10 ^ (m - 1 - i) % 10 < 10 := Nat.mod_lt _ (by omega)
  unfold dgt
  rw [byte_list]
  show valN (((dg m X).getD i 0).toNat : Int) = _
  rw [List.getD_eq_getElem?_getD, dg_at h]
  show valN ((UInt8.ofNat (48 + X / 10 ^ (m - 1 - i) % 10)).toNat : Int) = _
  rw [dch_nat hd]
  generalize X / 10 ^ (m - 1 - i) % 10 = d at *
  unfold valN
  rw [if_pos (by omega)]
  omega
theorem numB_dg {m X : Nat} : ∀ i, i ≤ m → X < 10 ^ m → numB ⟨(dg m X).toArray⟩ 10 i = ((X / 10 ^ (m - i) : Nat) : Int) := by
  intro i
  induction i with
  | zero =>
    intro _ hX
    rw [Nat.sub_zero, Nat.div_eq_of_lt hX]
    rfl
  | succ i ih =>
    intro hi hX
    have e : numB ⟨(dg m X).toArray⟩ 10 (i + 1) = numB ⟨(dg m X).toArray⟩ 10 i * 10 + dgt ⟨(dg m X).toArray⟩ i := rfl
    rw [e, ih (by omega) hX, dgt_dg (by omega)]
    have h1 : m - i = (m - (i + 1)) + 1 := by omega
    have h2 : m - 1 - i = m - (i + 1) := by omega
    rw [h1, h2, Nat.pow_succ, ← Nat.div_div_eq_div_mul]
    generalize X / 10 ^ (m - (i + 1)) = y
    omega
end Ep
theorem finite13_any {b : Int} (hu : U b) (w : World) : Calls Tryz.prog 7 #[.int .u64 b] w fun e w' => e = .returned (.bool (decide (ef b ≠ 2047))) ∧ w' = w := by
  have hK := fun w => f6Class_any hu w
  have HZ : Hid (decide (clsW b < 3) = decide (ef b ≠ 2047)) := by
    refine decide_eq_decide.2 ?_
    unfold clsW
    by_cases h : ef b = 2047
    · rw [if_pos h]
      split <;> omega
    · rw [if_neg h]
      refine ⟨fun _ => h, fun _ => ?_⟩
      split
      · split <;> omega
      · omega
  have hb3 : -10 ≤ clsW b ∧ clsW b ≤ 10 := by unfold clsW; split <;> split <;> (try split) <;> omega
  generalize clsW b = K at *
  go_enter Tryz.func7, Tryz.ntmps7
  go_wp2_with (refine (hK _).mono ?_; rintro e w' ⟨rfl, rfl⟩)
  go_ret
  exact ⟨by rw [← HZ.out]; rfl, rfl⟩
theorem size13_any {b : Int} (hu : U b) (w : World) : Calls Tryz.prog 12 #[.int .u64 b] w fun e w' => e = .returned (.int .u64 (mg b)) ∧ w' = w := by
  have hs := size_bits hu
  go_enter Tryz.func12, Tryz.ntmps12
  go_wp2
  go_ret
  exact ⟨rfl, rfl⟩
theorem parse13_any {m X : Nat} (hm : 1 ≤ m) (hm9 : m ≤ 4000) (hX : X < 10 ^ m) (w : World) :
    Calls Tryz.prog 9 #[.string ⟨(dg m X).toArray⟩, .int .i64 10] w fun e w' => ∃ a n c ls, e = .returned (.tuple #[.slice a n c, .nilIface]) ∧ RowC w' a n c ls ∧ (Nm ls (X : Int) ∧ n ≤ 4000) ∧ Below w.heap.size w w' := by
  have hs : (⟨(dg m X).toArray⟩ : ByteArray).size = m := by rw [Lib.size_eq]; exact dg_len m X
  have hd : ∀ i, i < (⟨(dg m X).toArray⟩ : ByteArray).size → dgt ⟨(dg m X).toArray⟩ i < 10 := fun i hi => by
    rw [hs] at hi
    rw [dgt_dg hi]
    have := Nat.mod_lt (X / 10 ^ (m - 1 - i)) (show 0 < 10 by omega)
    omega
  have hp := parse_good ⟨(dg m X).toArray⟩ 10 (by omega) (by omega) (by omega) (by omega) hd w
  have hl := numB_len (s := ⟨(dg m X).toArray⟩) (b := 10) (n := m) (by omega) (by omega) (fun i hi => hd i (by omega))
  have hn := numB_dg (m := m) (X := X) m (Nat.le_refl _) hX
  rw [Nat.sub_self, Nat.pow_zero, Nat.div_one] at hn
  rw [hs, hn] at hp
  rw [hn] at hl
  refine hp.mono ?_
  rintro e w' (⟨_, v, rfl, ho, hb⟩ | ⟨h, _⟩)
  · obtain ⟨a, c, rfl, hr⟩ := ho.readsC
    exact ⟨a, _, c, _, rfl, hr, ⟨⟨Dg_words _, num_words (by omega), by omega⟩, by omega⟩, hb⟩
  · omega
end Go.Proofs.YtceecgklgkiffabGreatDoor

/- Layer 13: the statements' decimal: digits and an exponent as a Rat. -/
namespace Go.Proofs.YtceecgklgkiffabGreatDoor
open Go.ChangeShapes Go.WideShapes Go.ChangeAt Go.RowKit
open Na Ar Ep
set_option linter.unusedVariables false
namespace Ep
def dcN (X : Nat) (e : Int) : Int := (X : Int) * 10 ^ e.toNat
def dcD (e : Int) : Int := 10 ^ (-e).toNat
/-- digits and an exponent, as a number -/
def dcR (X : Nat) (e : Int) : Rat := mkR false (dcN X e) (dcD e)
theorem ten13_big : Nat.blt ((10 : Nat) ^ (4000 : Nat)) ((18446744073709551616 : Nat) ^ (210 : Nat)) = true := by kernel_rfl
theorem ten13_lt {n : Nat} (h : n ≤ 4000) : Lt ((10 : Int) ^ n) 210 := pow_lt (b := 10) (m := 4000) (by omega) ten13_big h
theorem X13_lt {m X : Nat} (hm : m ≤ 4000) (hX : X < 10 ^ m) : Lt (X : Int) 210 := (ten13_lt hm).le (by omega) (by
  have : ((X : Nat) : Int) < ((10 ^ m : Nat) : Int) := by exact_mod_cast hX
  rw [Int.natCast_pow] at this
  exact Int.le_of_lt this)
theorem dcD_pos (e : Int) : 0 < dcD e := Int.pow_pos (by omega)
theorem dc_size {m X : Nat} {e : Int} (hm : m ≤ 4000) (hX : X < 10 ^ m) (h0 : -4000 ≤ e) (h1 : e ≤ 4000) : Lt (dcN X e) (210 + 210) ∧ Lt (dcD e) (210 + 210) ∧ Sz (dcR X e) (210 + 210) := by
  have a : Lt ((X : Int) * 10 ^ e.toNat) (210 + 210) := (X13_lt hm hX).mul (ten13_lt (by omega))
  have b : Lt ((10 : Int) ^ (-e).toNat) (210 + 210) := (ten13_lt (n := (-e).toNat) (by omega)).mono (by omega)
  exact ⟨a, b, Sz.mkR a b (dcD_pos e)⟩
end Ep
theorem ten13_any {k : Nat} {K : Int} (hK : K = k) (h : k ≤ 4000) (w : World) :
    Calls Tryz.prog 30 #[.int .i64 K] w fun e w' => ∃ a l c ls, e = .returned (.tuple #[.slice a l c, .int .i64 0]) ∧ RowC w' a l c ls ∧ Nm ls (10 ^ k) ∧ l ≤ 500 ∧ Below w.heap.size w w' := by
  subst hK
  have f := ten_any (k : Int) (by omega) (by omega) w
  have E1 : pwE 78913 (k : Int) = 0 := by unfold pwE; rw [if_neg (by omega), if_neg (by omega)]
  have E2 : pwL 10 78913 (k : Int) = words (10 ^ k) := by unfold pwL; rw [if_neg (by omega), if_neg (by omega), Int.toNat_natCast]
  rw [E1, E2] at f
  refine f.mono ?_
  rintro e w' ⟨v, rfl, ho, hb⟩
  obtain ⟨a, l, c, ls, rfl, hr, hn, hq⟩ := ho.opens (ten13_lt h) (by omega)
  have e1 := hr.1.1
  have e2 : ls = words (10 ^ k) := hq.out
  have e3 := (ten13_lt h).len
  rw [← e2] at e3
  exact ⟨a, l, c, ls, rfl, hr, hn, by omega, hb⟩
set_option maxHeartbeats 3200000 in
set_option maxRecDepth 100000 in
theorem dec13_neg {m X : Nat} {e : Int} (hm : 1 ≤ m) (hm9 : m ≤ 4000) (hX : X < 10 ^ m) (he0 : -2000 ≤ e) (he1 : e < 0) (w : World) :
    Calls Tryz.prog 10 #[.string ⟨(dg m X).toArray⟩, .int .i64 e] w fun r w' => ∃ s v1 v2, r = .returned (.tuple #[.agg #[.bool s, v1, v2], .bool true]) ∧ RtO w' w.heap.size s v1 v2 (dcR X e) ∧ Below w.heap.size w w' := by
  obtain ⟨l1, l2, -⟩ := dc_size hm9 hX (e := e) (by omega) (by omega)
  have hT := fun w => ten13_any (k := (-e).toNat) (K := -e) (by omega) (by omega) w
  have hP := fun w => parse13_any hm hm9 hX w
  have hXl := (X13_lt hm9 hX).len
  have pD := dcD_pos e
  have eD : (10 : Int) ^ (-e).toNat = dcD e := rfl
  have eN : dcN X e = (X : Int) := by unfold dcN; rw [show e.toNat = 0 by omega]; simp
  unfold dcR
  rw [eN] at l1 ⊢
  rw [eD] at hT
  generalize dcD e = D at *
  generalize dg m X = DL at *
  clear eD eN hX hm
  have t0 := st_new w (.bool false) (.slice none 0 0) (.slice none 0 0) 36
  have hb0 := alloc_below (w := w) (.cells #[.bool false, .slice none 0 0, .slice none 0 0] 36)
  obtain ⟨g, hg⟩ : ∃ g, g = w.heap.size := ⟨_, rfl⟩
  have HG : Hid (w.heap.size = g) := hg.symm
  obtain ⟨w0, hw0⟩ : ∃ w0, w0 = w.alloc (.cells #[.bool false, .slice none 0 0, .slice none 0 0] 36) := ⟨_, rfl⟩
  rw [← hw0] at t0 hb0
  rw [← hg] at t0
  go_enter Tryz.func10, Tryz.ntmps10
  go_wp2_with fail
  rw [← hw0, ← hg]
  refine (hP w0).mono ?_
  rintro r w1 ⟨a1, n1, c1, ls1, rfl, r1, ⟨m1, ln1⟩, hb1⟩
  have B1 := hb0.trans (hb1.mono hb0.size)
  have t1 := t0.later hb1
  clear hP hw0 hg hb0 hb1 t0
  have b2 := alloc_below (w := w1) (.cells #[.int .u64 1] 22)
  have B2 := B1.trans (b2.mono B1.size)
  have t2 := t1.later b2
  have r2 := r1.later b2
  go_wp2_with fail
  refine (hT _).mono ?_
  rintro r w3 ⟨a3, n3, c3, ls3, rfl, r3, m3, q3, hb3⟩
  have B3 := B2.trans (hb3.mono B2.size)
  have t3 := t2.later hb3
  have r4 := r2.later hb3
  have hN := rNew_ok (neg := false) r4 r3 m1 m3 pD (l1.mono (by omega)) (l2.mono (by omega)) (by omega) (by omega)
  clear hT b2 B1 B2 t1 t2 r1 r2 hb3
  go_wp2_with fail
  refine hN.mono ?_
  rintro r w5 ⟨s5, v1, v2, rfl, R5, hb5⟩
  obtain ⟨a5, n5, c5, b5, m5, d5, rfl, rfl, -⟩ := R5.opens
  have B5 := B3.trans (hb5.mono B3.size)
  have t5 := t3.later hb5
  have hg5 : g < w3.heap.size := t3.lt
  obtain ⟨y0, y1, y2⟩ := t5.cells
  obtain ⟨f0, f1, f2⟩ := t5.frozen
  have hg6 : g < w5.heap.size := t5.lt
  have t6 := t5.set (.bool s5) (.slice a5 n5 c5) (.slice b5 m5 d5)
  have hin := in3 w5 g (.bool s5) (.slice a5 n5 c5) (.slice b5 m5 d5)
  have R6 := R5.inn hin hg5
  have B6 := below_in B5 hin (by rw [HG.out]; omega) (Nat.le_refl _)
  have ba := alloc_below (w := (((w5.setCell ⟨g, 0, none⟩ (.bool s5)).setCell ⟨g, 1, none⟩ (.slice a5 n5 c5)).setCell ⟨g, 2, none⟩ (.slice b5 m5 d5))) (.cells #[.bool s5, .slice a5 n5 c5, .slice b5 m5 d5] 36)
  have st9 := (t6.later ba).cells
  have R7 := R6.later ba
  have B7 := B6.trans (ba.mono B6.size)
  have hlow : w.heap.size ≤ w3.heap.size := B3.size
  clear hN hb5 B3 t3 r3 r4 m1 m3 R5 B5 t5 t6 hin R6 B6 ba
  go_wp2
  refine bodyPost_ret (v := .tuple #[.agg #[.bool s5, .slice a5 n5 c5, .slice b5 m5 d5], .bool true]) (by simp [results, Tryz.results10, go_sem, st9]) rfl ?_
  exact ⟨_, _, _, rfl, R7.lower hlow, B7⟩
set_option maxHeartbeats 3200000 in
set_option maxRecDepth 100000 in
theorem dec13_pos {m X : Nat} {e : Int} (hm : 1 ≤ m) (hm9 : m ≤ 4000) (hX : X < 10 ^ m) (he0 : 0 ≤ e) (he1 : e ≤ 2000) (w : World) :
    Calls Tryz.prog 10 #[.string ⟨(dg m X).toArray⟩, .int .i64 e] w fun r w' => ∃ s v1 v2, r = .returned (.tuple #[.agg #[.bool s, v1, v2], .bool true]) ∧ RtO w' w.heap.size s v1 v2 (dcR X e) ∧ Below w.heap.size w w' := by
  obtain ⟨l1, l2, -⟩ := dc_size hm9 hX (e := e) (by omega) (by omega)
  have hT := fun w => ten13_any (k := e.toNat) (K := e) (by omega) (by omega) w
  have lX := X13_lt hm9 hX
  have hP := fun w => parse13_any hm hm9 hX w
  have hXl := (X13_lt hm9 hX).len
  have eD : dcD e = 1 := by unfold dcD; rw [show (-e).toNat = 0 by omega]; rfl
  have eN : dcN X e = (X : Int) * 10 ^ e.toNat := rfl
  unfold dcR
  rw [eD]
  rw [eN] at l1 ⊢
  generalize (10 : Int) ^ e.toNat = D at *
  generalize dg m X = DL at *
  clear eD eN hX hm
  have t0 := st_new w (.bool false) (.slice none 0 0) (.slice none 0 0) 36
  have hb0 := alloc_below (w := w) (.cells #[.bool false, .slice none 0 0, .slice none 0 0] 36)
  obtain ⟨g, hg⟩ : ∃ g, g = w.heap.size := ⟨_, rfl⟩
  have HG : Hid (w.heap.size = g) := hg.symm
  obtain ⟨w0, hw0⟩ : ∃ w0, w0 = w.alloc (.cells #[.bool false, .slice none 0 0, .slice none 0 0] 36) := ⟨_, rfl⟩
  rw [← hw0] at t0 hb0
  rw [← hg] at t0
  go_enter Tryz.func10, Tryz.ntmps10
  go_wp2_with fail
  rw [← hw0, ← hg]
  refine (hP w0).mono ?_
  rintro r w1 ⟨a1, n1, c1, ls1, rfl, r1, ⟨m1, ln1⟩, hb1⟩
  have B1 := hb0.trans (hb1.mono hb0.size)
  have t1 := t0.later hb1
  clear hP hw0 hg hb0 hb1 t0
  have b2 := alloc_below (w := w1) (.cells #[.int .u64 1] 22)
  have B2 := B1.trans (b2.mono B1.size)
  have t2 := t1.later b2
  have r2 := r1.later b2
  go_wp2_with fail
  refine (hT _).mono ?_
  rintro r w3 ⟨a3, n3, c3, ls3, rfl, r3, m3, q3, hb3⟩
  have B3 := B2.trans (hb3.mono B2.size)
  have t3 := t2.later hb3
  have r4 := r2.later hb3
  have hM := mulQ r4 r3 m1 m3 l1 (by omega)
  have one1 := (rowC_one w1 1 22).later hb3
  clear hT b2 B1 B2 t1 t2 r1 r2 hb3
  go_wp2_with fail
  refine hM.mono ?_
  rintro r w4 ⟨a4, n4, c4, l4, rfl, r5, m5', h4, hb4⟩
  have e4 := r5.1.1
  have e5 := l1.len
  rw [← show l4 = words (X * D) from h4.out] at e5
  have B4 := B3.trans (hb4.mono B3.size)
  have t4 := t3.later hb4
  have one2 := one1.later hb4
  have nm1 : Nm [1] 1 := ⟨Dg.one ⟨by omega, by omega⟩, by simp [num, val], by simp⟩
  have hN := rNew_ok (neg := false) r5 one2 m5' nm1 (by omega) (l1.mono (by omega)) ((Lt.word (x := 1) (by omega)).mono (by omega)) (by omega) (by omega)
  clear hM hb4 t3 one1 r3 r4 m1 m3
  go_wp2_with fail
  refine hN.mono ?_
  rintro r w5 ⟨s5, v1, v2, rfl, R5, hb5⟩
  obtain ⟨a5, n5, c5, b5, m5, d5, rfl, rfl, -⟩ := R5.opens
  have B5 := B4.trans (hb5.mono B4.size)
  have t5 := t4.later hb5
  have hg5 : g < w4.heap.size := t4.lt
  obtain ⟨y0, y1, y2⟩ := t5.cells
  obtain ⟨f0, f1, f2⟩ := t5.frozen
  have hg6 : g < w5.heap.size := t5.lt
  have t6 := t5.set (.bool s5) (.slice a5 n5 c5) (.slice b5 m5 d5)
  have hin := in3 w5 g (.bool s5) (.slice a5 n5 c5) (.slice b5 m5 d5)
  have R6 := R5.inn hin hg5
  have B6 := below_in B5 hin (by rw [HG.out]; omega) (Nat.le_refl _)
  have ba := alloc_below (w := (((w5.setCell ⟨g, 0, none⟩ (.bool s5)).setCell ⟨g, 1, none⟩ (.slice a5 n5 c5)).setCell ⟨g, 2, none⟩ (.slice b5 m5 d5))) (.cells #[.bool s5, .slice a5 n5 c5, .slice b5 m5 d5] 36)
  have st9 := (t6.later ba).cells
  have R7 := R6.later ba
  have B7 := B6.trans (ba.mono B6.size)
  have hlow : w.heap.size ≤ w4.heap.size := B4.size
  clear hN hb5 B3 B4 t4 r5 one2 m5' nm1 R5 B5 t5 t6 hin R6 B6 ba
  go_wp2
  refine bodyPost_ret (v := .tuple #[.agg #[.bool s5, .slice a5 n5 c5, .slice b5 m5 d5], .bool true]) (by simp [results, Tryz.results10, go_sem, st9]) rfl ?_
  exact ⟨_, _, _, rfl, R7.lower hlow, B7⟩
theorem dec13_any {m X : Nat} {e : Int} (hm : 1 ≤ m) (hm9 : m ≤ 4000) (hX : X < 10 ^ m) (he0 : -2000 ≤ e) (he1 : e ≤ 2000) (w : World) :
    Calls Tryz.prog 10 #[.string ⟨(dg m X).toArray⟩, .int .i64 e] w fun r w' => ∃ s a n c b m f, r = .returned (.tuple #[.agg #[.bool s, .slice a n c, .slice b m f], .bool true]) ∧ Rt w' s a n c b m f (dcR X e) ∧ Below w.heap.size w w' := by
  have key : Calls Tryz.prog 10 #[.string ⟨(dg m X).toArray⟩, .int .i64 e] w fun r w' => ∃ s v1 v2, r = .returned (.tuple #[.agg #[.bool s, v1, v2], .bool true]) ∧ RtO w' w.heap.size s v1 v2 (dcR X e) ∧ Below w.heap.size w w' := by
    by_cases h : e < 0
    · exact dec13_neg hm hm9 hX he0 h w
    · exact dec13_pos hm hm9 hX (by omega) he1 w
  refine key.mono ?_
  rintro r w' ⟨s, v1, v2, rfl, R, hb⟩
  obtain ⟨a, n, c, b, m, f, rfl, rfl, q⟩ := R.opens
  exact ⟨s, a, n, c, b, m, f, rfl, q, hb⟩
end Go.Proofs.YtceecgklgkiffabGreatDoor

/- Layer 13: the numbers of ExpandCuts. -/
namespace Go.Proofs.YtceecgklgkiffabGreatDoor
open Go.ChangeShapes Go.WideShapes Go.ChangeAt Go.RowKit
open Na Ar Ep
set_option linter.unusedVariables false
namespace Ep
def u1024 : Nat := 1024
def u309 : Nat := 309
def u324 : Nat := 324
theorem two_ten : Nat.blt ((2 : Nat) ^ u1024) ((10 : Nat) ^ u309) = true := by kernel_rfl
theorem two_ten2 : Nat.blt ((2 : Nat) ^ dX) ((10 : Nat) ^ u324) = true := by kernel_rfl
theorem pow10_lt {a b : Nat} (h : 10 ^ a < 10 ^ b) : a < b := (Nat.pow_lt_pow_iff_right (by omega)).1 h
theorem szA_top {b : Int} (hu : U b) (hf : ef b ≠ 2047) : szA b < 2 ^ u1024 * dT := by
  obtain ⟨P, e1, e2', e3, e4, e5, e6, e7⟩ := num_parts hu hf
  obtain ⟨m, hm⟩ := Int.eq_ofNat_of_zero_le e3
  have hA : szA b = m * 2 ^ P := by
    unfold szA
    rw [e7, hm]
    have : ((m : Int) * 2 ^ P) = ((m * 2 ^ P : Nat) : Int) := by push_cast; rfl
    rw [this]
    rfl
  have hm53 : m < 2 ^ 53 := by omega
  have hd : dX = 1074 := rfl
  have h1 : u1024 = 1024 := rfl
  unfold dT
  rw [hA, ← Nat.pow_add]
  have hp : 2 ^ 53 * 2 ^ P ≤ 2 ^ (u1024 + dX) := by
    rw [← Nat.pow_add]
    exact Nat.pow_le_pow_right (by omega) (by omega)
  have := (Nat.mul_lt_mul_right (a := 2 ^ P) (Nat.pow_pos (by omega))).2 hm53
  omega
theorem dec_top {b : Int} (hu : U b) (hf : ef b ≠ 2047) {N L : Nat} {x : Int} (h : Dec (szA b) N L x) : (L : Int) + x ≤ 309 ∧ -324 < (L : Int) + x := by
  have hA0 : 1 ≤ szA b := by
    rcases Nat.eq_zero_or_pos (szA b) with q | q
    · exfalso
      have := h.eq
      rw [q, Nat.zero_mul] at this
      have hN : 0 < N := by
        have := h.lo
        have := Nat.pow_pos (n := L - 1) (show 0 < 10 by omega)
        omega
      have := Nat.mul_pos (Nat.mul_pos hN (Nat.pow_pos (n := x.toNat) (show 0 < 10 by omega))) dT_pos
      omega
    · exact q
  have hA := szA_top hu hf
  have heq := h.eq
  have hlo := h.lo
  have hhi := h.hi
  have hL := h.L1
  generalize szA b = A at *
  have hT := dT_pos
  have t1 : 2 ^ u1024 < 10 ^ u309 := by have := two_ten; simpa [Nat.blt_eq] using this
  have t2 : dT < 10 ^ u324 := by have := two_ten2; unfold dT; simpa [Nat.blt_eq] using this
  have h3 : u309 = 309 := rfl
  have h4 : u324 = 324 := rfl
  obtain ⟨xp, hxp⟩ : ∃ xp, xp = x.toNat := ⟨_, rfl⟩
  obtain ⟨xn, hxn⟩ : ∃ xn, xn = (-x).toNat := ⟨_, rfl⟩
  rw [← hxp, ← hxn] at heq
  have hx : x = (xp : Int) - (xn : Int) := by omega
  have pn : 0 < 10 ^ xn := Nat.pow_pos (by omega)
  have pp : 0 < 10 ^ xp := Nat.pow_pos (by omega)
  constructor
  · -- N * 10^xp * dT = A * 10^xn < 2^1024 * dT * 10^xn
    have a1 : N * 10 ^ xp * dT < 10 ^ u309 * 10 ^ xn * dT := by
      rw [heq]
      have b1 : A * 10 ^ xn < 2 ^ u1024 * dT * 10 ^ xn := (Nat.mul_lt_mul_right pn).2 hA
      have b2 : 2 ^ u1024 * (dT * 10 ^ xn) ≤ 10 ^ u309 * (dT * 10 ^ xn) := Nat.mul_le_mul_right _ (by omega)
      have e1 : 2 ^ u1024 * dT * 10 ^ xn = 2 ^ u1024 * (dT * 10 ^ xn) := Nat.mul_assoc _ _ _
      have e2 : 10 ^ u309 * 10 ^ xn * dT = 10 ^ u309 * (dT * 10 ^ xn) := by rw [Nat.mul_assoc, Nat.mul_comm (10 ^ xn)]
      omega
    have a2 : N * 10 ^ xp < 10 ^ u309 * 10 ^ xn := Nat.lt_of_mul_lt_mul_right a1
    have a3 : 10 ^ (L - 1) * 10 ^ xp ≤ N * 10 ^ xp := Nat.mul_le_mul_right _ hlo
    rw [← Nat.pow_add] at a2 a3
    have a4 := pow10_lt (Nat.lt_of_le_of_lt a3 a2)
    omega
  · have a1 : 10 ^ xn ≤ A * 10 ^ xn := Nat.le_mul_of_pos_left _ hA0
    have a2 : N * 10 ^ xp * dT < 10 ^ L * 10 ^ xp * 10 ^ u324 := by
      have c1 : N * 10 ^ xp < 10 ^ L * 10 ^ xp := (Nat.mul_lt_mul_right pp).2 hhi
      exact Nat.mul_lt_mul_of_lt_of_le c1 (Nat.le_of_lt t2) (Nat.pow_pos (by omega))
    rw [heq, ← Nat.pow_add, ← Nat.pow_add] at a2
    have a4 := pow10_lt (Nat.lt_of_le_of_lt a1 a2)
    omega
end Ep
end Go.Proofs.YtceecgklgkiffabGreatDoor

/- Layer 13: the walk of ExpandWhole. -/
namespace Go.Proofs.YtceecgklgkiffabGreatDoor
open Go.ChangeShapes Go.WideShapes Go.ChangeAt Go.RowKit
open Na Ar Ep
set_option linter.unusedVariables false
namespace Ep
theorem dT_cast : ((dT : Nat) : Int) = e2 1074 := by
  have h : (1074 : Int) = ((dX : Nat) : Int) := rfl
  rw [h, e2_nat]
  unfold dT
  rw [Int.natCast_pow]
  rfl
theorem mg_low {b : Int} (hf : ef b ≠ 2047) : 0 ≤ mg b ∧ mg b ≤ mostP := by
  have a := mg_bd b
  have c := mg_parts b
  have d := ef_bd b
  have e := fr_bd b
  have m : mostP = 9218868437227405311 := rfl
  omega
end Ep
end Go.Proofs.YtceecgklgkiffabGreatDoor

/- Layer 13: the ends as decimals; spanOf. -/
namespace Go.Proofs.YtceecgklgkiffabGreatDoor
open Go.ChangeShapes Go.WideShapes Go.ChangeAt Go.RowKit
open Na Ar Ry Ep
set_option linter.unusedVariables false
namespace Ep
theorem two_div : ∀ (k d : Nat), d ∣ 2 ^ k → ∃ p, p ≤ k ∧ d = 2 ^ p
  | 0, d, h => ⟨0, Nat.le_refl _, by simpa using h⟩
  | k + 1, d, h => by
    rcases Nat.mod_two_eq_zero_or_one d with q | q
    · obtain ⟨c, hdc⟩ : ∃ c, d = 2 * c := ⟨d / 2, by omega⟩
      subst hdc
      obtain ⟨p, h1, h2⟩ := two_div k c (by
        rw [Nat.pow_succ, Nat.mul_comm] at h
        exact Nat.dvd_of_mul_dvd_mul_right (show 0 < 2 by omega) h)
      exact ⟨p + 1, by omega, by rw [h2, Nat.pow_succ, Nat.mul_comm]⟩
    · have hc : Nat.Coprime d 2 := by
        unfold Nat.Coprime
        have h1 : Nat.gcd d 2 ∣ 2 := Nat.gcd_dvd_right _ _
        have h2 : Nat.gcd d 2 ∣ d := Nat.gcd_dvd_left _ _
        have h3 : Nat.gcd d 2 ≤ 2 := Nat.le_of_dvd (by omega) h1
        have h4 : Nat.gcd d 2 ≠ 2 := fun e => by rw [e] at h2; omega
        have h5 : Nat.gcd d 2 ≠ 0 := fun e => by rw [e] at h1; omega
        omega
      rw [Nat.pow_succ] at h
      obtain ⟨p, h1, h2⟩ := two_div k d (hc.dvd_of_dvd_mul_right h)
      exact ⟨p, by omega, h2⟩
def u1075 : Nat := 1075
theorem dT2 : 2 ^ u1075 = 2 * dT := by
  unfold dT u1075
  rw [show (1075 : Nat) = dX + 1 from rfl, Nat.pow_succ, Nat.mul_comm]
theorem twoE : (2 * e2 1074 : Int) = ((2 * dT : Nat) : Int) := by
  rw [Int.natCast_mul, dT_cast]
  rfl
/-- an end as a fraction -/
theorem end_parts {A : Nat} (hA : 0 < A) {q : Rat} (hq : q = mkR false (A : Int) (2 * e2 1074)) : ∃ p, p ≤ 1075 ∧ (q.den : Int) = 2 ^ p ∧ 0 < q.num.natAbs ∧ q.num.natAbs * (2 * dT) = A * 2 ^ p := by
  have hB : (0 : Int) < 2 * e2 1074 := by have := e2_pos 1074; omega
  have hc := mkR_cross false (A := (A : Int)) (B := 2 * e2 1074) (by omega) hB
  have hn := (mkR_abs (s := false) (A := (A : Int)) (B := 2 * e2 1074) (by omega) hB).2.2
  rw [← hq] at hc hn
  have hs : sg false (A : Int) = (A : Int) := rfl
  rw [hs, twoE] at hc
  obtain ⟨n, hn'⟩ := Int.eq_ofNat_of_zero_le (show 0 ≤ q.num by omega)
  rw [hn'] at hc
  have hc' : n * (2 * dT) = A * q.den := by exact_mod_cast hc
  have hna : q.num.natAbs = n := by rw [hn']; rfl
  have hcop : Nat.Coprime q.den n := by have := q.reduced; rw [hna] at this; exact this.symm
  have hdv : q.den ∣ 2 ^ u1075 := by
    rw [dT2]
    exact hcop.dvd_of_dvd_mul_left ⟨A, by rw [hc', Nat.mul_comm]⟩
  obtain ⟨p, h1, h2⟩ := two_div _ _ hdv
  have hden : 0 < q.den := q.den_pos
  have hn0 : 0 < n := by
    rcases Nat.eq_zero_or_pos n with z | z
    · rw [z, Nat.zero_mul] at hc'
      have := Nat.mul_pos hA hden
      omega
    · exact z
  exact ⟨p, h1, by rw [h2]; push_cast; rfl, by omega, by rw [hna, hc', h2]⟩
theorem dec_cross {B N L i j : Nat} (h : N * 10 ^ i * dT = B * 10 ^ j) (h1 : 1 ≤ L) (h2 : 10 ^ (L - 1) ≤ N) (h3 : N < 10 ^ L) (h4 : N % 10 ≠ 0) : Dec B N L ((i : Int) - (j : Int)) := by
  refine ⟨?_, h1, h2, h3, h4⟩
  by_cases q : j ≤ i
  · obtain ⟨k, rfl⟩ : ∃ k, i = k + j := ⟨i - j, by omega⟩
    have a1 : (((k + j : Nat) : Int) - (j : Int)).toNat = k := by omega
    have a2 : (-(((k + j : Nat) : Int) - (j : Int))).toNat = 0 := by omega
    rw [a1, a2, Nat.pow_zero, Nat.mul_one]
    have p : 0 < 10 ^ j := Nat.pow_pos (by omega)
    apply Nat.eq_of_mul_eq_mul_right p
    rw [← h, Nat.pow_add]
    generalize dT = t
    ac_rfl
  · obtain ⟨k, rfl⟩ : ∃ k, j = k + i := ⟨j - i, by omega⟩
    have a1 : ((i : Int) - ((k + i : Nat) : Int)).toNat = 0 := by omega
    have a2 : (-((i : Int) - ((k + i : Nat) : Int))).toNat = k := by omega
    rw [a1, a2, Nat.pow_zero, Nat.mul_one]
    have p : 0 < 10 ^ i := Nat.pow_pos (by omega)
    apply Nat.eq_of_mul_eq_mul_right p
    have e1 : N * dT * 10 ^ i = N * 10 ^ i * dT := by generalize dT = t; ac_rfl
    rw [e1, h, Nat.pow_add]
    ac_rfl
/-- the digits of an end -/
theorem end_dec {A p M N L k : Nat} (h : M * (2 * dT) = A * 2 ^ p) (h5 : M * 5 ^ p = N * 10 ^ k) (h1 : 1 ≤ L) (h2 : 10 ^ (L - 1) ≤ N) (h3 : N < 10 ^ L) (h4 : N % 10 ≠ 0) : Dec (5 * A) N L ((k : Int) - (p : Int) + 1) := by
  have e10 : (10 : Nat) ^ p = 5 ^ p * 2 ^ p := by rw [← Nat.mul_pow]
  have main : N * 10 ^ (k + 1) * dT = 5 * A * 10 ^ p := by
    generalize dT = t at *
    have e1 : N * 10 ^ (k + 1) * t = 5 * (N * 10 ^ k * (2 * t)) := by rw [Nat.pow_succ]; grind
    rw [e1, ← h5]
    have e2 : M * 5 ^ p * (2 * t) = 5 ^ p * (M * (2 * t)) := by ac_rfl
    rw [e2, h, e10]
    ac_rfl
  have := dec_cross main h1 h2 h3 h4
  rw [show (k : Int) - (p : Int) + 1 = ((k + 1 : Nat) : Int) - (p : Int) by omega]
  exact this
end Ep
theorem decEnd_any {w : World} {s : Bool} {a b : Option Addr} {n c m d A : Nat} {q : Rat} (hR : Rt w s a n c b m d q) (hz : Sz q 20) (hA : 0 < A) (hq : q = mkR false (A : Int) (2 * e2 1074)) :
    Calls Tryz.prog 48 #[.agg #[.bool s, .slice a n c, .slice b m d]] w fun e w' => ∃ (B c' N L : Nat) (x : Int), e = .returned (.agg #[.slice (some ⟨B, 0, none⟩) L c', .int .i64 x]) ∧ Rb w' (some ⟨B, 0, none⟩) L c' (dg L N) ∧ Dec (5 * A) N L (x + 1) ∧ (L ≤ 1300 ∧ -1100 ≤ x ∧ x ≤ 1300) ∧ Below w.heap.size w w' := by
  obtain ⟨p, h1, h2, h3, h4⟩ := end_parts hA hq
  refine (decimalOf_any hR hz h2 (by omega) h3).mono ?_
  rintro e w' ⟨B, c', N, L, k, rfl, _, hr, ⟨g1, g2, g3, g4, g5⟩, g6, g7, hb⟩
  exact ⟨B, c', N, L, _, rfl, hr, end_dec h4 g1 g2 g3 g4 g5, by omega, hb⟩
namespace Ep
def loA (p : Int) : Nat := (numW (p - 1) + numW p).toNat
def hiA (p : Int) : Nat := (numW p + nxtN p).toNat
theorem num_ge {p : Int} (h0 : 0 ≤ p) (h1 : p ≤ mostP) : 0 ≤ numW p := by
  obtain ⟨u, f, _⟩ := size_fin h0 h1
  obtain ⟨P, e1, e2', e3, e4, e5, e6, e7⟩ := num_parts u f
  rw [e7]
  exact Int.mul_nonneg (by omega) (Int.pow_nonneg (by omega))
theorem num_step {p : Int} (h0 : 0 < p) (h1 : p ≤ mostP) : 0 < (2 : Int) ^ stepN p ∧ (2 : Int) ^ stepN p ≤ numW p := by
  obtain ⟨q1, q2, q3, q4, q5, q6, q7, q8, q9⟩ := parts_of h0 h1
  have e : stepN p = iP p := rfl
  have pw : (0 : Int) < 2 ^ iP p := Int.pow_pos (by omega)
  rw [e]
  refine ⟨pw, ?_⟩
  rw [q9]
  have : (1 : Int) * 2 ^ iP p ≤ (mP p : Int) * 2 ^ iP p := Int.mul_le_mul_of_nonneg_right (by omega) (Int.le_of_lt pw)
  omega
theorem ends_num {p : Int} (h0 : 0 < p) (h1 : p ≤ mostP) : ((loA p : Nat) : Int) = numW (p - 1) + numW p ∧ ((hiA p : Nat) : Int) = numW p + nxtN p ∧ 0 < loA p ∧ loA p < 2 * szA p ∧ 2 * szA p < hiA p ∧ hiA p ≤ 3 * szA p ∧ ((szA p : Nat) : Int) = numW p ∧ lowR p = mkR false ((loA p : Nat) : Int) (2 * e2 1074) ∧ highR p = mkR false ((hiA p : Nat) : Int) (2 * e2 1074) := by
  have n0 := num_ge (p := p - 1) (by omega) (by omega)
  have n1 := num_ge (p := p) (by omega) h1
  have n2 := num_lt' (p := p - 1) (q := p) (by omega) (by omega) h1
  obtain ⟨s1, s2⟩ := num_step h0 h1
  have e1 : ((loA p : Nat) : Int) = numW (p - 1) + numW p := by unfold loA; omega
  have en : nxtN p = numW p + 2 ^ stepN p := rfl
  have e2' : ((hiA p : Nat) : Int) = numW p + nxtN p := by unfold hiA; rw [en]; omega
  have e3 : ((szA p : Nat) : Int) = numW p := by unfold szA; omega
  rw [en] at e2'
  refine ⟨e1, by rw [en]; exact e2', by omega, by omega, by omega, by omega, e3, ?_, ?_⟩
  · unfold lowR
    rw [if_neg (by omega), show decide (p = 0) = false by simp; omega, e1]
  · unfold highR
    rw [e2', en]
def cMost : Int := 18014398509481983 * 2 ^ (970 : Nat)
theorem most_sum : numW mostP + nxtN mostP = cMost * (2 * e2 1074) := by kernel_rfl
theorem cMost_lt : Nat.blt cMost.natAbs (18446744073709551616 ^ (20 : Nat)) = true := by kernel_rfl
theorem one_lt20 : Nat.blt 1 (18446744073709551616 ^ (20 : Nat)) = true := by kernel_rfl
theorem lt_of_nat {X k : Nat} (h : X < 18446744073709551616 ^ k) : Lt (X : Int) k := ⟨by omega, by
  have e : (18446744073709551616 : Int) ^ k = (((18446744073709551616 : Nat) ^ k : Nat) : Int) := by rw [Int.natCast_pow]; rfl
  rw [e]
  exact Int.ofNat_lt.2 h⟩
theorem cMost_pos : 0 ≤ cMost := Int.mul_nonneg (by omega) (Int.pow_nonneg (by omega))
theorem high_size {p : Int} (h0 : 0 < p) (h1 : p ≤ mostP) : Sz (highR p) 20 := by
  by_cases h : p = mostP
  · have hB : (0 : Int) < 2 * e2 1074 := by have := e2_pos 1074; omega
    have e : highR p = ((cMost : Int) : Rat) := by
      unfold highR
      rw [h, most_sum]
      have := mkR_scale (s := false) (A := cMost) (B := 1) (k := 2 * e2 1074) cMost_pos (by omega) hB
      rw [Int.one_mul] at this
      rw [this, mkR_div false (by omega)]
      show ((cMost : Int) : Rat) / ((1 : Int) : Rat) = _
      generalize ((cMost : Int) : Rat) = z
      have : ((1 : Int) : Rat) = 1 := rfl
      rw [this]
      grind
    rw [e]
    unfold Sz
    have c1 : ((cMost : Int) : Rat).num = cMost := rfl
    have c2 : ((cMost : Int) : Rat).den = 1 := rfl
    rw [c1, c2]
    exact ⟨lt_of_nat (Eq.mp Nat.blt_eq cMost_lt), lt_of_nat (Eq.mp Nat.blt_eq one_lt20)⟩
  · obtain ⟨u, f, _⟩ := size_fin (p := p) (by omega) h1
    rw [← mid_high (by omega) (by omega)]
    exact mid_size u f
theorem dec_shift {A N L : Nat} {x : Int} (h : Dec A N L x) {k i : Nat} (hi : (i : Int) = x + k) : N * 10 ^ i * dT = A * 10 ^ k := by
  have e := h.eq
  generalize dT = t at *
  by_cases q : 0 ≤ x
  · obtain ⟨y, hy⟩ := Int.eq_ofNat_of_zero_le q
    have a1 : x.toNat = y := by omega
    have a2 : (-x).toNat = 0 := by omega
    rw [a1, a2, Nat.pow_zero, Nat.mul_one] at e
    have : i = y + k := by omega
    rw [this, Nat.pow_add, ← e]
    ac_rfl
  · obtain ⟨y, hy⟩ := Int.eq_ofNat_of_zero_le (show 0 ≤ -x by omega)
    have a1 : x.toNat = 0 := by omega
    have a2 : (-x).toNat = y := by omega
    rw [a1, a2, Nat.pow_zero, Nat.mul_one] at e
    have : k = y + i := by omega
    rw [this, Nat.pow_add, ← Nat.mul_assoc, ← e]
    ac_rfl
theorem dec_ten {A N L : Nat} {x : Int} (h : Dec A N L x) : Dec (10 * A) N L (x + 1) := by
  have e := dec_shift h (k := (-x).toNat) (i := x.toNat) (by omega)
  have := dec_cross (B := 10 * A) (N := N) (L := L) (i := x.toNat + 1) (j := (-x).toNat) (by
    rw [Nat.pow_succ]
    generalize dT = t at *
    generalize 10 ^ x.toNat = u at *
    generalize 10 ^ (-x).toNat = v at *
    grind) h.L1 h.lo h.hi h.last
  rw [show x + 1 = ((x.toNat + 1 : Nat) : Int) - ((-x).toNat : Int) by omega]
  exact this
theorem dec_tops {A A' N N' L L' : Nat} {x x' : Int} (h : Dec A N L x) (h' : Dec A' N' L' x') (hle : A ≤ A') : (L : Int) + x ≤ (L' : Int) + x' := by
  obtain ⟨k, hk⟩ : ∃ k : Nat, k = x.natAbs + x'.natAbs := ⟨_, rfl⟩
  obtain ⟨i, hi⟩ := Int.eq_ofNat_of_zero_le (show 0 ≤ x + k by omega)
  obtain ⟨i', hi'⟩ := Int.eq_ofNat_of_zero_le (show 0 ≤ x' + k by omega)
  have e := dec_shift h hi.symm
  have e' := dec_shift h' hi'.symm
  have t := dT_pos
  have l1 := h.lo
  have l2 := h'.hi
  have L1 := h.L1
  have a1 : 10 ^ (L - 1) * 10 ^ i * dT ≤ N * 10 ^ i * dT := Nat.mul_le_mul_right _ (Nat.mul_le_mul_right _ l1)
  have a2 : A * 10 ^ k ≤ A' * 10 ^ k := Nat.mul_le_mul_right _ hle
  have a3 : N' * 10 ^ i' * dT < 10 ^ L' * 10 ^ i' * dT := Nat.mul_lt_mul_of_pos_right (Nat.mul_lt_mul_of_pos_right l2 (Nat.pow_pos (by omega))) t
  have a4 : 10 ^ (L - 1) * 10 ^ i * dT < 10 ^ L' * 10 ^ i' * dT := by omega
  have a5 := Nat.lt_of_mul_lt_mul_right a4
  rw [← Nat.pow_add, ← Nat.pow_add] at a5
  have := pow10_lt a5
  omega
end Ep
section
variable {w w' : World} {g : Nat} {t : TypeId} {v0 v1 v2 v3 v4 : Value}
theorem se_frozen (h : Se w g t v0 v1 v2 v3 v4) : w.frozen? ⟨g, 0, none⟩ = false ∧ w.frozen? ⟨g, 1, none⟩ = false ∧ w.frozen? ⟨g, 2, none⟩ = false ∧ w.frozen? ⟨g, 3, none⟩ = false ∧ w.frozen? ⟨g, 4, none⟩ = false := by
  unfold Se at h
  simp [World.frozen?, h]
theorem se_set (h : Se w g t v0 v1 v2 v3 v4) (x0 x1 x2 x3 x4 : Value) : Se (((((w.setCell ⟨g, 0, none⟩ x0).setCell ⟨g, 1, none⟩ x1).setCell ⟨g, 2, none⟩ x2).setCell ⟨g, 3, none⟩ x3).setCell ⟨g, 4, none⟩ x4) g t x0 x1 x2 x3 x4 :=
  set_block (set_block (set_block (set_block (set_block h))))
theorem in5 (w : World) (g : Nat) (x0 x1 x2 x3 x4 : Value) : In g (g + 1) w (((((w.setCell ⟨g, 0, none⟩ x0).setCell ⟨g, 1, none⟩ x1).setCell ⟨g, 2, none⟩ x2).setCell ⟨g, 3, none⟩ x3).setCell ⟨g, 4, none⟩ x4) :=
  (((((In.refl g (g + 1) w).set1 0 _).set1 1 _).set1 2 _).set1 3 _).set1 4 _
theorem rb_away5 {B o n c : Nat} {l : List UInt8} (h : Rb w (some ⟨B, o, none⟩) n c l) (hn : 0 < n) (hs : Se w g t v0 v1 v2 v3 v4) (h0 : ∀ v, v0 ≠ .int .u8 v) (h1 : ∀ v, v1 ≠ .int .u8 v) (h2 : ∀ v, v2 ≠ .int .u8 v) (h3 : ∀ v, v3 ≠ .int .u8 v) (h4 : ∀ v, v4 ≠ .int .u8 v) : B ≠ g := by
  rintro rfl
  obtain ⟨g', o', e, _, hc⟩ := h.cells hn
  cases e
  have h0' := hc 0 hn
  unfold Se at hs
  rw [Nat.add_zero] at h0'
  simp only [World.cell?, hs] at h0'
  rcases o with _ | _ | _ | _ | _ | o
  · simp at h0'; exact h0 _ h0'
  · simp at h0'; exact h1 _ h0'
  · simp at h0'; exact h2 _ h0'
  · simp at h0'; exact h3 _ h0'
  · simp at h0'; exact h4 _ h0'
  · simp at h0'
end
set_option maxHeartbeats 6400000 in
set_option maxRecDepth 100000 in
theorem spanOf13_any {b p : Int} (hu : U b) (hf : ef b ≠ 2047) (hp : p = mg b) (h0 : 0 < p) {w : World} {a : Option Addr} {L c N : Nat} {x : Int} (hr : Rb w a L c (dg L N)) (hd : Dec (szA p) N L x) (hbd : L ≤ 1300 ∧ -1100 ≤ x ∧ x ≤ 1300) :
    Calls Tryz.prog 45 #[.int .u64 b, .agg #[.slice a L c, .int .i64 x]] w fun e w' => ∃ al nl cl ao co ah nh ch X Ll xl Z Lh xh, e = .returned (.agg #[.slice al nl cl, .slice ao (L + 1) co, .slice ah nh ch, .bool (decide (p % 2 = 0)), .int .i64 ((L : Int) + x + 1)]) ∧ Rb w' al nl cl (dg nl X) ∧ Rb w' ao (L + 1) co (dg (L + 1) N) ∧ Rb w' ah nh ch (dg nh Z) ∧ Dec (5 * loA p) X Ll (xl + 1) ∧ Dec (5 * hiA p) Z Lh (xh + 1) ∧ ((nl : Int) = (L : Int) + x + 1 - xl ∧ (nh : Int) = (L : Int) + x + 1 - xh ∧ Ll ≤ nl ∧ Lh ≤ nh ∧ nl ≤ 5000 ∧ nh ≤ 5000) ∧ Below w.heap.size w w' := by
  have hm := mg_low hf
  rw [← hp] at hm
  have h1 := hm.2
  obtain ⟨n1, n2, n3, n4, n5, n6, n7, n8, n9⟩ := ends_num h0 h1
  have zL := low_size (s := p) (by omega) h1
  have zH := high_size h0 h1
  have hS := fun w => f6Split_any hu w
  have hN := fun w => f6Neg_any hu w
  have hE : ∀ w, Calls Tryz.prog 80 #[.int .u64 p] w fun r w' => ∃ s1 a1 n1 c1 b1 m1 d1 s2 a2 n2 c2 b2 m2 d2, r = .returned (.tuple #[.agg #[.bool s1, .slice a1 n1 c1, .slice b1 m1 d1], .agg #[.bool s2, .slice a2 n2 c2, .slice b2 m2 d2]]) ∧ Rt w' s1 a1 n1 c1 b1 m1 d1 (lowR p) ∧ Rt w' s2 a2 n2 c2 b2 m2 d2 (highR p) ∧ Below w.heap.size w w' := fun w => by
    by_cases q : p = mostP
    · rw [q]; exact ends_most w
    · exact ends_fin h0 (by omega) w
  have hsm : spM p = spM b := by rw [hp]; unfold spM; rw [ef_mg, fr_mg]
  obtain ⟨q1, q2, q3, q4, q5, q6, _, _, _⟩ := parts_of h0 h1
  have hM0 : 0 ≤ spM b := by rw [← hsm, ← q4]; omega
  have hM9 : spM b < 9007199254740992 := by rw [← hsm, ← q4]; omega
  rw [hsm] at q6
  have HTK : Hid (decide (p % 2 = 0) = decide (spM b % 2 = 0)) := by show _ = _; rw [q6]
  have hns : (spS b = false ∧ b = p) ∨ (spS b = true ∧ negW b = p) := by
    unfold spS
    rw [if_neg hf]
    unfold U at hu
    unfold mg at hp
    by_cases q : 9223372036854775808 ≤ b
    · right
      refine ⟨by simpa using q, ?_⟩
      unfold negW
      rw [if_neg (by omega)]
      omega
    · left
      exact ⟨by simpa using q, by omega⟩
  have hD1 := fun {w : World} {s : Bool} {a b : Option Addr} {n c m d : Nat} (h : Rt w s a n c b m d (lowR p)) => decEnd_any h zL n3 n8
  have hD2 := fun {w : World} {s : Bool} {a b : Option Addr} {n c m d : Nat} (h : Rt w s a n c b m d (highR p)) => decEnd_any h zH (by omega) n9
  have top1 : ∀ {N' L' : Nat} {x' : Int}, Dec (5 * loA p) N' L' (x' + 1) → (L' : Int) + x' ≤ (L : Int) + x := fun h => by
    have := dec_tops h (dec_ten hd) (by omega)
    omega
  have top2 : ∀ {N' L' : Nat} {x' : Int}, Dec (5 * hiA p) N' L' (x' + 1) → (L' : Int) + x' ≤ (L : Int) + x + 1 := fun h => by
    have := dec_tops h (dec_ten (dec_ten hd)) (by omega)
    omega
  have hTp := fun w => top13_any (a := a) (L := L) (c := c) (x := x) (by omega) (by omega) (by omega) w
  have hL1 := hd.L1
  have hNL := hd.hi
  clear n1 n2 n4 n5 n6 n7 q1 q2 q3 q4 q5 hd hm hsm q6
  generalize lowR p = QL at *
  generalize highR p = QH at *
  generalize spM b = M at *
  generalize spX b = SX at *
  generalize fiE b = FE at *
  have hba := alloc_below (w := w) (.cells #[.slice a L c, .int .i64 x] 53)
  have sd := sd_new w (.slice a L c) (.int .i64 x) 53
  obtain ⟨w0, hw0⟩ : ∃ w0, w0 = w.alloc (.cells #[.slice a L c, .int .i64 x] 53) := ⟨_, rfl⟩
  obtain ⟨G, hG⟩ : ∃ G, G = w.heap.size := ⟨_, rfl⟩
  have hs0 : w0.heap.size = w.heap.size + 1 := by rw [hw0]; simp
  rw [← hw0] at hba sd
  rw [← hG] at sd
  have hbb := alloc_below (w := w0) (.cells #[.slice none 0 0, .slice none 0 0, .slice none 0 0, .bool false, .int .i64 0] 84)
  have se := se_new w0 (.slice none 0 0) (.slice none 0 0) (.slice none 0 0) (.bool false) (.int .i64 0) 84
  have sd1 := sd.later hbb
  have hr1 := (hr.later hba).later hbb
  have hB1 := hba.trans (hbb.mono hba.size)
  obtain ⟨w1, hw1⟩ : ∃ w1, w1 = w0.alloc (.cells #[.slice none 0 0, .slice none 0 0, .slice none 0 0, .bool false, .int .i64 0] 84) := ⟨_, rfl⟩
  obtain ⟨G1, hG1⟩ : ∃ G1, G1 = w0.heap.size := ⟨_, rfl⟩
  have HG1 : Hid (w.heap.size + 1 = G1) := by show _ = _; omega
  rw [← hw1] at se sd1 hr1 hB1
  rw [← hG1] at se
  have HW : Hid ((w.alloc (.cells #[.slice a L c, .int .i64 x] 53)).alloc (.cells #[.slice none 0 0, .slice none 0 0, .slice none 0 0, .bool false, .int .i64 0] 84) = w1) := by show _ = _; rw [hw1, hw0]
  have HG : Hid (w.heap.size = G) := hG.symm
  have hGG : G + 1 = G1 := by omega
  clear hr hba hbb sd hs0 hw0 hw1 hG hG1
  go_enter Tryz.func45, Tryz.ntmps45
  go_wp2_with fail
  rw [HW.out, HG1.out, HG.out]
  refine (hS _).mono ?_
  rintro e wS ⟨rfl, hwS⟩
  subst hwS
  clear hS
  rcases hns with ⟨hsg, hbp⟩ | ⟨hsg, hbp⟩
  · rw [hsg]
    clear hN hsg
    rw [hbp]
    clear hbp hp hf hu
    go_wp2_with fail
    refine (hE _).mono ?_
    rintro e w2 ⟨s1, a1, n1, c1, b1, m1, d1, s2, a2, n2, c2, b2, m2, d2, rfl, RL, RH, hb2⟩
    obtain ⟨y1, y2, hbW⟩ := st_two w2 (.bool s1) (.slice a1 n1 c1) (.slice b1 m1 d1) (.bool false) (.slice none 0 0) (.slice none 0 0) 36 36
    obtain ⟨k0, k1, k2⟩ := y2.cells
    obtain ⟨l0, l1, l2⟩ := y2.frozen
    obtain ⟨t1, t2, hba⟩ := st_two w2 (.bool s1) (.slice a1 n1 c1) (.slice b1 m1 d1) (.bool s2) (.slice a2 n2 c2) (.slice b2 m2 d2) 36 36
    have H2 := hb2.trans (hba.mono hb2.size)
    have hB2 := hB1.trans (H2.mono hB1.size)
    have sd2 := sd1.later H2
    have se2 := se.later H2
    have hr2 := hr1.later H2
    have RL2 := RL.later hba
    have RH2 := RH.later hba
    obtain ⟨z2, hz2⟩ : ∃ z, z = (w2.alloc (.cells #[.bool s1, .slice a1 n1 c1, .slice b1 m1 d1] 36)).alloc (.cells #[.bool s2, .slice a2 n2 c2, .slice b2 m2 d2] 36) := ⟨_, rfl⟩
    obtain ⟨g5, hg5⟩ : ∃ g5, g5 = w2.heap.size := ⟨_, rfl⟩
    have hGl : G1 < w2.heap.size := Nat.lt_of_lt_of_le se.lt hb2.size
    rw [← hz2] at t1 t2 hba H2 hB2 sd2 se2 hr2 RL2 RH2
    have hG5 : G1 < g5 := by omega
    have HZ2 : Hid ((w2.alloc (.cells #[.bool s1, .slice a1 n1 c1, .slice b1 m1 d1] 36)).alloc (.cells #[.bool s2, .slice a2 n2 c2, .slice b2 m2 d2] 36) = z2) := hz2.symm
    have HG5 : Hid (w2.heap.size = g5) := hg5.symm
    rw [← hg5] at t1 t2
    obtain ⟨p0, p1⟩ := sd2.cells
    have hTpc := hTp z2
    clear hE hb2 hba H2 sd1 se hr1 RL RH hB1 y1 y2 hbW hz2 hg5 hGl
    go_upto_region 6 with fail
    rw [HZ2.out, HG5.out]
    clear k0 k1 k2 l0 l1 l2 HZ2 HG5
    go_wp2_with fail
    refine hTpc.mono ?_
    rintro e w3 ⟨rfl, hb3⟩
    have hB3 := hB2.trans (hb3.mono hB2.size)
    have sd3 := sd2.later hb3
    have se3 := se2.later hb3
    have hr3 := hr2.later hb3
    have RL3 := RL2.later hb3
    have RH3 := RH2.later hb3
    have t13 := t1.later hb3
    have t23 := t2.later hb3
    clear hTpc hTp hb3 hB2 sd2 se2 hr2 RL2 RH2 t1 t2 p0 p1
    obtain ⟨T, hT⟩ : ∃ T : Int, T = (L : Int) + x + 1 := ⟨_, rfl⟩
    have HT : Hid ((L : Int) + x + 1 = T) := hT.symm
    have hTb : -1100 ≤ T ∧ T ≤ 2601 := by omega
    have hcl : ∀ wv, Below w3.heap.size w3 wv → (wv.cell? ⟨G, 0, none⟩ = some (.slice a L c) ∧ wv.cell? ⟨G, 1, none⟩ = some (.int .i64 x)) ∧ (wv.cell? ⟨g5, 0, none⟩ = some (.bool s1) ∧ wv.cell? ⟨g5, 1, none⟩ = some (.slice a1 n1 c1) ∧ wv.cell? ⟨g5, 2, none⟩ = some (.slice b1 m1 d1)) ∧ (wv.cell? ⟨g5 + 1, 0, none⟩ = some (.bool s2) ∧ wv.cell? ⟨g5 + 1, 1, none⟩ = some (.slice a2 n2 c2) ∧ wv.cell? ⟨g5 + 1, 2, none⟩ = some (.slice b2 m2 d2)) ∧ (wv.cell? ⟨G1, 0, none⟩ = some (.slice none 0 0) ∧ wv.cell? ⟨G1, 1, none⟩ = some (.slice none 0 0) ∧ wv.cell? ⟨G1, 2, none⟩ = some (.slice none 0 0) ∧ wv.cell? ⟨G1, 3, none⟩ = some (.bool false) ∧ wv.cell? ⟨G1, 4, none⟩ = some (.int .i64 0)) ∧ (wv.frozen? ⟨G1, 0, none⟩ = false ∧ wv.frozen? ⟨G1, 1, none⟩ = false ∧ wv.frozen? ⟨G1, 2, none⟩ = false ∧ wv.frozen? ⟨G1, 3, none⟩ = false ∧ wv.frozen? ⟨G1, 4, none⟩ = false) := fun wv hb => ⟨(sd3.later hb).cells, (t13.later hb).cells, (t23.later hb).cells, (se3.later hb).cells, se_frozen (se3.later hb)⟩
    have hC1 : ∀ {wA wv : World}, Below w3.heap.size w3 wA → Below wA.heap.size wA wv → Calls Tryz.prog 48 #[.agg #[.bool s1, .slice a1 n1 c1, .slice b1 m1 d1]] wv fun e w' => ∃ (B c' N L : Nat) (x : Int), e = .returned (.agg #[.slice (some ⟨B, 0, none⟩) L c', .int .i64 x]) ∧ Rb w' (some ⟨B, 0, none⟩) L c' (dg L N) ∧ Dec (5 * loA p) N L (x + 1) ∧ (L ≤ 1300 ∧ -1100 ≤ x ∧ x ≤ 1300) ∧ Below w3.heap.size w3 w' ∧ Below wA.heap.size wA w' := fun {wA wv} hA h7 => by
      have hb := hA.trans (h7.mono hA.size)
      refine (hD1 (RL3.later hb)).mono ?_
      rintro e w' ⟨B, c', N', L', x', rfl, h1, h2, h3, h4⟩
      exact ⟨B, c', N', L', x', rfl, h1, h2, h3, hb.trans (h4.mono hb.size), h7.trans (h4.mono h7.size)⟩
    have hC2 : ∀ {wA wv : World}, Below w3.heap.size w3 wA → Below wA.heap.size wA wv → Calls Tryz.prog 48 #[.agg #[.bool s2, .slice a2 n2 c2, .slice b2 m2 d2]] wv fun e w' => ∃ (B c' N L : Nat) (x : Int), e = .returned (.agg #[.slice (some ⟨B, 0, none⟩) L c', .int .i64 x]) ∧ Rb w' (some ⟨B, 0, none⟩) L c' (dg L N) ∧ Dec (5 * hiA p) N L (x + 1) ∧ (L ≤ 1300 ∧ -1100 ≤ x ∧ x ≤ 1300) ∧ Below w3.heap.size w3 w' ∧ Below wA.heap.size wA w' := fun {wA wv} hA h7 => by
      have hb := hA.trans (h7.mono hA.size)
      refine (hD2 (RH3.later hb)).mono ?_
      rintro e w' ⟨B, c', N', L', x', rfl, h1, h2, h3, h4⟩
      exact ⟨B, c', N', L', x', rfl, h1, h2, h3, hb.trans (h4.mono hb.size), h7.trans (h4.mono h7.size)⟩
    have hBh : ∀ {wA wv : World} {aa : Option Addr} {L' c' N' : Nat} {x' : Int}, Rb wA aa L' c' (dg L' N') → N' < 10 ^ L' → 1 ≤ L' → (L' ≤ 1300 ∧ -1100 ≤ x' ∧ x' ≤ 1300) → (L' : Int) + x' ≤ T → Below w3.heap.size w3 wA → Below wA.heap.size wA wv → Calls Tryz.prog 81 #[.agg #[.slice aa L' c', .int .i64 x'], .int .i64 T] wv fun e w' => ∃ g n : Nat, e = .returned (.slice (some ⟨g, 0, none⟩) n n) ∧ ((n : Int) = T - x' ∧ L' ≤ n ∧ n ≤ 5000) ∧ Rb w' (some ⟨g, 0, none⟩) n n (dg n N') ∧ Below w3.heap.size w3 w' ∧ Below wA.heap.size wA w' := fun {wA wv aa L' c' N' x'} h1 h2 h3 h4 h5 h6 h7 => by
      obtain ⟨K, hK⟩ := Int.eq_ofNat_of_zero_le (show 0 ≤ T - ((L' : Int) + x') by omega)
      refine (behind13_any (h1.later h7) h3 (by omega) (K := K) (M := K + L') (by omega) h2 (by omega) (by omega) (by omega) rfl).mono ?_
      rintro e w' ⟨g, rfl, q1, q2⟩
      have h8 := h6.trans (h7.mono h6.size)
      exact ⟨g, K + L', rfl, by omega, q1, h8.trans (q2.mono h8.size), h7.trans (q2.mono h7.size)⟩
    have hLT : (L : Int) + x ≤ T := by omega
    have hbO : ∀ {wA wv : World}, Below w3.heap.size w3 wA → Below wA.heap.size wA wv → Calls Tryz.prog 81 #[.agg #[.slice a L c, .int .i64 x], .int .i64 T] wv fun e w' => ∃ g : Nat, e = .returned (.slice (some ⟨g, 0, none⟩) (L + 1) (L + 1)) ∧ Rb w' (some ⟨g, 0, none⟩) (L + 1) (L + 1) (dg (L + 1) N) ∧ Below w3.heap.size w3 w' ∧ Below wA.heap.size wA w' := fun {wA wv} hA h7 => by
      refine (hBh (hr3.later hA) hNL hL1 hbd hLT hA h7).mono ?_
      rintro e w' ⟨g, n, rfl, ⟨q1, _, _⟩, q2, q3, q4⟩
      have : n = L + 1 := by omega
      subst this
      exact ⟨g, rfl, q2, q3, q4⟩
    obtain ⟨⟨x0, x1⟩, ⟨y0, y1, y2⟩, ⟨u0, u1, u2⟩, ⟨v0, v1, v2, v3, v4⟩, ⟨f0, f1, f2, f3, f4⟩⟩ := hcl w3 (Below.refl _ _)
    have hmod : Int.tmod M 2 = M % 2 := Int.tmod_eq_emod_of_nonneg hM0
    have ng1 : ¬ G1 = G := by omega
    have ng2 : ¬ G1 = g5 := by omega
    have ng3 : ¬ G1 = g5 + 1 := by omega
    have ng4 : ¬ G = G1 := by omega
    have ng5 : ¬ g5 = G1 := by omega
    have ng6 : ¬ g5 + 1 = G1 := by omega
    clear hD1 hD2 RL3 RH3 t13 t23 sd3 hr3 hT
    go_wp2_with fail
    rw [HT.out]
    go_region_held3 (fun w' => (w'.cell? ⟨G, 0, none⟩ = some (.slice a L c) ∧ w'.cell? ⟨G, 1, none⟩ = some (.int .i64 x)) ∧ (w'.cell? ⟨g5, 0, none⟩ = some (.bool s1) ∧ w'.cell? ⟨g5, 1, none⟩ = some (.slice a1 n1 c1) ∧ w'.cell? ⟨g5, 2, none⟩ = some (.slice b1 m1 d1)) ∧ (w'.cell? ⟨g5 + 1, 0, none⟩ = some (.bool s2) ∧ w'.cell? ⟨g5 + 1, 1, none⟩ = some (.slice a2 n2 c2) ∧ w'.cell? ⟨g5 + 1, 2, none⟩ = some (.slice b2 m2 d2))) (go_keep) (first | (go_at_call_of 48 a1; refine (hC1 (Below.refl _ _) (by first | exact Below.refl _ _ | exact below_drewN (Below.refl _ _) _)).mono ?_; rintro e wA ⟨BL, cL, NL, LL, xL, rfl, rA, dA, bA, hBA, hbA⟩; clear x0 x1 y0 y1 y2 u0 u1 u2 v0 v1 v2 v3 v4 f0 f1 f2 f3 f4; obtain ⟨⟨x0, x1⟩, ⟨y0, y1, y2⟩, ⟨u0, u1, u2⟩, ⟨v0, v1, v2, v3, v4⟩, ⟨f0, f1, f2, f3, f4⟩⟩ := hcl wA hBA) | (go_at_call_of 81 BL; refine (hBh rA dA.hi dA.L1 bA (Int.le_trans (top1 dA) hLT) hBA (by first | exact Below.refl _ _ | exact below_drewN (Below.refl _ _) _)).mono ?_; rintro e wB ⟨gL, nL, rfl, kB, rB, hBB, hbB⟩; clear x0 x1 y0 y1 y2 u0 u1 u2 v0 v1 v2 v3 v4 f0 f1 f2 f3 f4; obtain ⟨⟨x0, x1⟩, ⟨y0, y1, y2⟩, ⟨u0, u1, u2⟩, ⟨v0, v1, v2, v3, v4⟩, ⟨f0, f1, f2, f3, f4⟩⟩ := hcl wB hBB) | (go_at_call_of 81 a; refine (hbO hBB (by first | exact Below.refl _ _ | exact below_drewN (Below.refl _ _) _)).mono ?_; rintro e wC ⟨gO, rfl, rC, hBC, hbC⟩; clear x0 x1 y0 y1 y2 u0 u1 u2 v0 v1 v2 v3 v4 f0 f1 f2 f3 f4; obtain ⟨⟨x0, x1⟩, ⟨y0, y1, y2⟩, ⟨u0, u1, u2⟩, ⟨v0, v1, v2, v3, v4⟩, ⟨f0, f1, f2, f3, f4⟩⟩ := hcl wC hBC) | (go_at_call_of 48 a2; refine (hC2 hBC (by first | exact Below.refl _ _ | exact below_drewN (Below.refl _ _) _)).mono ?_; rintro e wD ⟨BH, cH, NH, LH, xH, rfl, rD, dD, bD, hBD, hbD⟩; clear x0 x1 y0 y1 y2 u0 u1 u2 v0 v1 v2 v3 v4 f0 f1 f2 f3 f4; obtain ⟨⟨x0, x1⟩, ⟨y0, y1, y2⟩, ⟨u0, u1, u2⟩, ⟨v0, v1, v2, v3, v4⟩, ⟨f0, f1, f2, f3, f4⟩⟩ := hcl wD hBD) | (go_at_call_of 81 BH; refine (hBh rD dD.hi dD.L1 bD (by have := top2 dD; have := HT.out; omega) hBD (by first | exact Below.refl _ _ | exact below_drewN (Below.refl _ _) _)).mono ?_; rintro e wE ⟨gH, nH, rfl, kE, rE, hBE, hbE⟩; clear x0 x1 y0 y1 y2 u0 u1 u2 v0 v1 v2 v3 v4 f0 f1 f2 f3 f4; obtain ⟨⟨x0, x1⟩, ⟨y0, y1, y2⟩, ⟨u0, u1, u2⟩, ⟨v0, v1, v2, v3, v4⟩, ⟨f0, f1, f2, f3, f4⟩⟩ := hcl wE hBE))
    have se4 := se3.later hBE
    have rL' := ((rB.later hbC).later hbD).later hbE
    have rO' := (rC.later hbD).later hbE
    have hLL := dA.L1
    have hLH := dD.L1
    have neL := rb_away5 rL' (by omega) se4 (by intro v e; cases e) (by intro v e; cases e) (by intro v e; cases e) (by intro v e; cases e) (by intro v e; cases e)
    have neO := rb_away5 rO' (by omega) se4 (by intro v e; cases e) (by intro v e; cases e) (by intro v e; cases e) (by intro v e; cases e) (by intro v e; cases e)
    have neH := rb_away5 rE (by omega) se4 (by intro v e; cases e) (by intro v e; cases e) (by intro v e; cases e) (by intro v e; cases e) (by intro v e; cases e)
    have I := in5 wE G1 (.slice (some ⟨gL, 0, none⟩) nL nL) (.slice (some ⟨gO, 0, none⟩) (L + 1) (L + 1)) (.slice (some ⟨gH, 0, none⟩) nH nH) (.bool (M % 2 == 0)) (.int .i64 T)
    have rL9 : Rb _ (some ⟨gL, 0, none⟩) nL nL (dg nL NL) := ⟨rL'.1.inn I (fun _ => off_of neL), rL'.2⟩
    have rO9 : Rb _ (some ⟨gO, 0, none⟩) (L + 1) (L + 1) (dg (L + 1) N) := ⟨rO'.1.inn I (fun _ => off_of neO), rO'.2⟩
    have rH9 : Rb _ (some ⟨gH, 0, none⟩) nH nH (dg nH NH) := ⟨rE.1.inn I (fun _ => off_of neH), rE.2⟩
    have hB9 := below_inn (hB3.trans (hBE.mono hB3.size)) I (by have := HG1.out; omega) (Nat.le_refl _)
    have st9 := (se_set se4 (.slice (some ⟨gL, 0, none⟩) nL nL) (.slice (some ⟨gO, 0, none⟩) (L + 1) (L + 1)) (.slice (some ⟨gH, 0, none⟩) nH nH) (.bool (M % 2 == 0)) (.int .i64 T)).cells
    clear x0 x1 y0 y1 y2 u0 u1 u2 v0 v1 v2 v3 v4 f0 f1 f2 f3 f4 hcl hC1 hC2 hBh hbO rA rB rC rD rE rL' rO' hbA hbB hbC hbD hbE hBA hBB hBC hBD hBE se3 se4 I hmod
    go_wp2
    refine bodyPost_ret (v := .agg #[.slice (some ⟨gL, 0, none⟩) nL nL, .slice (some ⟨gO, 0, none⟩) (L + 1) (L + 1), .slice (some ⟨gH, 0, none⟩) nH nH, .bool (M % 2 == 0), .int .i64 T]) (by simp [results, Tryz.results45, go_sem, st9]) rfl ?_
    have hTT := HT.out
    exact ⟨_, nL, _, _, _, _, nH, _, NL, LL, xL, NH, LH, xH, by rw [HTK.out, hTT]; rfl, rL9, rO9, rH9, dA, dD, ⟨by omega, by omega, kB.2.1, kE.2.1, kB.2.2, kE.2.2⟩, hB9⟩
  · rw [hsg]
    clear hsg
    go_wp2_with fail
    refine (hN _).mono ?_
    rintro e wN ⟨rfl, hwN⟩
    subst hwN
    rw [hbp]
    clear hN hbp hp hf hu
    go_wp2_with fail
    refine (hE _).mono ?_
    rintro e w2 ⟨s1, a1, n1, c1, b1, m1, d1, s2, a2, n2, c2, b2, m2, d2, rfl, RL, RH, hb2⟩
    obtain ⟨y1, y2, hbW⟩ := st_two w2 (.bool s1) (.slice a1 n1 c1) (.slice b1 m1 d1) (.bool false) (.slice none 0 0) (.slice none 0 0) 36 36
    obtain ⟨k0, k1, k2⟩ := y2.cells
    obtain ⟨l0, l1, l2⟩ := y2.frozen
    obtain ⟨t1, t2, hba⟩ := st_two w2 (.bool s1) (.slice a1 n1 c1) (.slice b1 m1 d1) (.bool s2) (.slice a2 n2 c2) (.slice b2 m2 d2) 36 36
    have H2 := hb2.trans (hba.mono hb2.size)
    have hB2 := hB1.trans (H2.mono hB1.size)
    have sd2 := sd1.later H2
    have se2 := se.later H2
    have hr2 := hr1.later H2
    have RL2 := RL.later hba
    have RH2 := RH.later hba
    obtain ⟨z2, hz2⟩ : ∃ z, z = (w2.alloc (.cells #[.bool s1, .slice a1 n1 c1, .slice b1 m1 d1] 36)).alloc (.cells #[.bool s2, .slice a2 n2 c2, .slice b2 m2 d2] 36) := ⟨_, rfl⟩
    obtain ⟨g5, hg5⟩ : ∃ g5, g5 = w2.heap.size := ⟨_, rfl⟩
    have hGl : G1 < w2.heap.size := Nat.lt_of_lt_of_le se.lt hb2.size
    rw [← hz2] at t1 t2 hba H2 hB2 sd2 se2 hr2 RL2 RH2
    have hG5 : G1 < g5 := by omega
    have HZ2 : Hid ((w2.alloc (.cells #[.bool s1, .slice a1 n1 c1, .slice b1 m1 d1] 36)).alloc (.cells #[.bool s2, .slice a2 n2 c2, .slice b2 m2 d2] 36) = z2) := hz2.symm
    have HG5 : Hid (w2.heap.size = g5) := hg5.symm
    rw [← hg5] at t1 t2
    obtain ⟨p0, p1⟩ := sd2.cells
    have hTpc := hTp z2
    clear hE hb2 hba H2 sd1 se hr1 RL RH hB1 y1 y2 hbW hz2 hg5 hGl
    go_upto_region 6 with fail
    rw [HZ2.out, HG5.out]
    clear k0 k1 k2 l0 l1 l2 HZ2 HG5
    go_wp2_with fail
    refine hTpc.mono ?_
    rintro e w3 ⟨rfl, hb3⟩
    have hB3 := hB2.trans (hb3.mono hB2.size)
    have sd3 := sd2.later hb3
    have se3 := se2.later hb3
    have hr3 := hr2.later hb3
    have RL3 := RL2.later hb3
    have RH3 := RH2.later hb3
    have t13 := t1.later hb3
    have t23 := t2.later hb3
    clear hTpc hTp hb3 hB2 sd2 se2 hr2 RL2 RH2 t1 t2 p0 p1
    obtain ⟨T, hT⟩ : ∃ T : Int, T = (L : Int) + x + 1 := ⟨_, rfl⟩
    have HT : Hid ((L : Int) + x + 1 = T) := hT.symm
    have hTb : -1100 ≤ T ∧ T ≤ 2601 := by omega
    have hcl : ∀ wv, Below w3.heap.size w3 wv → (wv.cell? ⟨G, 0, none⟩ = some (.slice a L c) ∧ wv.cell? ⟨G, 1, none⟩ = some (.int .i64 x)) ∧ (wv.cell? ⟨g5, 0, none⟩ = some (.bool s1) ∧ wv.cell? ⟨g5, 1, none⟩ = some (.slice a1 n1 c1) ∧ wv.cell? ⟨g5, 2, none⟩ = some (.slice b1 m1 d1)) ∧ (wv.cell? ⟨g5 + 1, 0, none⟩ = some (.bool s2) ∧ wv.cell? ⟨g5 + 1, 1, none⟩ = some (.slice a2 n2 c2) ∧ wv.cell? ⟨g5 + 1, 2, none⟩ = some (.slice b2 m2 d2)) ∧ (wv.cell? ⟨G1, 0, none⟩ = some (.slice none 0 0) ∧ wv.cell? ⟨G1, 1, none⟩ = some (.slice none 0 0) ∧ wv.cell? ⟨G1, 2, none⟩ = some (.slice none 0 0) ∧ wv.cell? ⟨G1, 3, none⟩ = some (.bool false) ∧ wv.cell? ⟨G1, 4, none⟩ = some (.int .i64 0)) ∧ (wv.frozen? ⟨G1, 0, none⟩ = false ∧ wv.frozen? ⟨G1, 1, none⟩ = false ∧ wv.frozen? ⟨G1, 2, none⟩ = false ∧ wv.frozen? ⟨G1, 3, none⟩ = false ∧ wv.frozen? ⟨G1, 4, none⟩ = false) := fun wv hb => ⟨(sd3.later hb).cells, (t13.later hb).cells, (t23.later hb).cells, (se3.later hb).cells, se_frozen (se3.later hb)⟩
    have hC1 : ∀ {wA wv : World}, Below w3.heap.size w3 wA → Below wA.heap.size wA wv → Calls Tryz.prog 48 #[.agg #[.bool s1, .slice a1 n1 c1, .slice b1 m1 d1]] wv fun e w' => ∃ (B c' N L : Nat) (x : Int), e = .returned (.agg #[.slice (some ⟨B, 0, none⟩) L c', .int .i64 x]) ∧ Rb w' (some ⟨B, 0, none⟩) L c' (dg L N) ∧ Dec (5 * loA p) N L (x + 1) ∧ (L ≤ 1300 ∧ -1100 ≤ x ∧ x ≤ 1300) ∧ Below w3.heap.size w3 w' ∧ Below wA.heap.size wA w' := fun {wA wv} hA h7 => by
      have hb := hA.trans (h7.mono hA.size)
      refine (hD1 (RL3.later hb)).mono ?_
      rintro e w' ⟨B, c', N', L', x', rfl, h1, h2, h3, h4⟩
      exact ⟨B, c', N', L', x', rfl, h1, h2, h3, hb.trans (h4.mono hb.size), h7.trans (h4.mono h7.size)⟩
    have hC2 : ∀ {wA wv : World}, Below w3.heap.size w3 wA → Below wA.heap.size wA wv → Calls Tryz.prog 48 #[.agg #[.bool s2, .slice a2 n2 c2, .slice b2 m2 d2]] wv fun e w' => ∃ (B c' N L : Nat) (x : Int), e = .returned (.agg #[.slice (some ⟨B, 0, none⟩) L c', .int .i64 x]) ∧ Rb w' (some ⟨B, 0, none⟩) L c' (dg L N) ∧ Dec (5 * hiA p) N L (x + 1) ∧ (L ≤ 1300 ∧ -1100 ≤ x ∧ x ≤ 1300) ∧ Below w3.heap.size w3 w' ∧ Below wA.heap.size wA w' := fun {wA wv} hA h7 => by
      have hb := hA.trans (h7.mono hA.size)
      refine (hD2 (RH3.later hb)).mono ?_
      rintro e w' ⟨B, c', N', L', x', rfl, h1, h2, h3, h4⟩
      exact ⟨B, c', N', L', x', rfl, h1, h2, h3, hb.trans (h4.mono hb.size), h7.trans (h4.mono h7.size)⟩
    have hBh : ∀ {wA wv : World} {aa : Option Addr} {L' c' N' : Nat} {x' : Int}, Rb wA aa L' c' (dg L' N') → N' < 10 ^ L' → 1 ≤ L' → (L' ≤ 1300 ∧ -1100 ≤ x' ∧ x' ≤ 1300) → (L' : Int) + x' ≤ T → Below w3.heap.size w3 wA → Below wA.heap.size wA wv → Calls Tryz.prog 81 #[.agg #[.slice aa L' c', .int .i64 x'], .int .i64 T] wv fun e w' => ∃ g n : Nat, e = .returned (.slice (some ⟨g, 0, none⟩) n n) ∧ ((n : Int) = T - x' ∧ L' ≤ n ∧ n ≤ 5000) ∧ Rb w' (some ⟨g, 0, none⟩) n n (dg n N') ∧ Below w3.heap.size w3 w' ∧ Below wA.heap.size wA w' := fun {wA wv aa L' c' N' x'} h1 h2 h3 h4 h5 h6 h7 => by
      obtain ⟨K, hK⟩ := Int.eq_ofNat_of_zero_le (show 0 ≤ T - ((L' : Int) + x') by omega)
      refine (behind13_any (h1.later h7) h3 (by omega) (K := K) (M := K + L') (by omega) h2 (by omega) (by omega) (by omega) rfl).mono ?_
      rintro e w' ⟨g, rfl, q1, q2⟩
      have h8 := h6.trans (h7.mono h6.size)
      exact ⟨g, K + L', rfl, by omega, q1, h8.trans (q2.mono h8.size), h7.trans (q2.mono h7.size)⟩
    have hLT : (L : Int) + x ≤ T := by omega
    have hbO : ∀ {wA wv : World}, Below w3.heap.size w3 wA → Below wA.heap.size wA wv → Calls Tryz.prog 81 #[.agg #[.slice a L c, .int .i64 x], .int .i64 T] wv fun e w' => ∃ g : Nat, e = .returned (.slice (some ⟨g, 0, none⟩) (L + 1) (L + 1)) ∧ Rb w' (some ⟨g, 0, none⟩) (L + 1) (L + 1) (dg (L + 1) N) ∧ Below w3.heap.size w3 w' ∧ Below wA.heap.size wA w' := fun {wA wv} hA h7 => by
      refine (hBh (hr3.later hA) hNL hL1 hbd hLT hA h7).mono ?_
      rintro e w' ⟨g, n, rfl, ⟨q1, _, _⟩, q2, q3, q4⟩
      have : n = L + 1 := by omega
      subst this
      exact ⟨g, rfl, q2, q3, q4⟩
    obtain ⟨⟨x0, x1⟩, ⟨y0, y1, y2⟩, ⟨u0, u1, u2⟩, ⟨v0, v1, v2, v3, v4⟩, ⟨f0, f1, f2, f3, f4⟩⟩ := hcl w3 (Below.refl _ _)
    have hmod : Int.tmod M 2 = M % 2 := Int.tmod_eq_emod_of_nonneg hM0
    have ng1 : ¬ G1 = G := by omega
    have ng2 : ¬ G1 = g5 := by omega
    have ng3 : ¬ G1 = g5 + 1 := by omega
    have ng4 : ¬ G = G1 := by omega
    have ng5 : ¬ g5 = G1 := by omega
    have ng6 : ¬ g5 + 1 = G1 := by omega
    clear hD1 hD2 RL3 RH3 t13 t23 sd3 hr3 hT
    go_wp2_with fail
    rw [HT.out]
    go_region_held3 (fun w' => (w'.cell? ⟨G, 0, none⟩ = some (.slice a L c) ∧ w'.cell? ⟨G, 1, none⟩ = some (.int .i64 x)) ∧ (w'.cell? ⟨g5, 0, none⟩ = some (.bool s1) ∧ w'.cell? ⟨g5, 1, none⟩ = some (.slice a1 n1 c1) ∧ w'.cell? ⟨g5, 2, none⟩ = some (.slice b1 m1 d1)) ∧ (w'.cell? ⟨g5 + 1, 0, none⟩ = some (.bool s2) ∧ w'.cell? ⟨g5 + 1, 1, none⟩ = some (.slice a2 n2 c2) ∧ w'.cell? ⟨g5 + 1, 2, none⟩ = some (.slice b2 m2 d2))) (go_keep) (first | (go_at_call_of 48 a1; refine (hC1 (Below.refl _ _) (by first | exact Below.refl _ _ | exact below_drewN (Below.refl _ _) _)).mono ?_; rintro e wA ⟨BL, cL, NL, LL, xL, rfl, rA, dA, bA, hBA, hbA⟩; clear x0 x1 y0 y1 y2 u0 u1 u2 v0 v1 v2 v3 v4 f0 f1 f2 f3 f4; obtain ⟨⟨x0, x1⟩, ⟨y0, y1, y2⟩, ⟨u0, u1, u2⟩, ⟨v0, v1, v2, v3, v4⟩, ⟨f0, f1, f2, f3, f4⟩⟩ := hcl wA hBA) | (go_at_call_of 81 BL; refine (hBh rA dA.hi dA.L1 bA (Int.le_trans (top1 dA) hLT) hBA (by first | exact Below.refl _ _ | exact below_drewN (Below.refl _ _) _)).mono ?_; rintro e wB ⟨gL, nL, rfl, kB, rB, hBB, hbB⟩; clear x0 x1 y0 y1 y2 u0 u1 u2 v0 v1 v2 v3 v4 f0 f1 f2 f3 f4; obtain ⟨⟨x0, x1⟩, ⟨y0, y1, y2⟩, ⟨u0, u1, u2⟩, ⟨v0, v1, v2, v3, v4⟩, ⟨f0, f1, f2, f3, f4⟩⟩ := hcl wB hBB) | (go_at_call_of 81 a; refine (hbO hBB (by first | exact Below.refl _ _ | exact below_drewN (Below.refl _ _) _)).mono ?_; rintro e wC ⟨gO, rfl, rC, hBC, hbC⟩; clear x0 x1 y0 y1 y2 u0 u1 u2 v0 v1 v2 v3 v4 f0 f1 f2 f3 f4; obtain ⟨⟨x0, x1⟩, ⟨y0, y1, y2⟩, ⟨u0, u1, u2⟩, ⟨v0, v1, v2, v3, v4⟩, ⟨f0, f1, f2, f3, f4⟩⟩ := hcl wC hBC) | (go_at_call_of 48 a2; refine (hC2 hBC (by first | exact Below.refl _ _ | exact below_drewN (Below.refl _ _) _)).mono ?_; rintro e wD ⟨BH, cH, NH, LH, xH, rfl, rD, dD, bD, hBD, hbD⟩; clear x0 x1 y0 y1 y2 u0 u1 u2 v0 v1 v2 v3 v4 f0 f1 f2 f3 f4; obtain ⟨⟨x0, x1⟩, ⟨y0, y1, y2⟩, ⟨u0, u1, u2⟩, ⟨v0, v1, v2, v3, v4⟩, ⟨f0, f1, f2, f3, f4⟩⟩ := hcl wD hBD) | (go_at_call_of 81 BH; refine (hBh rD dD.hi dD.L1 bD (by have := top2 dD; have := HT.out; omega) hBD (by first | exact Below.refl _ _ | exact below_drewN (Below.refl _ _) _)).mono ?_; rintro e wE ⟨gH, nH, rfl, kE, rE, hBE, hbE⟩; clear x0 x1 y0 y1 y2 u0 u1 u2 v0 v1 v2 v3 v4 f0 f1 f2 f3 f4; obtain ⟨⟨x0, x1⟩, ⟨y0, y1, y2⟩, ⟨u0, u1, u2⟩, ⟨v0, v1, v2, v3, v4⟩, ⟨f0, f1, f2, f3, f4⟩⟩ := hcl wE hBE))
    have se4 := se3.later hBE
    have rL' := ((rB.later hbC).later hbD).later hbE
    have rO' := (rC.later hbD).later hbE
    have hLL := dA.L1
    have hLH := dD.L1
    have neL := rb_away5 rL' (by omega) se4 (by intro v e; cases e) (by intro v e; cases e) (by intro v e; cases e) (by intro v e; cases e) (by intro v e; cases e)
    have neO := rb_away5 rO' (by omega) se4 (by intro v e; cases e) (by intro v e; cases e) (by intro v e; cases e) (by intro v e; cases e) (by intro v e; cases e)
    have neH := rb_away5 rE (by omega) se4 (by intro v e; cases e) (by intro v e; cases e) (by intro v e; cases e) (by intro v e; cases e) (by intro v e; cases e)
    have I := in5 wE G1 (.slice (some ⟨gL, 0, none⟩) nL nL) (.slice (some ⟨gO, 0, none⟩) (L + 1) (L + 1)) (.slice (some ⟨gH, 0, none⟩) nH nH) (.bool (M % 2 == 0)) (.int .i64 T)
    have rL9 : Rb _ (some ⟨gL, 0, none⟩) nL nL (dg nL NL) := ⟨rL'.1.inn I (fun _ => off_of neL), rL'.2⟩
    have rO9 : Rb _ (some ⟨gO, 0, none⟩) (L + 1) (L + 1) (dg (L + 1) N) := ⟨rO'.1.inn I (fun _ => off_of neO), rO'.2⟩
    have rH9 : Rb _ (some ⟨gH, 0, none⟩) nH nH (dg nH NH) := ⟨rE.1.inn I (fun _ => off_of neH), rE.2⟩
    have hB9 := below_inn (hB3.trans (hBE.mono hB3.size)) I (by have := HG1.out; omega) (Nat.le_refl _)
    have st9 := (se_set se4 (.slice (some ⟨gL, 0, none⟩) nL nL) (.slice (some ⟨gO, 0, none⟩) (L + 1) (L + 1)) (.slice (some ⟨gH, 0, none⟩) nH nH) (.bool (M % 2 == 0)) (.int .i64 T)).cells
    clear x0 x1 y0 y1 y2 u0 u1 u2 v0 v1 v2 v3 v4 f0 f1 f2 f3 f4 hcl hC1 hC2 hBh hbO rA rB rC rD rE rL' rO' hbA hbB hbC hbD hbE hBA hBB hBC hBD hBE se3 se4 I hmod
    go_wp2
    refine bodyPost_ret (v := .agg #[.slice (some ⟨gL, 0, none⟩) nL nL, .slice (some ⟨gO, 0, none⟩) (L + 1) (L + 1), .slice (some ⟨gH, 0, none⟩) nH nH, .bool (M % 2 == 0), .int .i64 T]) (by simp [results, Tryz.results45, go_sem, st9]) rfl ?_
    have hTT := HT.out
    exact ⟨_, nL, _, _, _, _, nH, _, NL, LL, xL, NH, LH, xH, by rw [HTK.out, hTT]; rfl, rL9, rO9, rH9, dA, dD, ⟨by omega, by omega, kB.2.1, kE.2.1, kB.2.2, kE.2.2⟩, hB9⟩
end Go.Proofs.YtceecgklgkiffabGreatDoor

/- Layer 13: Shortest. -/
namespace Go.Proofs.YtceecgklgkiffabGreatDoor
open Go.ChangeShapes Go.WideShapes Go.ChangeAt Go.RowKit
open Na Ar Ry Ep
set_option linter.unusedVariables false
namespace Ep
/-- what Shortest tells of a size above 0 -/
def ExS (p : Int) (D : Nat) (E : Int) : Prop := ∃ nl X Ll xl nh Z Lh xh N L x, Dec (szA p) N L x ∧ Dec (5 * loA p) X Ll (xl + 1) ∧ Dec (5 * hiA p) Z Lh (xh + 1) ∧ ((nl : Nat) : Int) = (L : Int) + x + 1 - xl ∧ ((nh : Nat) : Int) = (L : Int) + x + 1 - xh ∧ ShF (decide (p % 2 = 0)) nl X nh Z (L + 1) N ((L : Int) + x + 1) D E
end Ep
set_option maxHeartbeats 6400000 in
set_option maxRecDepth 100000 in
theorem exShort_fin {b p : Int} (hu : U b) (hf : ef b ≠ 2047) (hp : p = mg b) (h0 : 0 < p) (w : World) :
    Calls Tryz.prog 17 #[.int .u64 b] w fun e w' => ∃ (m D : Nat) (E : Int), e = .returned (.tuple #[.string ⟨(dg m D).toArray⟩, .int .i64 E, .int .i64 0]) ∧ (1 ≤ m ∧ m ≤ 1301 ∧ 10 ^ (m - 1) ≤ D ∧ D < 10 ^ m) ∧ ExS p D E ∧ Below w.heap.size w w' := by
  have hS := fun w => sizeOf_fin hu hf w
  have hK := fun w => f6Class_any hu w
  have hz := szA_zero hu hf
  have hzp : szA b = szA p := by rw [hp, szA_mg]
  have hm := mg_low hf
  rw [← hp] at hm
  have hen := ends_num h0 hm.2
  have hz0 : 0 < szA p := by have := hen.2.2.2.1; omega
  rw [hzp] at hS hz
  have hSp := fun {w : World} {a : Option Addr} {L c N : Nat} {x : Int} (h1 : Rb w a L c (dg L N)) (h2 : Dec (szA p) N L x) (h3 : L ≤ 1300 ∧ -1100 ≤ x ∧ x ≤ 1300) => spanOf13_any hu hf hp h0 h1 h2 h3
  have hk : (clsW b == 0) = false := by rw [hz]; exact decide_eq_false (by omega)
  have hk2 : (clsW b != 0) = true := by simp at hk ⊢; exact hk
  have hk3 : ¬ clsW b = 0 := by simpa using hk
  have HMk : Hid (∀ (D : Nat) (E : Int) (nl X Ll : Nat) (xl : Int) (nh Z Lh : Nat) (xh : Int) (N L : Nat) (x : Int), Dec (szA p) N L x → Dec (5 * loA p) X Ll (xl + 1) → Dec (5 * hiA p) Z Lh (xh + 1) → (nl : Int) = (L : Int) + x + 1 - xl → (nh : Int) = (L : Int) + x + 1 - xh → ShF (decide (p % 2 = 0)) nl X nh Z (L + 1) N ((L : Int) + x + 1) D E → ExS p D E) := fun D E nl X Ll xl nh Z Lh xh N L x h1 h2 h3 h4 h5 h6 => ⟨nl, X, Ll, xl, nh, Z, Lh, xh, N, L, x, h1, h2, h3, h4, h5, h6⟩
  clear hf hz hzp hen hm hk hu
  revert HMk
  generalize clsW b = K at *
  generalize szA p = A at *
  generalize loA p = LO at *
  generalize hiA p = HI at *
  intro HMk
  generalize hTK : decide (p % 2 = 0) = tk at *
  clear hTK hp h0
  go_enter Tryz.func17, Tryz.ntmps17
  go_wp2_with fail
  refine (hS w).mono ?_
  rintro e w1 ⟨B, c, N, L, x, rfl, hBg, hR, hD, hbd, hb1⟩
  have hd : Dec A N L x := by
    rcases hD with ⟨a, _⟩ | ⟨_, a⟩
    · omega
    · exact a
  have hba := alloc_below (w := w1) (.cells #[.slice (some ⟨B, 0, none⟩) L c, .int .i64 x] 53)
  have sd := sd_new w1 (.slice (some ⟨B, 0, none⟩) L c) (.int .i64 x) 53
  have hR1 := hR.later hba
  have hB1 := hb1.trans (hba.mono hb1.size)
  have hGl := hb1.size
  obtain ⟨g, hg⟩ : ∃ g, g = w1.heap.size := ⟨_, rfl⟩
  obtain ⟨W, hW⟩ : ∃ W, W = w1.alloc (.cells #[.slice (some ⟨B, 0, none⟩) L c, .int .i64 x] 53) := ⟨_, rfl⟩
  rw [← hW] at sd hR1 hB1
  rw [← hg] at sd
  have hgw : w.heap.size ≤ g := by omega
  obtain ⟨p0, p1⟩ := sd.cells
  have hSw := hSp hR1 hd ⟨hbd.2.1, hbd.2.2⟩
  clear hS hR hba hb1 hD hSp
  go_wp2_with fail
  rw [← hW, ← hg]
  clear hW hg
  refine (hK W).mono ?_
  rintro e w2 ⟨rfl, rfl⟩
  go_wp2_with fail
  refine hSw.mono ?_
  rintro e w3 ⟨al, nl, cl, ao, co, ah, nh, ch, X, Ll, xl, Z, Lh, xh, rfl, rl, ro, rh, dl, dh, ⟨e1, e2, e3, e4, e5, e6⟩, hb3⟩
  have hB3 := hB1.trans (hb3.mono hB1.size)
  have sd3 := sd.later hb3
  have hXl : X < 10 ^ nl := Nat.lt_of_lt_of_le dl.hi (Nat.pow_le_pow_right (by omega) e3)
  have hZl : Z < 10 ^ nh := Nat.lt_of_lt_of_le dh.hi (Nat.pow_le_pow_right (by omega) e4)
  have hSh := shortest13s_any (tk := tk) (T := (L : Int) + x + 1) rl ro rh (by omega) (by omega) hXl dl.last (by rw [Nat.add_sub_cancel]; exact hd.hi) hd.last hZl dh.last (by omega) (by omega)
  clear hSw hb3 hB1 sd rl ro rh hK hR1 p0 p1
  go_wp2_with fail
  refine hSh.mono ?_
  rintro e w4 ⟨a4, m4, c4, D, E, rfl, hm4, hR4, hF, hb4⟩
  have hB4 := hB3.trans (hb4.mono hB3.size)
  have sd4 := sd3.later hb4
  obtain ⟨B4, o4, rfl, _, _⟩ := hR4.cells (by omega)
  have hne := rb_away hR4 (by omega) sd4 (by intro v e; cases e) (by intro v e; cases e)
  obtain ⟨q0, q1⟩ := sd4.cells
  obtain ⟨f0, f1⟩ := sd4.frozen
  have sd9 := sd4.set (.slice (some ⟨B4, o4, none⟩) m4 c4) (.int .i64 E)
  have I := in2 w4 g (.slice (some ⟨B4, o4, none⟩) m4 c4) (.int .i64 E)
  have hRR : Rb ((w4.setCell ⟨g, 0, none⟩ (.slice (some ⟨B4, o4, none⟩) m4 c4)).setCell ⟨g, 1, none⟩ (.int .i64 E)) (some ⟨B4, o4, none⟩) m4 c4 (dg m4 D) := ⟨hR4.1.inn I (fun _ => off_of hne), hR4.2⟩
  have hBB : Below w.heap.size w ((w4.setCell ⟨g, 0, none⟩ (.slice (some ⟨B4, o4, none⟩) m4 c4)).setCell ⟨g, 1, none⟩ (.int .i64 E)) := below_inn hB4 I hgw (Nat.le_refl _)
  have HEx : Hid (ExS p D E) := HMk.out D E nl X Ll xl nh Z Lh xh N L x hd dl dh e1 e2 hF
  have hm5 : 1 ≤ m4 ∧ m4 ≤ 1301 ∧ 10 ^ (m4 - 1) ≤ D ∧ D < 10 ^ m4 := ⟨hm4.1, by omega, hm4.2.2⟩
  clear hSh hb4 hB3 sd3 hR4 hB4 hF dl dh hd e1 e2 e3 e4 e5 e6 hXl hZl
  go_upto_region 6 with fail
  obtain ⟨Y, hY⟩ : ∃ Y, Y = (w4.setCell ⟨g, 0, none⟩ (.slice (some ⟨B4, o4, none⟩) m4 c4)).setCell ⟨g, 1, none⟩ (.int .i64 E) := ⟨_, rfl⟩
  rw [← hY] at sd9 hRR hBB ⊢
  have hdr : Below Y.heap.size Y Y.drew := ⟨rfl, rfl, rfl, Nat.le_refl _, fun _ _ => rfl⟩
  have hcv := conv8 hRR
  have hcv1 := conv8 (hRR.later hdr)
  obtain ⟨r0, r1⟩ := sd9.cells
  obtain ⟨r2, r3⟩ := (sd9.later hdr).cells
  have hB9 := hBB.trans (hdr.mono hBB.size)
  obtain ⟨DL, hDL⟩ : ∃ DL, DL = dg m4 D := ⟨_, rfl⟩
  have HDL : Hid (dg m4 D = DL) := hDL.symm
  rw [← hDL] at hcv hcv1
  clear hDL hY q0 q1 f0 f1 sd4 I hRR hdr sd9
  go_wp2
  go_region
  all_goals
    go_wp2
    refine bodyPost_ret (v := .tuple #[.string ⟨DL.toArray⟩, .int .i64 E, .int .i64 0]) (by simp [results, Tryz.results17, go_sem]) rfl ?_
    exact ⟨m4, D, E, by rw [HDL.out], hm5, HEx.out, hB9⟩
end Go.Proofs.YtceecgklgkiffabGreatDoor

/- Layer 13: what Shortest finds is what ryu tells. -/
namespace Go.Proofs.YtceecgklgkiffabGreatDoor
open Go.ChangeShapes Go.WideShapes Go.ChangeAt Go.RowKit
open Na Ar Ry Ep
set_option linter.unusedVariables false
namespace Ep
theorem ex_shift (Q : Nat) {e : Int} {k i : Nat} (h : (i : Int) = e + k) : exN (Q : Int) e * 10 ^ k = ((Q * 10 ^ i : Nat) : Int) * exD e := by
  unfold exN exD
  push_cast
  by_cases q : 0 ≤ e
  · rw [if_pos q, if_pos q]
    have : i = e.toNat + k := by omega
    rw [this, Int.pow_add, Int.mul_one, Int.mul_assoc]
  · rw [if_neg q, if_neg q]
    have : k = i + (-e).toNat := by omega
    rw [this, Int.pow_add, Int.mul_assoc]
theorem end_raw {A X Ll n nl : Nat} {xl T e : Int} (hd : Dec (5 * A) X Ll (xl + 1)) (hnl : (nl : Int) = T - xl) (he : e = T - n) :
    ∃ c d : Int, 0 < c ∧ 0 < d ∧ ((A : Int) * exD e) * c = ((X * 10 ^ n : Nat) : Int) * d ∧ ∀ Q : Nat, (2 * (exN (Q : Int) e * e2 1074)) * c = ((Q * 10 ^ nl : Nat) : Int) * d := by
  obtain ⟨r, k, hr⟩ : ∃ r k : Nat, (r : Int) = xl + k - n := ⟨(xl + ((xl.natAbs + n : Nat) : Int) - n).toNat, xl.natAbs + n, by omega⟩
  have s := dec_shift hd (k := k) (i := n + r + 1) (by omega)
  have pe := exD_pos e
  have pt : (0 : Int) < ((dT : Nat) : Int) := by have := dT_pos; omega
  rw [← dT_cast]
  refine ⟨5 * 10 ^ k, 10 ^ r * 10 * ((dT : Nat) : Int) * exD e, Int.mul_pos (by omega) (Int.pow_pos (by omega)), Int.mul_pos (Int.mul_pos (Int.mul_pos (Int.pow_pos (by omega)) (by omega)) pt) pe, ?_, fun Q => ?_⟩
  · have s' : ((X * 10 ^ (n + r + 1) * dT : Nat) : Int) = ((5 * A * 10 ^ k : Nat) : Int) := by rw [s]
    push_cast at s' ⊢
    rw [Int.pow_add, Int.pow_add] at s'
    generalize ((dT : Nat) : Int) = t at *
    generalize exD e = f at *
    generalize (10 : Int) ^ k = a1 at *
    generalize (10 : Int) ^ n = a2 at *
    generalize (10 : Int) ^ r = a3 at *
    grind
  · have s' := ex_shift Q (e := e) (k := k) (i := nl + r) (by omega)
    push_cast at s' ⊢
    rw [Int.pow_add] at s'
    generalize ((dT : Nat) : Int) = t at *
    generalize exD e = f at *
    generalize exN (Q : Int) e = g at *
    generalize (10 : Int) ^ k = a1 at *
    generalize (10 : Int) ^ nl = a2 at *
    generalize (10 : Int) ^ r = a3 at *
    grind
theorem held_ex {p : Int} (h0 : 0 < p) (h1 : p ≤ mostP) {nl X Ll nh Z Lh n : Nat} {xl xh T e : Int} (dl : Dec (5 * loA p) X Ll (xl + 1)) (dh : Dec (5 * hiA p) Z Lh (xh + 1)) (hnl : (nl : Int) = T - xl) (hnh : (nh : Int) = T - xh) (he : e = T - n) (Q : Nat) :
    inB (decide (p % 2 = 0)) nl X nh Z n Q = true ↔ ExIs (Q : Int) e p 0 := by
  obtain ⟨n1, n2, n3, n4, n5, n6, n7, n8, n9⟩ := ends_num h0 h1
  obtain ⟨c, d, hc, hd, r1, r2⟩ := end_raw dl hnl he
  obtain ⟨c', d', hc', hd', r1', r2'⟩ := end_raw dh hnh he
  have x1 := cross2 hc hd r1 (r2 Q)
  have x2 := cross2 hc' hd' (r2' Q) r1'
  have hA : 0 ≤ scA (exN (Q : Int) e) 0 := scA_nonneg (exN_nonneg (by omega) e) 0
  have hb : scB (exD e) 0 = exD e := scB_flat _
  have ha : scA (exN (Q : Int) e) 0 = exN (Q : Int) e * e2 1074 := rfl
  unfold ExIs
  rw [round_ends hA (by rw [hb]; exact exD_pos e) h0 h1, hb, ha, ← n1, ← n2]
  rw [Int.ofNat_le, Int.ofNat_lt, Int.ofNat_inj] at x1 x2
  rw [x1.1, x2.1, x1.2.2, x2.2.2]
  unfold inB
  by_cases q : p % 2 = 0
  · rw [decide_eq_true q, if_pos rfl, Bool.and_eq_true, decide_eq_true_eq, decide_eq_true_eq]
    exact ⟨fun h => ⟨h.1, h.2, fun _ => q⟩, fun h => ⟨h.1, h.2.1⟩⟩
  · rw [decide_eq_false q, if_neg (by simp), Bool.and_eq_true, decide_eq_true_eq, decide_eq_true_eq]
    exact ⟨fun h => ⟨by omega, by omega, fun z => by omega⟩, fun h => ⟨by have := fun z => q (h.2.2 (Or.inl z)); omega, by have := fun z => q (h.2.2 (Or.inr z)); omega⟩⟩
theorem own_ex {p : Int} (h0 : 0 < p) (h1 : p ≤ mostP) {N L : Nat} {x : Int} (hd : Dec (szA p) N L x) : ExIs (N : Int) x p 0 := by
  obtain ⟨n1, n2, n3, n4, n5, n6, n7, n8, n9⟩ := ends_num h0 h1
  have hd2 : Dec (5 * (2 * szA p)) N L (x + 1) := by have := dec_ten hd; rw [show 5 * (2 * szA p) = 10 * szA p by omega]; exact this
  obtain ⟨c, d, hc, hdd, r1, r2⟩ := end_raw (n := 0) (nl := 0) (T := x) (e := x) hd2 (by omega) (by omega)
  have e1 : ((2 * szA p : Nat) : Int) * exD x = 2 * (exN (N : Int) x * e2 1074) := by
    have := r2 N
    rw [← r1] at this
    exact Int.eq_of_mul_eq_mul_right (by omega) this.symm
  have hA : 0 ≤ scA (exN (N : Int) x) 0 := scA_nonneg (exN_nonneg (by omega) x) 0
  have hb : scB (exD x) 0 = exD x := scB_flat _
  have ha : scA (exN (N : Int) x) 0 = exN (N : Int) x * e2 1074 := rfl
  have pe := exD_pos x
  unfold ExIs
  rw [round_ends hA (by rw [hb]; exact pe) h0 h1, hb, ha, ← n1, ← n2, ← e1]
  have l1 : ((loA p : Nat) : Int) * exD x < ((2 * szA p : Nat) : Int) * exD x := Int.mul_lt_mul_of_pos_right (by omega) pe
  have l2 : ((2 * szA p : Nat) : Int) * exD x < ((hiA p : Nat) : Int) * exD x := Int.mul_lt_mul_of_pos_right (by omega) pe
  exact ⟨Int.le_of_lt l1, Int.le_of_lt l2, fun q => by omega⟩
theorem exS_is {p : Int} (h0 : 0 < p) (h1 : p ≤ mostP) {D : Nat} {E : Int} (h : ExS p D E) : shD p = (D : Int) ∧ shE p = E := by
  obtain ⟨nl, X, Ll, xl, nh, Z, Lh, xh, N, L, x, hd, dl, dh, e1, e2', hF⟩ := h
  obtain ⟨m1, m2, m3, m4, m5, m6, m7, m8, m9⟩ := ends_num h0 h1
  have S := sh_is h0 h1
  have own := own_ex h0 h1 hd
  have hd2 : Dec (5 * (2 * szA p)) N L (x + 1) := by have := dec_ten hd; rw [show 5 * (2 * szA p) = 10 * szA p by omega]; exact this
  have htop := dec_tops dh (dec_ten (dec_ten hd)) (by omega)
  obtain ⟨T, hT⟩ : ∃ T : Int, T = (L : Int) + x + 1 := ⟨_, rfl⟩
  rw [← hT] at e1 e2' hF
  obtain ⟨no, hno⟩ : ∃ no, no = L + 1 := ⟨_, rfl⟩
  rw [← hno] at hF
  have held := fun (n : Nat) (e : Int) (he : e = T - n) (Q : Nat) => held_ex h0 h1 dl dh e1 e2' he Q
  have raw := fun (n : Nat) (e : Int) (he : e = T - n) => end_raw (n := n) (nl := no) (T := T) (e := e) hd2 (by omega) he
  have hN0 : 0 < N := by have := hd.last; omega
  have hX0 : 0 < X := by have := dl.last; omega
  have hZ9 : Z < 10 ^ nh := Nat.lt_of_lt_of_le dh.hi (Nat.pow_le_pow_right (by omega) (by omega))
  have hlast := hd.last
  generalize shD p = g at *
  generalize shE p = h at *
  obtain ⟨G, hG⟩ := Int.eq_ofNat_of_zero_le (Int.le_of_lt S.r0)
  subst hG
  have hG0 : 0 < G := by have := S.r0; omega
  have hx : x ≤ h := few_exp S (by omega) own
  have hT1 : h < T := by
    rcases Int.lt_or_le h T with q | q
    · exact q
    · exfalso
      obtain ⟨k, hk⟩ := Int.eq_ofNat_of_zero_le (show 0 ≤ h - T by omega)
      have r := S.rd
      rw [show h = T + (k : Int) by omega, ex_pow] at r
      have r2 := (held 0 T (by omega) (G * 10 ^ k)).2 (by push_cast; exact r)
      have y1 : 1 ≤ G * 10 ^ k := Nat.mul_pos hG0 (Nat.pow_pos (by omega))
      have y2 : 1 * 10 ^ nh ≤ G * 10 ^ k * 10 ^ nh := Nat.mul_le_mul_right _ y1
      unfold inB at r2
      rw [Nat.pow_zero, Nat.mul_one, Nat.mul_one] at r2
      split at r2
      · rw [Bool.and_eq_true, decide_eq_true_eq, decide_eq_true_eq] at r2; omega
      · rw [Bool.and_eq_true, decide_eq_true_eq, decide_eq_true_eq] at r2; omega
  obtain ⟨n0, hn0⟩ := Int.eq_ofNat_of_zero_le (show 0 ≤ T - h by omega)
  have hn1 : 1 ≤ n0 := by omega
  have hnN : n0 ≤ no := by omega
  obtain ⟨K, hK⟩ : ∃ K, K = no - n0 := ⟨_, rfl⟩
  have hhK : h = x + (K : Int) := by omega
  have lift : ∀ y : Nat, ExIs (y : Int) h p 0 ↔ ExIs ((y * 10 ^ K : Nat) : Int) x p 0 := fun y => by
    rw [hhK, ex_pow]
    push_cast
    exact Iff.rfl
  obtain ⟨P, hP⟩ : ∃ P, P = 10 ^ K := ⟨_, rfl⟩
  have hP0 : 0 < P := by rw [hP]; exact Nat.pow_pos (by omega)
  rw [← hP] at lift
  have hQ := Nat.div_add_mod N P
  have hR := Nat.mod_lt N hP0
  obtain ⟨Q, hQ'⟩ : ∃ Q, Q = N / P := ⟨_, rfl⟩
  obtain ⟨R, hR'⟩ : ∃ R, R = N % P := ⟨_, rfl⟩
  rw [← hQ', ← hR'] at hQ
  rw [← hR'] at hR
  have rdx := (lift G).1 S.rd
  have lowE : G ≤ Q → ExIs (Q : Int) h p 0 := fun q => (lift Q).2 (ex_mono (by omega) (by omega) (by exact_mod_cast Nat.mul_le_mul_right P q) (by rw [Nat.mul_comm]; omega) rdx own)
  have highE : Q + 1 ≤ G → ExIs ((Q + 1 : Nat) : Int) h p 0 := fun q => (lift (Q + 1)).2 (ex_mono (by omega) (by omega) (by rw [Nat.add_mul, Nat.mul_comm]; omega) (by exact_mod_cast Nat.mul_le_mul_right P q) own rdx)
  obtain ⟨c, d, hc, hdd, r1, r2⟩ := raw n0 h (by omega)
  have p10 : 0 < 10 ^ n0 := Nat.pow_pos (by omega)
  have hpn : 10 ^ no = P * 10 ^ n0 := by
    have hk : no = K + n0 := by omega
    rw [hP, hk, Nat.pow_add]
  have cmp : ∀ y : Nat, (exN (((G + y : Nat) : Int)) h * e2 1074 ≤ 2 * (numW p * exD h) ↔ (G + y) * P ≤ 2 * N) ∧ (2 * (numW p * exD h) ≤ exN (((G + y : Nat) : Int)) h * e2 1074 ↔ 2 * N ≤ (G + y) * P) ∧ (exN (((G + y : Nat) : Int)) h * e2 1074 = 2 * (numW p * exD h) ↔ (G + y) * P = 2 * N) := fun y => by
    have a1 := r2 (G + y)
    have a2 : (2 * (2 * (numW p * exD h))) * c = ((2 * N * 10 ^ n0 : Nat) : Int) * d := by
      rw [show 2 * N * 10 ^ n0 = 2 * (N * 10 ^ n0) by rw [Nat.mul_assoc], Int.natCast_mul, Int.mul_assoc ((2 : Nat) : Int), ← r1, ← m7]
      rw [Int.natCast_mul]
      clear r1 r2 m1 m2 m3 m4 m5 m6 m8 m9 hd hd2 dl dh
      generalize ((szA p : Nat) : Int) = s1
      generalize exD h = s2
      have : ((2 : Nat) : Int) = 2 := rfl
      rw [this]
      grind
    have a3 : (G + y) * 10 ^ no = (G + y) * P * 10 ^ n0 := by rw [hpn, Nat.mul_assoc]
    rw [a3] at a1
    have b1 := cross2 hc hdd a1 a2
    have b2 := cross2 hc hdd a2 a1
    rw [Int.ofNat_le, Int.ofNat_inj] at b1 b2
    have d1 : ((G + y) * P * 10 ^ n0 ≤ 2 * N * 10 ^ n0 ↔ (G + y) * P ≤ 2 * N) := ⟨fun h => Nat.le_of_mul_le_mul_right h p10, fun h => Nat.mul_le_mul_right _ h⟩
    have d2 : (2 * N * 10 ^ n0 ≤ (G + y) * P * 10 ^ n0 ↔ 2 * N ≤ (G + y) * P) := ⟨fun h => Nat.le_of_mul_le_mul_right h p10, fun h => Nat.mul_le_mul_right _ h⟩
    have c1 := b1.1
    have c2 := b2.1
    rw [d1] at c1
    rw [d2] at c2
    generalize exN (((G + y : Nat) : Int)) h * e2 1074 = u at *
    generalize numW p * exD h = v at *
    refine ⟨by rw [← c1]; omega, by rw [← c2]; omega, ?_⟩
    constructor
    · intro z
      have := c1.1 (by omega)
      have := c2.1 (by omega)
      omega
    · intro z
      have := c1.2 (by omega)
      have := c2.2 (by omega)
      omega
  have nbN : ∀ y : Nat, y < G → ExIs (y : Int) h p 0 → (G + y) * P ≤ 2 * N ∧ ((G + y) * P = 2 * N → G % 2 = 0) := fun y q z => by
    have s := S.nb y (by omega) (by omega) z
    have e : (G : Int) + (y : Int) = ((G + y : Nat) : Int) := by omega
    rw [e] at s
    exact ⟨(cmp y).1.1 s.1, fun w => by have := s.2 ((cmp y).2.2.2 w); omega⟩
  have naN : ∀ y : Nat, G < y → ExIs (y : Int) h p 0 → 2 * N ≤ (G + y) * P ∧ ((G + y) * P = 2 * N → G % 2 = 0) := fun y q z => by
    have s := S.na y (by omega) z
    have e : (G : Int) + (y : Int) = ((G + y : Nat) : Int) := by omega
    rw [e] at s
    exact ⟨(cmp y).2.1.1 s.1, fun w => by have := s.2 ((cmp y).2.2.2 w).symm; omega⟩
  have found : n0 < no → fnd (decide (p % 2 = 0)) nl X nh Z no N n0 = true := fun _ => by
    unfold fnd
    rw [← hK, ← hP, ← hQ', Bool.or_eq_true]
    rcases Nat.lt_or_ge Q G with q | q
    · exact Or.inl ((held n0 h (by omega) (Q + 1)).2 (highE q))
    · exact Or.inr ((held n0 h (by omega) Q).2 (lowE q))
  have least : ∀ n : Nat, fnd (decide (p % 2 = 0)) nl X nh Z no N n = true → n0 ≤ n := fun n q => by
    unfold fnd at q
    rw [Bool.or_eq_true] at q
    have key : T - (n : Int) ≤ h := by
      rcases q with q | q
      · exact few_exp S (by exact_mod_cast Nat.succ_pos _) ((held n _ rfl _).1 q)
      · have z := inB_pos hX0 q
        exact few_exp S (by exact_mod_cast z) ((held n _ rfl _).1 q)
    omega
  rcases hF with ⟨n, b1, b2, b3, b4, b5, b6⟩ | ⟨b1, b2, b3⟩
  · have hn : n = n0 := by
      have l := least n b4
      rcases Nat.lt_or_ge n0 n with q | q
      · have := b3 n0 hn1 q
        rw [found (by omega)] at this
        cases this
      · omega
    subst hn
    refine ⟨?_, by omega⟩
    rw [b5]
    unfold nrN nrR
    rw [← hK, ← hP, ← hQ']
    have iA : inB (decide (p % 2 = 0)) nl X nh Z n (Q + 1) = true ↔ ExIs ((Q + 1 : Nat) : Int) h p 0 := held n h (by omega) (Q + 1)
    have iB : inB (decide (p % 2 = 0)) nl X nh Z n Q = true ↔ ExIs (Q : Int) h p 0 := held n h (by omega) Q
    have hup : up N P = (decide (P < 2 * R) || (decide (2 * R = P) && decide (Q % 2 = 1))) := by unfold up; rw [← hQ', ← hR']
    rw [hup]
    generalize inB (decide (p % 2 = 0)) nl X nh Z n (Q + 1) = bA at *
    generalize inB (decide (p % 2 = 0)) nl X nh Z n Q = bB at *
    have x1 : (G + (Q + 1)) * P = G * P + Q * P + P := by grind
    have x2 : (G + Q) * P = G * P + Q * P := by grind
    have x3 : P * Q = Q * P := Nat.mul_comm _ _
    rw [x3] at hQ
    rcases Nat.lt_or_ge G Q with q | q
    · exfalso
      have z := naN Q q (lowE (by omega))
      have y : (G + 1) * P ≤ Q * P := Nat.mul_le_mul_right _ q
      rw [Nat.add_mul] at y
      omega
    rcases Nat.lt_or_ge (Q + 1) G with q2 | q2
    · exfalso
      have z := nbN (Q + 1) q2 (highE (by omega))
      have y : (Q + 2) * P ≤ G * P := Nat.mul_le_mul_right _ q2
      rw [Nat.add_mul] at y
      omega
    rcases (by omega : G = Q ∨ G = Q + 1) with q3 | q3
    · subst q3
      have hB : bB = true := iB.2 S.rd
      subst hB
      cases bA
      · simp
      · have z := naN (G + 1) (by omega) (iA.1 rfl)
        have hu : (decide (P < 2 * R) || (decide (2 * R = P) && decide (G % 2 = 1))) = false := by
          rw [Bool.or_eq_false_iff, Bool.and_eq_false_iff, decide_eq_false_iff_not, decide_eq_false_iff_not, decide_eq_false_iff_not]
          refine ⟨by omega, ?_⟩
          by_cases w : 2 * R = P
          · exact Or.inr (by have := z.2 (by omega); omega)
          · exact Or.inl w
        rw [hu]
        simp
    · have hA : bA = true := iA.2 (by rw [← q3]; exact S.rd)
      subst hA
      rw [if_neg (by simp)]
      cases bB
      · simp; omega
      · have z := nbN Q (by omega) (iB.1 rfl)
        have x4 : (Q + 1 + Q) * P = Q * P + Q * P + P := by grind
        rw [q3, x4] at z
        clear x1 x2 x3 cmp r1 r2 raw
        have hu : (decide (P < 2 * R) || (decide (2 * R = P) && decide (Q % 2 = 1))) = true := by
          rw [Bool.or_eq_true, Bool.and_eq_true, decide_eq_true_eq, decide_eq_true_eq, decide_eq_true_eq]
          by_cases w : 2 * R = P
          · exact Or.inr ⟨w, by have := z.2 (by omega); omega⟩
          · exact Or.inl (by omega)
        rw [hu]
        simp
        omega
  · have hn : n0 = no := by
      rcases Nat.lt_or_ge n0 no with q | q
      · have := b1 n0 hn1 q
        rw [found q] at this
        cases this
      · omega
    have hP1 : P = 1 := by rw [hP, hK, hn, Nat.sub_self, Nat.pow_zero]
    have hxh : h = x := by omega
    rw [hP1] at nbN naN
    refine ⟨?_, by omega⟩
    rw [b2]
    rcases Nat.lt_trichotomy G N with q | q | q
    · have := naN N q (by rw [hxh]; exact own)
      omega
    · omega
    · have := nbN N q (by rw [hxh]; exact own)
      omega
end Ep
end Go.Proofs.YtceecgklgkiffabGreatDoor

/- Layer 13: seventeen digits or more lie inside the interval. -/
namespace Go.Proofs.YtceecgklgkiffabGreatDoor
open Go.ChangeShapes Go.WideShapes Go.ChangeAt Go.RowKit
open Na Ar Ry Ep
set_option linter.unusedVariables false
namespace Ep
theorem gap_wide {p : Int} (h0 : 0 < p) (h1 : p ≤ mostP) : (2 * szA p : Nat) ≤ 18014398509481984 * (2 * szA p - loA p) ∧ (2 * szA p : Nat) ≤ 18014398509481984 * (hiA p - 2 * szA p) := by
  obtain ⟨n1, n2, n3, n4, n5, n6, n7, n8, n9⟩ := ends_num h0 h1
  obtain ⟨q1, q2, q3, q4, q5, q6, q7, q8, q9⟩ := parts_of h0 h1
  rw [← n1] at q8
  rw [← n2] at q7
  rw [← n7] at q9
  have pw : 0 < 2 ^ iP p := Nat.pow_pos (by omega)
  generalize iP p = i at *
  have e7 : 2 * hiA p = (4 * mP p + 2) * 2 ^ i := by exact_mod_cast q7
  have e8 : 2 * loA p = (4 * mP p - dnR (mP p) i) * 2 ^ i := by exact_mod_cast q8
  have e9 : szA p = mP p * 2 ^ i := by exact_mod_cast q9
  have hdn : (dnR (mP p) i = 1 ∧ mP p = 4503599627370496) ∨ dnR (mP p) i = 2 := by
    unfold dnR
    split
    · rename_i c; exact Or.inl ⟨rfl, c.1⟩
    · exact Or.inr rfl
  generalize hiA p = H at *
  generalize loA p = LO at *
  generalize szA p = A at *
  generalize mP p = m at *
  generalize 2 ^ i = t at *
  have f7 : 2 * H = 4 * (m * t) + 2 * t := by rw [e7]; grind
  rcases hdn with ⟨a1, a2⟩ | a1
  · rw [a1] at e8
    obtain ⟨k, hk⟩ : ∃ k, 4 * m - 1 = k := ⟨_, rfl⟩
    have f8 : 2 * LO + t = 4 * (m * t) := by
      rw [e8, hk]
      have : 4 * m = k + 1 := by omega
      have : 4 * (m * t) = (k + 1) * t := by rw [← this]; grind
      rw [this]; grind
    have f9 : m * t = 4503599627370496 * t := by rw [a2]
    omega
  · rw [a1] at e8
    obtain ⟨k, hk⟩ : ∃ k, 4 * m - 2 = k := ⟨_, rfl⟩
    have f8 : 2 * LO + 2 * t = 4 * (m * t) := by
      rw [e8, hk]
      have : 4 * m = k + 2 := by omega
      have : 4 * (m * t) = (k + 2) * t := by rw [← this]; grind
      rw [this]; grind
    have f9 : m * t ≤ 9007199254740992 * t := Nat.mul_le_mul_right _ (by omega)
    omega
theorem rn_near {L N n : Nat} (h1 : 1 ≤ L) (hlo : 10 ^ (L - 1) ≤ N) : rn L N n * 10 ^ L ≤ N * 10 ^ n + 5 * N ∧ N * 10 ^ n ≤ rn L N n * 10 ^ L + 5 * N := by
  unfold rn
  by_cases q : L ≤ n
  · rw [if_pos q]
    have e : N * 10 ^ (n - L) * 10 ^ L = N * 10 ^ n := by rw [Nat.mul_assoc, ← Nat.pow_add, Nat.sub_add_cancel q]
    rw [e]
    omega
  · rw [if_neg q]
    have hp : 0 < 10 ^ (L - n) := Nat.pow_pos (by omega)
    obtain ⟨h2, h3, _⟩ := rq_half (P := N) hp
    generalize rq N (10 ^ (L - n)) = W at *
    have e10 : 10 ^ L = 10 ^ (L - n) * 10 ^ n := by rw [← Nat.pow_add, Nat.sub_add_cancel (by omega)]
    have eL : 10 ^ L = 10 * 10 ^ (L - 1) := by
      obtain ⟨k, rfl⟩ : ∃ k, L = k + 1 := ⟨L - 1, by omega⟩
      rw [Nat.add_sub_cancel, Nat.pow_succ, Nat.mul_comm]
    have m2 := Nat.mul_le_mul_right (10 ^ n) h2
    have m3 := Nat.mul_le_mul_right (10 ^ n) h3
    have x1 : 2 * (W * 10 ^ (L - n)) * 10 ^ n = 2 * (W * 10 ^ L) := by rw [e10]; grind
    have x2 : (2 * N + 10 ^ (L - n)) * 10 ^ n = 2 * (N * 10 ^ n) + 10 ^ L := by rw [e10]; grind
    have x3 : (2 * (W * 10 ^ (L - n)) + 10 ^ (L - n)) * 10 ^ n = 2 * (W * 10 ^ L) + 10 ^ L := by rw [e10]; grind
    have x4 : 2 * N * 10 ^ n = 2 * (N * 10 ^ n) := by rw [Nat.mul_assoc]
    rw [x1, x2] at m2
    rw [x3, x4] at m3
    omega
/-- seventeen digits or more, rounded, are taken to the size -/
theorem near_ex {p : Int} (h0 : 0 < p) (h1 : p ≤ mostP) {N L n : Nat} {x : Int} (hd : Dec (szA p) N L x) (hn : 17 ≤ n) : ExIs (rn L N n : Int) ((L : Int) + x - n) p 0 := by
  obtain ⟨n1, n2, n3, n4, n5, n6, n7, n8, n9⟩ := ends_num h0 h1
  obtain ⟨g1, g2⟩ := gap_wide h0 h1
  obtain ⟨r1, r2⟩ := rn_near (n := n) hd.L1 hd.lo
  have hd2 : Dec (5 * (2 * szA p)) N L (x + 1) := by have := dec_ten hd; rw [show 5 * (2 * szA p) = 10 * szA p by omega]; exact this
  obtain ⟨e, he⟩ : ∃ e : Int, e = (L : Int) + x - n := ⟨_, rfl⟩
  rw [← he]
  obtain ⟨c, d, hc, hdd, s1, s2⟩ := end_raw (n := n) (nl := L) (T := (L : Int) + x) (e := e) hd2 (by omega) he
  have s2 := s2 (rn L N n)
  have pe := exD_pos e
  have hA : 0 ≤ scA (exN (rn L N n : Int) e) 0 := scA_nonneg (exN_nonneg (by omega) e) 0
  have hb : scB (exD e) 0 = exD e := scB_flat _
  have ha : scA (exN (rn L N n : Int) e) 0 = exN (rn L N n : Int) e * e2 1074 := rfl
  unfold ExIs
  rw [round_ends hA (by rw [hb]; exact pe) h0 h1, hb, ha, ← n1, ← n2]
  have hp17 : N * 100000000000000000 ≤ N * 10 ^ n := Nat.mul_le_mul_left _ (by
    have := Nat.pow_le_pow_right (n := 10) (by omega) hn
    have e17 : (10 : Nat) ^ 17 = 100000000000000000 := by decide
    omega)
  have k1 : 20000000000000000 * (rn L N n * 10 ^ L) ≤ 20000000000000001 * (N * 10 ^ n) := by omega
  have k2 : 19999999999999999 * (N * 10 ^ n) ≤ 20000000000000000 * (rn L N n * 10 ^ L) := by omega
  have k1' : (20000000000000000 : Int) * ((rn L N n * 10 ^ L : Nat) : Int) ≤ 20000000000000001 * ((N * 10 ^ n : Nat) : Int) := by omega
  have k2' : (19999999999999999 : Int) * ((N * 10 ^ n : Nat) : Int) ≤ 20000000000000000 * ((rn L N n * 10 ^ L : Nat) : Int) := by omega
  generalize 2 * (exN (rn L N n : Int) e * e2 1074) = B at *
  generalize exD e = f at *
  generalize ((N * 10 ^ n : Nat) : Int) = u at *
  generalize ((rn L N n * 10 ^ L : Nat) : Int) = v at *
  have l1 : ((loA p : Nat) : Int) * f < ((2 * szA p : Nat) : Int) * f := Int.mul_lt_mul_of_pos_right (by omega) pe
  have l2 : ((2 * szA p : Nat) : Int) * f < ((hiA p : Nat) : Int) * f := Int.mul_lt_mul_of_pos_right (by omega) pe
  have l3 : ((2 * szA p : Nat) : Int) * f ≤ (18014398509481984 * (((2 * szA p : Nat) : Int) - ((loA p : Nat) : Int))) * f := Int.mul_le_mul_of_nonneg_right (by omega) (Int.le_of_lt pe)
  have l4 : ((2 * szA p : Nat) : Int) * f ≤ (18014398509481984 * (((hiA p : Nat) : Int) - ((2 * szA p : Nat) : Int))) * f := Int.mul_le_mul_of_nonneg_right (by omega) (Int.le_of_lt pe)
  rw [Int.mul_assoc, Int.sub_mul] at l3 l4
  generalize ((2 * szA p : Nat) : Int) * f = a at *
  generalize ((loA p : Nat) : Int) * f = lo at *
  generalize ((hiA p : Nat) : Int) * f = hi at *
  have m1 : 20000000000000000 * B ≤ 20000000000000001 * a := by
    apply Int.le_of_mul_le_mul_right _ hc
    rw [Int.mul_assoc, Int.mul_assoc, s1, s2, ← Int.mul_assoc, ← Int.mul_assoc]
    exact Int.mul_le_mul_of_nonneg_right k1' (Int.le_of_lt hdd)
  have m2 : 19999999999999999 * a ≤ 20000000000000000 * B := by
    apply Int.le_of_mul_le_mul_right _ hc
    rw [Int.mul_assoc, Int.mul_assoc, s1, s2, ← Int.mul_assoc, ← Int.mul_assoc]
    exact Int.mul_le_mul_of_nonneg_right k2' (Int.le_of_lt hdd)
  have z1 : lo < B := by omega
  have z2 : B < hi := by omega
  exact ⟨by omega, by omega, fun q => by omega⟩
/-- so are Precise's -/
theorem precise_ex {p : Int} (h0 : 0 < p) (h1 : p ≤ mostP) {N L n D : Nat} {x X : Int} (hd : Dec (szA p) N L x) (hn : 17 ≤ n) (hP : (rn L N n < 10 ^ n ∧ D = rn L N n ∧ X = (L : Int) + x - n) ∨ (rn L N n = 10 ^ n ∧ D = 10 ^ (n - 1) ∧ X = (L : Int) + x - n + 1)) : ExIs (D : Int) X p 0 := by
  have h := near_ex h0 h1 hd hn
  rcases hP with ⟨_, rfl, rfl⟩ | ⟨a1, a2, a3⟩
  · exact h
  · rw [a3, ex_one, a2]
    rw [a1] at h
    have e : (((10 ^ (n - 1) : Nat) : Int) * 10) = ((10 ^ n : Nat) : Int) := by
      obtain ⟨k, rfl⟩ : ∃ k, n = k + 1 := ⟨n - 1, by omega⟩
      rw [Nat.add_sub_cancel, Nat.pow_succ]
      push_cast
      rfl
    rw [e]
    exact h
end Ep
end Go.Proofs.YtceecgklgkiffabGreatDoor

/- Layer 13: Shortest of no number and of zero. -/
namespace Go.Proofs.YtceecgklgkiffabGreatDoor
open Go.ChangeShapes Go.WideShapes Go.ChangeAt Go.RowKit
open Na Ar Ry Ep
set_option linter.unusedVariables false
set_option maxHeartbeats 3200000 in
set_option maxRecDepth 100000 in
theorem exShort_zero {b : Int} (hu : U b) (hf : ef b ≠ 2047) (h0 : szA b = 0) (w : World) :
    Calls Tryz.prog 17 #[.int .u64 b] w fun e w' => e = .returned (.tuple #[.string ⟨(dg 1 0).toArray⟩, .int .i64 0, .int .i64 0]) ∧ Below w.heap.size w w' := by
  have hS := fun w => sizeOf_fin hu hf w
  have hK := fun w => f6Class_any hu w
  have hz := szA_zero hu hf
  have hk : (clsW b == 0) = true := by rw [hz]; exact decide_eq_true h0
  have hk0 : clsW b = 0 := by simpa using hk
  rw [hk0] at hK
  rw [h0] at hS
  clear hf hz hk hk0 h0
  go_enter Tryz.func17, Tryz.ntmps17
  go_wp2_with fail
  refine (hS w).mono ?_
  rintro e w1 ⟨B, c, N, L, x, rfl, hBg, hR, hD, hbd, hb1⟩
  obtain ⟨rfl, rfl, rfl⟩ : N = 0 ∧ L = 1 ∧ x = 0 := by
    rcases hD with ⟨_, a, b, c⟩ | ⟨a, _⟩
    · exact ⟨a, b, c⟩
    · omega
  have hba := alloc_below (w := w1) (.cells #[.slice (some ⟨B, 0, none⟩) 1 c, .int .i64 0] 53)
  have sd := sd_new w1 (.slice (some ⟨B, 0, none⟩) 1 c) (.int .i64 0) 53
  have hR1 := hR.later hba
  have hB1 := hb1.trans (hba.mono hb1.size)
  obtain ⟨g, hg⟩ : ∃ g, g = w1.heap.size := ⟨_, rfl⟩
  obtain ⟨Y, hY⟩ : ∃ Y, Y = w1.alloc (.cells #[.slice (some ⟨B, 0, none⟩) 1 c, .int .i64 0] 53) := ⟨_, rfl⟩
  rw [← hY] at sd hR1 hB1
  rw [← hg] at sd
  clear hS hR hba hb1 hD hbd hBg
  go_wp2_with fail
  rw [← hY, ← hg]
  clear hY hg
  refine (hK _).mono ?_
  rintro e w2 ⟨rfl, rfl⟩
  have hdr : Below Y.heap.size Y Y.drew := ⟨rfl, rfl, rfl, Nat.le_refl _, fun _ _ => rfl⟩
  have hcv := conv8 hR1
  have hcv1 := conv8 (hR1.later hdr)
  obtain ⟨r0, r1⟩ := sd.cells
  obtain ⟨r2, r3⟩ := (sd.later hdr).cells
  have hB9 := hB1.trans (hdr.mono hB1.size)
  obtain ⟨DL, hDL⟩ : ∃ DL, DL = dg 1 0 := ⟨_, rfl⟩
  have HDL : Hid (dg 1 0 = DL) := hDL.symm
  rw [← hDL] at hcv hcv1
  clear hDL hR1 hdr sd hK
  go_wp2
  go_region
  all_goals
    go_wp2
    refine bodyPost_ret (v := .tuple #[.string ⟨DL.toArray⟩, .int .i64 0, .int .i64 0]) (by simp [results, Tryz.results17, go_sem]) rfl ?_
    exact ⟨by rw [HDL.out], hB9⟩
end Go.Proofs.YtceecgklgkiffabGreatDoor

/- Layer 13: the law's back; the walk of ExpandBack. -/
namespace Go.Proofs.YtceecgklgkiffabGreatDoor
open Go.ChangeShapes Go.WideShapes Go.ChangeAt Go.RowKit
open Na Ar Ry Ep
set_option linter.unusedVariables false
namespace Ep
theorem dc_ex (D : Nat) (e : Int) : dcN D e = exN (D : Int) e ∧ dcD e = exD e := by
  unfold dcN dcD exN exD
  by_cases q : 0 ≤ e
  · rw [if_pos q, if_pos q]
    have : (-e).toNat = 0 := by omega
    rw [this, Int.pow_zero]
    exact ⟨rfl, rfl⟩
  · rw [if_neg q, if_neg q]
    have : e.toNat = 0 := by omega
    rw [this, Int.pow_zero, Int.mul_one]
    exact ⟨rfl, rfl⟩
theorem mk_nonneg13 {A B : Int} (hA : 0 ≤ A) (hB : 0 < B) : ¬ (mkR false A B).num < 0 := (mkR_abs (s := false) hA hB).2.2
theorem round_rat13 {A B v E : Int} (hA : 0 ≤ A) (hB : 0 < B) {q : Rat} (hq : q = mkR false A B) : RoundIs (scA (q.num.natAbs : Int) 0) (scB (q.den : Int) 0) false false 0 v E ↔ RoundIs (scA A 0) (scB B 0) false false 0 v E := by
  have c := mkR_cross false hA hB
  have pd : (0 : Int) < (q.den : Int) := by have := q.den_pos; omega
  have nn := mk_nonneg13 hA hB
  rw [← hq] at c nn
  have e : (q.num.natAbs : Int) = q.num := by omega
  rw [e]
  have sf : sg false A = A := rfl
  rw [sf] at c
  refine round_cross (scB_pos' pd) (scB_pos' hB) ?_
  rw [scB_flat, scB_flat]
  show q.num * e2 (0 + 1074) * B = A * e2 (0 + 1074) * q.den
  rw [Int.mul_right_comm, c, Int.mul_right_comm]
theorem dc_round {D : Nat} {e v E p : Int} (h : ExIs (D : Int) e p 0) (hr : RoundIs (scA ((dcR D e).num.natAbs : Int) 0) (scB ((dcR D e).den : Int) 0) false false 0 v E) : v = p ∧ E = 0 := by
  have hq : dcR D e = mkR false (exN (D : Int) e) (exD e) := by unfold dcR; rw [(dc_ex D e).1, (dc_ex D e).2]
  have := (round_rat13 (exN_nonneg (by omega) e) (exD_pos e) hq).mp hr
  exact roundIs_uniq (scB_pos' (exD_pos e)) this h
end Ep
set_option maxHeartbeats 3200000 in
set_option maxRecDepth 100000 in
theorem back13_any {m D : Nat} {e p : Int} (hm : 1 ≤ m) (hm9 : m ≤ 4000) (hD : D < 10 ^ m) (he0 : -2000 ≤ e) (he1 : e ≤ 2000) (h : ExIs (D : Int) e p 0) {w : World} (hG : GrVar w) :
    Calls Tryz.prog 18 #[.string ⟨(dg m D).toArray⟩, .int .i64 e] w fun r w' => r = .returned (.tuple #[.int .u64 p, .bool true]) ∧ Below w.heap.size w w' := by
  have hDc := dec13_any hm hm9 hD he0 he1 w
  have hz := (dc_size hm9 hD (by omega) (by omega : e ≤ 4000)).2.2
  have hnn : ¬ (dcR D e).num < 0 := by
    have := (mkR_abs (s := false) (A := dcN D e) (B := dcD e) (Int.mul_nonneg (by omega) (Int.pow_nonneg (by omega))) (dcD_pos e)).2.2
    exact this
  have hu : ∀ v E, RoundIs (scA ((dcR D e).num.natAbs : Int) 0) (scB ((dcR D e).den : Int) 0) false false 0 v E → v = p ∧ E = 0 := fun v E hr => dc_round h hr
  generalize dcR D e = P at *
  generalize (⟨(dg m D).toArray⟩ : ByteArray) = S at *
  clear h hD
  go_enter Tryz.func18, Tryz.ntmps18
  go_wp2_with fail
  refine hDc.mono ?_
  rintro r v4 ⟨s4, a4, n4, c4, b4, m4, f4, rfl, R4, hb4⟩
  have hs : s4 = false := by rw [R4.sgn]; simpa using hnn
  subst hs
  have t4 := st_new v4 (.bool false) (.slice a4 n4 c4) (.slice b4 m4 f4) 36
  have R5 := R4.later (alloc_below (w := v4) (.cells #[.bool false, .slice a4 n4 c4, .slice b4 m4 f4] 36))
  have B5 : Below w.heap.size w (v4.alloc (.cells #[.bool false, .slice a4 n4 c4, .slice b4 m4 f4] 36)) := hb4.alloc hb4.size _
  have hQ := nearRat_ok (mode := 0) R5 hz (by omega) (by omega) (by omega) (hG.later B5)
  obtain ⟨x0, x1, x2⟩ := t4.cells
  clear hDc R4 R5 t4 hb4 hz hnn
  go_wp2_with fail
  refine hQ.mono ?_
  rintro r v5 ⟨v, E, rfl, hr, _, b5⟩
  obtain ⟨rfl, rfl⟩ := hu v E hr
  have B6 := B5.trans (b5.mono B5.size)
  clear hQ x0 x1 x2 b5 B5 hr hu
  go_wp2
  refine bodyPost_ret (v := .tuple #[.int .u64 v, .bool true]) (by simp [results, Tryz.results18, go_sem]) rfl ?_
  exact ⟨rfl, B6⟩
set_option maxHeartbeats 3200000 in
set_option maxRecDepth 100000 in
theorem back13_go {b n0 p X E : Int} {n m : Nat} {S TS : ByteArray} (hu : U b) (hn : (IntKind.u64.wrap n0).tmod 1084 = (n : Int) - 17) (hn1 : 17 ≤ n) (hn9 : n ≤ 1100) (hS : S.size = n) (hm1 : 1 ≤ m) (hm9 : m ≤ 17) (hTS : TS.size = m)
    (hF : ∀ w, Calls Tryz.prog 7 #[.int .u64 b] w fun e w' => e = .returned (.bool true) ∧ w' = w)
    (hSz : ∀ w, Calls Tryz.prog 12 #[.int .u64 b] w fun e w' => e = .returned (.int .u64 p) ∧ w' = w)
    (hX : ∀ w, Calls Tryz.prog 5 #[.int .u64 b, .int .i64 (n : Int)] w fun e w' => e = .returned (.tuple #[.string S, .int .i64 X, .int .i64 0]) ∧ Below w.heap.size w w')
    (hY : ∀ w, Calls Tryz.prog 17 #[.int .u64 b] w fun e w' => e = .returned (.tuple #[.string TS, .int .i64 E, .int .i64 0]) ∧ Below w.heap.size w w')
    (hB1 : ∀ w, GrVar w → Calls Tryz.prog 18 #[.string S, .int .i64 X] w fun r w' => r = .returned (.tuple #[.int .u64 p, .bool true]) ∧ Below w.heap.size w w')
    (hB2 : ∀ w, GrVar w → Calls Tryz.prog 18 #[.string TS, .int .i64 E] w fun r w' => r = .returned (.tuple #[.int .u64 p, .bool true]) ∧ Below w.heap.size w w') {w : World} (hG : GrVar w) :
    Calls Tryz.prog 4 #[.int .u64 b, .int .i64 n0] w fun r w' => r = .returned (.bool true) ∧ Below w.heap.size w w' := by
  have hA := alive13_any
  have z0 : (n : Int) ≤ 1100 := by omega
  have z1 : (17 : Int) ≤ n := by omega
  have z2 : 17 + ((n : Int) - 17) = (n : Int) := by omega
  have y0 : (m : Int) ≤ 17 := by omega
  have y1 : ¬ (17 : Int) < (m : Int) := by omega
  have y2 : ((m : Int) == 0) = false := by simp; omega
  have y3 : ¬ (m : Int) = 0 := by omega
  go_enter Tryz.func4, Tryz.ntmps4
  go_wp2_with fail
  refine (hA w).mono ?_
  rintro e w1 ⟨rfl, hb1⟩
  go_wp2_with fail
  refine (hF w1).mono ?_
  rintro e w2 ⟨rfl, rfl⟩
  go_wp2_with fail
  refine (hX _).mono ?_
  rintro e w3 ⟨rfl, hb3⟩
  have hB3 := hb1.trans (hb3.mono hb1.size)
  go_wp2_with fail
  refine (hY _).mono ?_
  rintro e w4 ⟨rfl, hb4⟩
  have hB4 := hB3.trans (hb4.mono hB3.size)
  clear hA hF hX hY hb1 hb3 hb4 hB3
  go_wp2_with fail
  refine (hB1 _ (hG.later hB4)).mono ?_
  rintro e w5 ⟨rfl, hb5⟩
  have hB5 := hB4.trans (hb5.mono hB4.size)
  go_wp2_with fail
  refine (hB2 _ (hG.later hB5)).mono ?_
  rintro e w6 ⟨rfl, hb6⟩
  have hB6 := hB5.trans (hb6.mono hB5.size)
  clear hB1 hB2 hb5 hb6 hB4 hB5
  go_wp2_with fail
  refine (hSz _).mono ?_
  rintro e w7 ⟨rfl, rfl⟩
  go_wp2_with fail
  refine (hSz _).mono ?_
  rintro e w8 ⟨rfl, rfl⟩
  go_wp2
  go_ret
  exact ⟨rfl, hB6⟩
set_option maxHeartbeats 3200000 in
set_option maxRecDepth 100000 in
theorem back13_walk {b n0 : Int} (hu : U b) (i0 : -9223372036854775808 ≤ n0) (i1 : n0 ≤ 9223372036854775807) {w : World} (hG : GrVar w) :
    Calls Tryz.prog 4 #[.int .u64 b, .int .i64 n0] w fun r w' => r = .returned (.bool true) ∧ Below w.heap.size w w' := by
  obtain ⟨n, hn, hn1, hn9⟩ : ∃ n : Nat, (IntKind.u64.wrap n0).tmod 1084 = (n : Int) - 17 ∧ 17 ≤ n ∧ n ≤ 1100 := by
    have h0 : 0 ≤ IntKind.u64.wrap n0 % 1084 := Int.emod_nonneg _ (by omega)
    have h1 := Int.emod_lt_of_pos (IntKind.u64.wrap n0) (show (0 : Int) < 1084 by omega)
    have h2 : 0 ≤ IntKind.u64.wrap n0 := (U_wrap n0).1
    rw [Int.tmod_eq_emod_of_nonneg h2]
    exact ⟨(IntKind.u64.wrap n0 % 1084).toNat + 17, by omega, by omega, by omega⟩
  have hF := finite13_any hu
  have dz : ∀ m D : Nat, (⟨(dg m D).toArray⟩ : ByteArray).size = m := fun m D => by rw [Lib.size_eq]; exact dg_len m D
  by_cases hf : ef b = 2047
  · have hA := alive13_any
    have da : decide (ef b ≠ 2047) = false := by simp [hf]
    rw [da] at hF
    have z0 : (n : Int) ≤ 1100 := by omega
    have z1 : (17 : Int) ≤ n := by omega
    have z2 : 17 + ((n : Int) - 17) = (n : Int) := by omega
    clear da hf
    go_enter Tryz.func4, Tryz.ntmps4
    go_wp2_with fail
    refine (hA w).mono ?_
    rintro e w1 ⟨rfl, hb1⟩
    go_wp2_with fail
    refine (hF w1).mono ?_
    rintro e w2 ⟨rfl, rfl⟩
    go_wp2_with fail
    refine (hA _).mono ?_
    rintro e w3 ⟨rfl, hb3⟩
    have hB3 := hb1.trans (hb3.mono hb1.size)
    go_wp2
    go_ret
    exact ⟨rfl, hB3⟩
  · have da : decide (ef b ≠ 2047) = true := by simp [hf]
    rw [da] at hF
    have hm := mg_low hf
    have hSz := size13_any hu
    have hPr := fun w => precise_fin hu hf (n := n) (by omega) hn9 w
    by_cases h0 : mg b = 0
    · have hz : szA b = 0 := by rw [← szA_mg, h0]; rfl
      rw [h0] at hSz
      have ex0 : ExIs ((0 : Nat) : Int) 0 0 0 := by
        unfold ExIs
        have e1 : scA (exN ((0 : Nat) : Int) 0) 0 = 0 := by
          unfold scA
          have z : exN ((0 : Nat) : Int) 0 = 0 := rfl
          rw [z, Int.zero_mul]
        rw [e1]
        exact round_none (neg := false) (scB_pos' (exD_pos 0))
      have hX : ∀ w, Calls Tryz.prog 5 #[.int .u64 b, .int .i64 (n : Int)] w fun e w' => e = .returned (.tuple #[.string ⟨(dg n 0).toArray⟩, .int .i64 0, .int .i64 0]) ∧ Below w.heap.size w w' := fun w => by
        refine (hPr w).mono ?_
        rintro e w' ⟨D, X, h1, _, rfl, hb⟩
        obtain ⟨rfl, rfl⟩ := pz_uniq h1 (Or.inl ⟨hz, rfl, rfl⟩)
        exact ⟨rfl, hb⟩
      exact back13_go hu hn hn1 hn9 (dz n 0) (Nat.le_refl 1) (by omega) (dz 1 0) hF hSz hX (fun w => exShort_zero hu hf hz w)
        (fun w g => back13_any (by omega) (by omega) (Nat.pow_pos (by omega)) (by omega) (by omega) ex0 g)
        (fun w g => back13_any (by omega) (by omega) (Nat.pow_pos (by omega)) (by omega) (by omega) ex0 g) hG
    · have hp : 0 < mg b := by omega
      have S := sh_is hp hm.2
      obtain ⟨D, hD⟩ := Int.eq_ofNat_of_zero_le (Int.le_of_lt S.r0)
      have hD0 : 0 < D := by have := S.r0; omega
      have hD9 : D < 100000000000000000 := by have := S.r1; omega
      obtain ⟨m, g1, g2, g3⟩ := digits_of D hD0
      have hm17 : m ≤ 17 := by
        rcases Nat.lt_or_ge 17 m with q | q
        · exfalso
          have := Nat.pow_le_pow_right (n := 10) (by omega) (show 17 ≤ m - 1 by omega)
          have e17 : (10 : Nat) ^ 17 = 100000000000000000 := by decide
          omega
        · exact q
      have hY : ∀ w, Calls Tryz.prog 17 #[.int .u64 b] w fun e w' => e = .returned (.tuple #[.string ⟨(dg m D).toArray⟩, .int .i64 (shE (mg b)), .int .i64 0]) ∧ Below w.heap.size w w' := fun w => by
        refine (exShort_fin hu hf rfl hp w).mono ?_
        rintro e w' ⟨m', D', E', rfl, ⟨k1, _, k3, k4⟩, hx, hb⟩
        obtain ⟨q1, q2⟩ := exS_is hp hm.2 hx
        have hDD : D' = D := by omega
        subst hDD
        have hmm := digits_uniq k3 k4 g2 g3 k1 g1
        subst hmm
        exact ⟨by rw [q2], hb⟩
      have hA0 : ¬ szA b = 0 := by
        have := (ends_num hp hm.2).2.2.2.1
        rw [szA_mg] at this
        omega
      obtain ⟨N, L, x, hDec⟩ := dec_ex (A := szA b) (by omega)
      obtain ⟨DP, XP, hPP⟩ : ∃ D X, ((rn L N n < 10 ^ n ∧ D = rn L N n ∧ X = (L : Int) + x - n) ∨ (rn L N n = 10 ^ n ∧ D = 10 ^ (n - 1) ∧ X = (L : Int) + x - n + 1)) := by
        have := rn_le (n := n) hDec.hi
        by_cases q : rn L N n < 10 ^ n
        · exact ⟨_, _, Or.inl ⟨q, rfl, rfl⟩⟩
        · exact ⟨_, _, Or.inr ⟨by omega, rfl, rfl⟩⟩
      have hPz : Pz (szA b) n DP XP := Or.inr ⟨N, L, x, by omega, hDec, hPP⟩
      have htop := dec_top hu hf hDec
      have hPlt : DP < 10 ^ n := by
        rcases hPP with ⟨h1, h2, _⟩ | ⟨_, h2, _⟩
        · omega
        · rw [h2]; exact Nat.pow_lt_pow_right (by omega) (by omega)
      have hX0 : -1500 ≤ XP ∧ XP ≤ 400 := by omega
      have hX : ∀ w, Calls Tryz.prog 5 #[.int .u64 b, .int .i64 (n : Int)] w fun e w' => e = .returned (.tuple #[.string ⟨(dg n DP).toArray⟩, .int .i64 XP, .int .i64 0]) ∧ Below w.heap.size w w' := fun w => by
        refine (hPr w).mono ?_
        rintro e w' ⟨D', X', h1, _, rfl, hb⟩
        obtain ⟨rfl, rfl⟩ := pz_uniq h1 hPz
        exact ⟨rfl, hb⟩
      have hrd := S.rd
      have he0 := S.e0
      have he1 := S.e1
      rw [hD] at hrd
      have hex : ExIs (DP : Int) XP (mg b) 0 := precise_ex hp hm.2 (by rw [szA_mg]; exact hDec) hn1 hPP
      exact back13_go hu hn hn1 hn9 (dz n DP) g1 hm17 (dz m D) hF hSz hX hY
        (fun w g => back13_any (by omega) (by omega) hPlt (by omega) (by omega) hex g)
        (fun w g => back13_any g1 (by omega) g3 (by omega) (by omega) hrd g) hG
end Go.Proofs.YtceecgklgkiffabGreatDoor

