import Derived.Below
import Derived.BigQuiet
import Derived.ChangeOld
import Derived.Deep.DeepCutAuto
import Derived.Deep.LoopGhost
import Derived.Deep.QuietTactic
import Derived.Deep.RegionWith
import Derived.KernelRfl
import Derived.Laws.BitsAllLaws
import Derived.Laws.CopyRow
import Derived.Laws.EntriesVeiled
import Derived.Laws.IdiomCopy
import Derived.Laws.IdiomRangeMap
import Derived.Laws.IdiomStrings
import Derived.Laws.RangeAny
import Derived.Laws.ResultCell
import Derived.Laws.Strings3
import Derived.Lib.OthersKept
import Derived.Lib.Strings
import Derived.Lib.TrimByte
import Derived.Lib.Walk
import Derived.OpenShut
import Derived.OwnWalk
import Derived.ProofKit
import Derived.Scope
import Derived.ShutString
import Derived.WalkKit
import Derived.WalkLawsBesides
import Derived.WalkMore
import Derived.WalkSpells
import Derived.Test.YtceecgklgkiffaaGreatDoorXy2
import Derived.Test.YtceecgklgkiffaaGreatDoorXy4
import Derived.Test.YtceecgklgkiffaaGreatDoorXy18
/- package ryu: scales: by what a count is multiplied; floors, whole ones; the ends. -/
namespace Go.Proofs.YtceecgklgkiffaaGreatDoor
open Go.ChangeShapes Go.WideShapes Go.ChangeAt Go.RowKit
open Na Ar Ry
set_option linter.unusedVariables false
namespace Ry
theorem lg_is (i : Nat) : ((i : Int) - 1076) * 315653 / 1048576 - 1 = (ryT i : Int) - 400 := by unfold ryT ryK; omega
theorem vu : vN = ryU := rfl
theorem xx : xN = ryX := rfl
theorem ww : whN = ryW := rfl
theorem ab_is {i : Nat} (hi : i < 2046) {e : Int} (he : e = 400 - (ryT i : Int)) : abV e = (ryV i : Int) ∧ pX e = (ryX (748 - ryT i) : Int) - 1000 := by
  have f := scale_facts hi
  have t1 := f.t1
  have k : (e + 348).toNat = 748 - ryT i := by omega
  unfold abV pW pV pX ryV
  rw [k, vu, xx, ww]
  refine ⟨?_, rfl⟩
  split
  · rfl
  · simp
theorem shift_floor {V c S N D : Nat} (hS0 : 64 ≤ S) (h : c * V / 2 ^ S = c * N / D) (hb : c * N / D < 18446744073709551616) :
    srLo (m3a ((V : Int) / 18446744073709551616) ((V : Int) % 18446744073709551616) (c : Int)) (m3b ((V : Int) / 18446744073709551616) ((V : Int) % 18446744073709551616) (c : Int)) (S - 64) = ((c * N / D : Nat) : Int) := by
  unfold srLo m3a m3b
  have e1 : (V : Int) / 18446744073709551616 * 18446744073709551616 + (V : Int) % 18446744073709551616 = V := by omega
  rw [e1]
  have e2 : (V : Int) * c / 340282366920938463463374607431768211456 * 18446744073709551616 + (V : Int) * c / 18446744073709551616 % 18446744073709551616 = (V : Int) * c / 18446744073709551616 := by
    generalize (V : Int) * c = P
    omega
  rw [e2, ← h]
  have e3 : (V : Int) * c / 18446744073709551616 / 2 ^ (S - 64) = ((c * V / 2 ^ S : Nat) : Int) := by
    have : (V : Int) * c / 18446744073709551616 / 2 ^ (S - 64) = (((V * c) / 18446744073709551616 / 2 ^ (S - 64) : Nat) : Int) := by simp
    rw [this, Nat.div_div_eq_div_mul]
    have e4 : 18446744073709551616 * 2 ^ (S - 64) = 2 ^ S := by
      rw [show (18446744073709551616 : Nat) = 2 ^ 64 by rfl, ← Nat.pow_add]; congr 1; omega
    rw [e4, Nat.mul_comm]
  rw [e3]
  rw [← h] at hb
  generalize c * V / 2 ^ S = x at *
  omega
theorem zeros_two {c : Nat} (h0 : 0 < c) (hc : c < 18446744073709551616) (n : Nat) : (2 ^ n ∣ c) ↔ (n : Int) ≤ zerosW (c : Int) := by
  obtain ⟨k, m, hk, e, hx, -⟩ := zerosW_pos (x := (c : Int)) (by unfold U; omega) (by omega)
  rw [e]
  have hc' : c = 2 ^ (k + 1) * m + 2 ^ k := by exact_mod_cast hx
  have hk' : c = 2 ^ k * (2 * m + 1) := by rw [hc', Nat.pow_succ, Nat.mul_add, Nat.mul_one, Nat.mul_assoc]
  constructor
  · intro q
    rcases Nat.lt_or_ge k n with z | z
    · exfalso
      have q1 : 2 ^ (k + 1) ∣ c := Nat.dvd_trans (Nat.pow_dvd_pow 2 z) q
      rw [hk', Nat.pow_succ] at q1
      have := Nat.dvd_of_mul_dvd_mul_left (Nat.pow_pos (by omega)) q1
      omega
    · omega
  · intro q
    rw [hk']
    exact Nat.dvd_trans (Nat.pow_dvd_pow 2 (by omega)) (Nat.dvd_mul_right _ _)
theorem cop25 (a b : Nat) : Nat.Coprime (2 ^ a) (5 ^ b) := Nat.Coprime.pow _ _ (by decide)
theorem whole_gen {c A B A' B' : Nat} (a0 : A = 0 ∨ A' = 0) (b0 : B = 0 ∨ B' = 0) : (2 ^ A * 5 ^ B ∣ c * (2 ^ A' * 5 ^ B')) ↔ (2 ^ A ∣ c ∧ 5 ^ B ∣ c) := by
  have c1 : Nat.Coprime (2 ^ A) (2 ^ A' * 5 ^ B') := by
    rcases a0 with a0 | a0
    · rw [a0, Nat.pow_zero]; exact Nat.coprime_one_left _
    · rw [a0, Nat.pow_zero, Nat.one_mul]; exact cop25 _ _
  have c2 : Nat.Coprime (5 ^ B) (2 ^ A' * 5 ^ B') := by
    rcases b0 with b0 | b0
    · rw [b0, Nat.pow_zero]; exact Nat.coprime_one_left _
    · rw [b0, Nat.pow_zero, Nat.mul_one]; exact (cop25 _ _).symm
  constructor
  · intro q
    exact ⟨c1.dvd_of_dvd_mul_right (Nat.dvd_trans (Nat.dvd_mul_right _ _) q), c2.dvd_of_dvd_mul_right (Nat.dvd_trans (Nat.dvd_mul_left _ _) q)⟩
  · rintro ⟨q1, q2⟩
    exact Nat.dvd_trans ((cop25 A B).mul_dvd_of_dvd_of_dvd q1 q2) (Nat.dvd_mul_right _ _)
/-- when a count's number is whole -/
theorem whole_is {i c : Nat} (h0 : 0 < c) (hc : c < 18446744073709551616) : (c * ryN i % ryD i = 0) ↔ (((ryT i : Int) - 400 - ((i : Int) - 1076) ≤ zerosW (c : Int)) ∧ 5 ^ ((ryT i : Int) - 400).toNat ∣ c) := by
  have z := zeros_two h0 hc (ryT i + 676 - i)
  have zb := (zerosW_bd (x := (c : Int)) (by unfold U; omega)).1
  have z' : ((ryT i : Int) - 400 - ((i : Int) - 1076) ≤ zerosW (c : Int)) ↔ 2 ^ (ryT i + 676 - i) ∣ c := by rw [z]; omega
  have e5 : ((ryT i : Int) - 400).toNat = ryT i - 400 := by omega
  have g := whole_gen (c := c) (A := ryT i + 676 - i) (B := ryT i - 400) (A' := i - (ryT i + 676)) (B' := 400 - ryT i) (by omega) (by omega)
  rw [z', e5, ← g]
  unfold ryN ryD
  exact (Nat.dvd_iff_mod_eq_zero ..).symm
theorem Bk.all5' {w : World} {g : Nat} {t : TypeId} {z0 z1 z2 z3 z4 : Value} (h : Bk w g t #[z0, z1, z2, z3, z4]) (a b c d e : Value) :
    Bk (((((w.setCell ⟨g, 0, none⟩ a).setCell ⟨g, 1, none⟩ b).setCell ⟨g, 2, none⟩ c).setCell ⟨g, 3, none⟩ d).setCell ⟨g, 4, none⟩ e) g t #[a, b, c, d, e] := by
  have := ((((h.set 0 a).set 1 b).set 2 c).set 3 d).set 4 e
  simpa using this
theorem floor_lt {i c : Nat} (hi : i < 2046) (hc : c ≤ 36028797018963968) : c * ryN i / ryD i < 4611686018427387904 := by
  have f := scale_facts hi
  have dp := ryD_pos i
  rw [Nat.div_lt_iff_lt_mul dp]
  have h1 : c * ryN i ≤ 36028797018963968 * (100 * ryD i) := Nat.mul_le_mul hc (Nat.le_of_lt f.hi)
  omega
theorem floor_ge {i c : Nat} (hi : i < 2046) (h0 : 0 < c) : 1 ≤ c * ryN i / ryD i := by
  have f := (scale_facts hi).lo
  have dp := ryD_pos i
  rw [Nat.le_div_iff_mul_le dp]
  have h1 : 1 * ryN i ≤ c * ryN i := Nat.mul_le_mul_right _ h0
  omega
end Ry
/-- a scale as a value -/
def scC (i : Nat) : Array Value := #[.int .i64 ((i : Int) - 1076), .int .i64 ((ryT i : Int) - 400), .int .u64 ((ryV i : Int) / 18446744073709551616), .int .u64 ((ryV i : Int) % 18446744073709551616), .int .i64 (ryS i : Int)]
def scV12 (i : Nat) : Value := .agg (scC i)
set_option maxHeartbeats 1600000 in
set_option maxRecDepth 100000 in
theorem scaleOf_any {i : Nat} (hi : i < 2046) {t : Int} (ht : t = (i : Int) - 1076) (w : World) :
    Calls Tryz.prog 95 #[.int .i64 t] w fun e w' => e = .returned (scV12 i) ∧ Below w.heap.size w w' := by
  have f := scale_facts hi
  obtain ⟨f1, f2, f3, f4, f5, f6, f7, f8, f9, f10⟩ := f
  clear f5 f1 f2
  obtain ⟨L, hL⟩ : ∃ L, L = t * 315653 / 1048576 := ⟨_, rfl⟩
  have e1 : L - 1 = (ryT i : Int) - 400 := by rw [hL, ht]; exact lg_is i
  have c1 := fun w => log10_in (e := t) (by omega) w
  rw [← hL] at c1
  have c2 := fun w => above8_in (e := -(L - 1)) (by unfold inT; omega) w
  obtain ⟨a1, a2⟩ := ab_is hi (e := -(L - 1)) (by omega)
  rw [a1, a2] at c2
  have hv : scC i = #[.int .i64 t, .int .i64 (L - 1), .int .u64 ((ryV i : Int) / 18446744073709551616), .int .u64 ((ryV i : Int) % 18446744073709551616), .int .i64 (L - 1 - t - ((ryX (748 - ryT i) : Int) - 1000))] := by
    unfold scC
    rw [e1, show (ryT i : Int) - 400 - t - ((ryX (748 - ryT i) : Int) - 1000) = (ryS i : Int) by omega, ht]
  unfold scV12
  rw [hv]
  have hx0 : -1000 ≤ (ryX (748 - ryT i) : Int) - 1000 := by omega
  have hx1 : (ryX (748 - ryT i) : Int) - 1000 ≤ 3000 := by omega
  generalize (ryX (748 - ryT i) : Int) - 1000 = X at *
  generalize (ryV i : Int) / 18446744073709551616 = H at *
  generalize (ryV i : Int) % 18446744073709551616 = O at *
  have b0 : -330 ≤ L ∧ L ≤ 300 := by omega
  have b1 : -1076 ≤ t ∧ t ≤ 1000 := by omega
  clear a1 a2 hv hL e1 ht f3 f4 f6 f7 f8 f9 f10
  obtain ⟨b00, b01⟩ := b0
  obtain ⟨b10, b11⟩ := b1
  have t0 := Bk.new w 139 #[.int .i64 0, .int .i64 0, .int .u64 0, .int .u64 0, .int .i64 0]
  have hb0 := alloc_below (w := w) (.cells #[.int .i64 0, .int .i64 0, .int .u64 0, .int .u64 0, .int .i64 0] 139)
  have H0 : Hid (Bk (w.alloc (.cells #[.int .i64 0, .int .i64 0, .int .u64 0, .int .u64 0, .int .i64 0] 139)) w.heap.size 139 #[.int .i64 0, .int .i64 0, .int .u64 0, .int .u64 0, .int .i64 0]) := t0
  have HB0 : Hid (Below w.heap.size w (w.alloc (.cells #[.int .i64 0, .int .i64 0, .int .u64 0, .int .u64 0, .int .i64 0] 139))) := hb0
  clear t0 hb0
  go_enter Tryz.func95, Tryz.ntmps95
  go_wp2_with fail
  refine (c1 _).mono ?_
  rintro r w1 ⟨rfl, hb1⟩
  have K1 := H0.out.later hb1
  have B1 := HB0.out.trans (hb1.mono HB0.out.size)
  clear c1 H0 HB0
  go_wp2_with fail
  refine (c2 _).mono ?_
  rintro r w2 ⟨rfl, hb2⟩
  have K2 := K1.later hb2
  have B2 : Hid (Below w.heap.size w w2) := B1.trans (hb2.mono B1.size)
  clear c2 K1 B1
  obtain ⟨y0, y1, y2, y3, y4⟩ := (⟨K2.frozen 0, K2.frozen 1, K2.frozen 2, K2.frozen 3, K2.frozen 4⟩ : _ ∧ _ ∧ _ ∧ _ ∧ _)
  obtain ⟨z0, z1, z2, z3, z4⟩ := (⟨K2.cell 0 rfl, K2.cell 1 rfl, K2.cell 2 rfl, K2.cell 3 rfl, K2.cell 4 rfl⟩ : _ ∧ _ ∧ _ ∧ _ ∧ _)
  have HK : Hid (Bk w2 w.heap.size 139 #[.int .i64 0, .int .i64 0, .int .u64 0, .int .u64 0, .int .i64 0]) := K2
  clear K2 hb1 hb2
  go_wp2
  refine bodyPost_ret (results_cell_row rfl _ _ w.heap.size 139 _ (0, 0) _ rfl (Bk.all5' HK.out _ _ _ _ _) Tryz.underlying139 rfl (by kernel_rfl)) rfl ?_
  refine ⟨rfl, ?_⟩
  exact below_cell (below_cell (below_cell (below_cell (below_cell B2.out (by omega) (by omega)) (by omega) (by omega)) (by omega) (by omega)) (by omega) (by omega)) (by omega) (by omega)
set_option maxHeartbeats 1600000 in
set_option maxRecDepth 100000 in
theorem rfloor_any {i c : Nat} (hi : i < 2046) (hc : c ≤ 36028797018963968) (w : World) :
    Calls Tryz.prog 99 #[scV12 i, .int .u64 (c : Int)] w fun e w' => e = .returned (.int .u64 ((c * ryN i / ryD i : Nat) : Int)) ∧ Below w.heap.size w w' := by
  have f := scale_facts hi
  have hl := floor_lt hi hc
  have hq := scale_floor hi (c := c) hc
  have key := shift_floor (V := ryV i) (c := c) (S := ryS i) (N := ryN i) (D := ryD i) (by have := f.s0; omega) hq (by omega)
  obtain ⟨f1, f2, f3, f4, f5, f6, f7, f8, f9, f10⟩ := f
  clear f5 f1 f2
  have uh : U ((ryV i : Int) / 18446744073709551616) := by unfold U; omega
  have ul : U ((ryV i : Int) % 18446744073709551616) := by unfold U; omega
  have uc : U (c : Int) := by unfold U; omega
  have M := fun w => mul3_any uh ul uc w
  have t0 := Bk.new w 139 (scC i)
  have hb0 := alloc_below (w := w) (.cells (scC i) 139)
  have ua := U_m3a uh ul uc
  have ub : U (m3b ((ryV i : Int) / 18446744073709551616) ((ryV i : Int) % 18446744073709551616) (c : Int)) := by unfold U m3b; omega
  have S := fun w => shr_any ua ub ((ryS i : Int) - 64) w
  have ec : clampN ((ryS i : Int) - 64) = ryS i - 64 := by
    rw [show (ryS i : Int) - 64 = ((ryS i - 64 : Nat) : Int) by omega]; exact clampN_of _ (by omega)
  rw [ec, key] at S
  have hs0 : (ryS i : Int) - 64 ≤ 100 := by omega
  have hs1 : 0 ≤ (ryS i : Int) - 64 := by omega
  have hS3 : (ryS i : Int) ≤ 200 := by omega
  have hS4 : 0 ≤ (ryS i : Int) := by omega
  unfold scV12 scC at *
  generalize m3a ((ryV i : Int) / 18446744073709551616) ((ryV i : Int) % 18446744073709551616) (c : Int) = A at *
  generalize m3b ((ryV i : Int) / 18446744073709551616) ((ryV i : Int) % 18446744073709551616) (c : Int) = B at *
  generalize m3c ((ryV i : Int) / 18446744073709551616) ((ryV i : Int) % 18446744073709551616) (c : Int) = C at *
  generalize (ryV i : Int) / 18446744073709551616 = H at *
  generalize (ryV i : Int) % 18446744073709551616 = O at *
  generalize ((c * ryN i / ryD i : Nat) : Int) = R at *
  generalize srHi A B (ryS i - 64) = R1 at *
  generalize srLost A B (ryS i - 64) = R2 at *
  have HB0 : Hid (Below w.heap.size w (w.alloc (.cells #[.int .i64 ((i : Int) - 1076), .int .i64 ((ryT i : Int) - 400), .int .u64 H, .int .u64 O, .int .i64 (ryS i : Int)] 139))) := hb0
  clear hq key f3 f4 f6 f7 f8 f9 f10 ec hl hb0
  go_enter Tryz.func99, Tryz.ntmps99
  go_wp2_with fail
  refine (M _).mono ?_
  rintro r w1 ⟨x, y, z, rfl, hg1, rfl, rfl, rfl⟩
  have K1 := t0.later hg1.2
  have B1 := HB0.out.trans (hg1.2.mono HB0.out.size)
  have z4 := K1.cell 4 rfl
  clear t0 HB0 M K1
  go_wp2_with fail
  refine (S _).mono ?_
  rintro r w2 ⟨rfl, hg2⟩
  have B2 : Hid (Below w.heap.size w w2) := B1.trans (hg2.2.mono B1.size)
  clear S B1 z4 hg1 hg2
  go_wp2
  go_ret
  exact ⟨rfl, B2.out⟩
end Go.Proofs.YtceecgklgkiffaaGreatDoor

