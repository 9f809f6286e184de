import Derived.Below
import Derived.BigQuiet
import Derived.BigRegion
import Derived.ChangeOld
import Derived.Deep.DeepCutAuto
import Derived.Deep.LoopGhost
import Derived.Deep.QuietTactic
import Derived.Deep.RegionHeld3
import Derived.Deep.RegionWith
import Derived.Laws.BitsAllLaws
import Derived.Laws.CopyRow
import Derived.Laws.IdiomCopy
import Derived.Laws.IdiomRangeMap
import Derived.OpenShut
import Derived.OwnWalk
import Derived.ProofKit
import Derived.Scope
import Derived.ShutString
import Derived.WalkKit
import Derived.WalkLawsBesides
import Derived.WalkMore
import Derived.WalkSpells
import Derived.Test.YtalglldkjbinbaaGreatPt5
import Derived.Test.YtalglldkjbinbaaGreatPt11
/- DivMod and Small, by the code and by the document, whatever the divisor. -/
namespace Go.Proofs.YtalglldkjbinbaaGreat
open Go.ChangeShapes Go.WideShapes Go.ChangeAt Go.RowKit
open Na Ar
set_option linter.unusedVariables false
def divE (D : Int) : Int := if D = 0 then 30 else 0
def quoL (X D : Int) : List Int := if D = 0 then [] else words (X / D)
def remL (X D : Int) : List Int := if D = 0 then [] else words (X % D)
section
variable {a b : Option Addr} {n m c1 c2 : Nat} {xs ys : List Int} {w : World}
theorem ref3DivX (hr1 : RowAt .u64 w a n xs) (hr2 : RowAt .u64 w b m ys) (hx : Ws xs) (hy : Ws ys) (hn : n ≤ 3000000) (hm : m ≤ 3000000) :
    Calls Tryz.prog 41 #[.slice a n c1, .slice b m c2] w fun e w' => ∃ a1 n1 d1 a2 n2 d2, e = .returned (.tuple #[.slice a1 n1 d1, .slice a2 n2 d2, .int .i64 (divE (num ys))]) ∧ RowC w' a1 n1 d1 (quoL (num xs) (num ys)) ∧ RowC w' a2 n2 d2 (remL (num xs) (num ys)) ∧ Below w.heap.size w w' := by
  have h0 := num_nonneg hy
  by_cases hz : num ys = 0
  · refine (ref3DivZero_any (xs := xs) hr2 hy (by omega) hz).mono ?_
    rintro e w' ⟨rfl, hb⟩
    unfold divE quoL remL
    rw [if_pos hz, if_pos hz, if_pos hz]
    exact ⟨none, 0, 0, none, 0, 0, rfl, rowC_nil _, rowC_nil _, hb⟩
  · refine (ref3Div_any hr1 hr2 hx hy (by omega) (by omega) (by omega)).mono ?_
    rintro e w' ⟨a1, n1, d1, a2, n2, d2, rfl, q1, q2, hb⟩
    unfold divE quoL remL
    rw [if_neg hz, if_neg hz, if_neg hz]
    exact ⟨a1, _, d1, a2, _, d2, rfl, q1, q2, hb⟩
end
end Go.Proofs.YtalglldkjbinbaaGreat

/- plumbref03: Gcd, Lowest, Root; quot.Lowest whatever comes in. -/
namespace Go.Proofs.YtalglldkjbinbaaGreat
open Go.ChangeShapes Go.WideShapes Go.ChangeAt Go.RowKit
open Na Ar
set_option linter.unusedVariables false
theorem gcd_len {xs ys : List Int} (hx : Ws xs) (hy : Ws ys) : (words (Int.gcd (num xs) (num ys) : Int)).length ≤ xs.length + ys.length := by
  have x0 := num_nonneg hx
  have y0 := num_nonneg hy
  have g0 : 0 ≤ (Int.gcd (num xs) (num ys) : Int) := by omega
  by_cases hz : num xs = 0
  · rw [hz, Int.gcd_zero_left]
    have e : ((num ys).natAbs : Int) = num ys := by omega
    rw [e]
    have := words_le hy
    omega
  · have h := Int.le_of_dvd (show 0 < num xs by omega) (Int.gcd_dvd_left (a := num xs) (b := num ys))
    have := words_mono g0 h
    have := words_le hx
    omega
set_option maxHeartbeats 3200000 in
set_option maxRecDepth 100000 in
theorem ref3Gcd_any {a b : Option Addr} {n m c1 c2 : Nat} {xs ys : List Int} {w : World} (hr1 : RowAt .u64 w a n xs) (hr2 : RowAt .u64 w b m ys) (hx : Ws xs) (hy : Ws ys) (hn : n ≤ 3000000) (hm : m ≤ 3000000) :
    Calls Tryz.prog 74 #[.slice a n c1, .slice b m c2] w fun e w' => ∃ va l c, e = .returned (.slice va l c) ∧ RowC w' va l c (words (Int.gcd (num xs) (num ys) : Int)) ∧ Below w.heap.size w w' := by
  have hX0 := num_nonneg hx
  have hY0 := num_nonneg hy
  have wx := words_le hx
  have wy := words_le hy
  rw [hr1.1] at wx
  rw [hr2.1] at wy
  go_enter Tryz.func74, Tryz.ntmps74
  go_wp2_with fail
  refine (ref3Norm_any hr1 hx (by omega)).mono ?_
  rintro e w1 ⟨v1, rfl, hv1, hb1⟩
  obtain ⟨xa, xc, rfl, hxr⟩ := hv1.readsC
  have hr2' := hr2.later hb1
  clear hr1 hr2 hv1
  generalize hX : num xs = X at *
  generalize hlx : (words X).length = lx at *
  clear hlx
  go_wp2_with fail
  refine (ref3Norm_any hr2' hy (by omega)).mono ?_
  rintro e w2 ⟨v2, rfl, hv2, hb2⟩
  obtain ⟨ya, yc, rfl, hyr⟩ := hv2.readsC
  have hxr2 := hxr.later hb2
  have hB2 := hb1.trans (hb2.mono hb1.size)
  clear hr2' hv2 hxr
  generalize hY : num ys = Y at *
  generalize hly : (words Y).length = ly at *
  have HX : Hid (num xs = X) := hX
  have HY : Hid (num ys = Y) := hY
  clear hly hX hY
  go_wp2
  go_loopg [5, 6, 7, 8, 9] Y.toNat (fun g sa sb _ _ _ wr => ∃ (A' B' : Int) (va vb : Option Addr) (l1 l2 d1 d2 : Nat), g = B'.toNat ∧ sa = .slice va l1 d1 ∧ sb = .slice vb l2 d2 ∧ RowC wr va l1 d1 (words A') ∧ RowC wr vb l2 d2 (words B') ∧ 0 ≤ A' ∧ 0 ≤ B' ∧ l1 ≤ 3000000 ∧ l2 ≤ 3000000 ∧ Hid (Int.gcd A' B' = Int.gcd X Y) ∧ Below w.heap.size w wr)
  case atStart => exact ⟨X, Y, xa, ya, lx, ly, xc, yc, rfl, rfl, rfl, hxr2, hyr, hX0, hY0, by omega, by omega, rfl, hB2⟩
  case round =>
    obtain ⟨A', B', va, vb, l1, l2, d1, d2, hg, rfl, rfl, hra, hrb, hA', hB', hl1, hl2, hgc, hBw⟩ := hrel
    clear hxr2 hyr hB2
    have e2 := hrb.1.1
    have nz := words_nil hB'
    have nA := num_words hA'
    have nB := num_words hB'
    have dA := Dg_words A'
    have dB := Dg_words B'
    by_cases hz : B' = 0
    · have l0 : ¬ (0 : Int) < (l2 : Int) := by omega
      have HE : Hid ((Int.gcd (num xs) (num ys) : Int) = A') := by
        show _ = _
        have g := hgc.out
        rw [hz, Int.gcd_zero_right] at g
        rw [HX.out, HY.out, ← g]
        omega
      clear nz e2 hz hg
      go_wp2
      go_ret
      exact ⟨_, _, _, rfl, by rw [HE.out]; exact hra, hBw⟩
    · have hBp : 0 < B' := by omega
      have l0 : (0 : Int) < (l2 : Int) := by omega
      have hdm := ref3Div_any (c1 := d1) (c2 := d2) hra.1 hrb.1 dA dB (by omega) (by omega) (by rw [nB]; exact hBp)
      rw [nA, nB] at hdm
      have r0 := Int.emod_nonneg A' (show B' ≠ 0 by omega)
      have r1 := Int.emod_lt_of_pos A' hBp
      have HG : Hid (Int.gcd B' (A' % B') = Int.gcd X Y) := (gcd_step A' B').trans hgc.out
      have m1 := words_mono r0 (Int.le_of_lt r1)
      have HM : Hid ((words (A' % B')).length ≤ l2) := by show _ ≤ _; omega
      clear nz e2 m1
      go_wp2_with fail
      refine hdm.mono ?_
      rintro e w4 ⟨qa, qn, qc, ra, rn, rc, rfl, hq, hr, hb4⟩
      have hB4 := hBw.trans (hb4.mono hBw.size)
      have hrb4 := hrb.later hb4
      have hrn := hr.1.1
      have hrl : rn ≤ 3000000 := by have := HM.out; omega
      clear hdm hra hrb hq hrn
      go_wp2
      go_roundg (A' % B').toNat
      case measure => omega
      case rel => exact ⟨B', A' % B', vb, ra, l2, rn, d2, rc, rfl, rfl, rfl, hrb4, hr, by omega, r0, hl2, hrl, HG, hB4⟩
set_option maxHeartbeats 3200000 in
set_option maxRecDepth 100000 in
theorem ref3Lowest_any {a b : Option Addr} {n m c1 c2 : Nat} {xs ys : List Int} {w : World} (hr1 : RowAt .u64 w a n xs) (hr2 : RowAt .u64 w b m ys) (hx : Ws xs) (hy : Ws ys) (hn : n ≤ 1500000) (hm : m ≤ 1500000) :
    Calls Tryz.prog 48 #[.slice a n c1, .slice b m c2] w fun e w' => ∃ a1 n1 d1 a2 n2 d2, e = .returned (.tuple #[.slice a1 n1 d1, .slice a2 n2 d2]) ∧ RowC w' a1 n1 d1 (quoL (num xs) (Int.gcd (num xs) (num ys) : Int)) ∧ RowC w' a2 n2 d2 (quoL (num ys) (Int.gcd (num xs) (num ys) : Int)) ∧ Below w.heap.size w w' := by
  have hg := ref3Gcd_any (c1 := c1) (c2 := c2) hr1 hr2 hx hy (by omega) (by omega)
  have hgl := gcd_len hx hy
  have gn : 0 ≤ (Int.gcd (num xs) (num ys) : Int) := by omega
  generalize (Int.gcd (num xs) (num ys) : Int) = G at *
  have nz := words_nil gn
  have dG := Dg_words G
  have nG := num_words gn
  have l1 := hr1.1
  have l2 := hr2.1
  go_enter Tryz.func48, Tryz.ntmps48
  go_wp2_with fail
  refine hg.mono ?_
  rintro e w1 ⟨ga, gl, gc, rfl, hgr, hb1⟩
  have hle := hgr.1.1
  clear hg
  by_cases hz : G = 0
  · have t0 : ((gl : Int) == 0) = true := by simp; omega
    have E1 : Hid (quoL (num xs) G = []) := by show _ = _; unfold quoL; rw [if_pos hz]
    have E2 : Hid (quoL (num ys) G = []) := by show _ = _; unfold quoL; rw [if_pos hz]
    clear nz hle hz
    go_wp2
    go_ret2
    exact ⟨none, 0, 0, none, 0, 0, rfl, by rw [E1.out]; exact rowC_nil _, by rw [E2.out]; exact rowC_nil _, hb1⟩
  · have t0 : ((gl : Int) == 0) = false := by simp; omega
    have hgl2 : gl ≤ 3000000 := by omega
    have hx1 := hr1.later hb1
    have hy1 := hr2.later hb1
    have hd1 := ref3DivX (c1 := c1) (c2 := gc) hx1 hgr.1 hx dG (by omega) hgl2
    rw [nG] at hd1
    clear nz hle hz
    generalize divE G = E at *
    go_wp2_with fail
    refine hd1.mono ?_
    rintro e w2 ⟨a1, n1, d1, a2, n2, d2, rfl, hq2, hr2', hb2⟩
    have hgr2 := hgr.later hb2
    have hy2 := hy1.later hb2
    have hB2 := hb1.trans (hb2.mono hb1.size)
    have hd2 := ref3DivX (c1 := c2) (c2 := gc) hy2 hgr2.1 hy dG (by omega) hgl2
    rw [nG] at hd2
    clear hd1 hr2' hgr hx1 hy1
    go_wp2_with fail
    refine hd2.mono ?_
    rintro e w3 ⟨a3, n3, d3, a4, n4, d4, rfl, hq3, hr3, hb3⟩
    have hq2' := hq2.later hb3
    have hB3 := hB2.trans (hb3.mono hB2.size)
    clear hd2 hr3 hq2
    go_wp2
    go_ret2
    exact ⟨_, _, _, _, _, _, rfl, hq2', hq3, hB3⟩
end Go.Proofs.YtalglldkjbinbaaGreat

