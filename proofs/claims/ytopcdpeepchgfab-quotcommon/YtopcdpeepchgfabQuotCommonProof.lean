/-
  THE SHELL OF A PROOF OF 'Rows.QuotCommonSaid' ('plumb/plumblaw03.QuotCommon'), WRITTEN BY PROGRAM (proof-skeleton.mjs, third state) off the guide's own print for that function. Not trusted: Lean checks it.
  YOURS IS THE HOLE MARKED 'HOLE' (it bears 'sorry'). ALL ELSE IS THE GUIDE's OWN WAY (howto/template/XProofs.lean; Derived/Test/ChunkProofs.lean for 'Below') at this function's number and types: leave it.
-/
import Derived.Test.YtopcdpeepchgfabRows
import Derived.WalkKit
import Derived.ProofKit
import Derived.OpenShut
import Derived.ShutString
import Derived.WalkLawsBesides
import Derived.WalkSpells
import Derived.Deep.RegionWith
import Derived.Deep.DeepCutAuto
import Derived.Deep.DeepFit
import Derived.Test.YtopcdpeepchgfabQuotCo
import Derived.ChangeOld
import Derived.Below
namespace Go.Proofs.Ytopcdpeepchgfab.quotCommon
open Go.ChangeShapes Go.WideShapes Go.ChangeAt Go.RowKit
open Go.ChangeMaps (open_string shut_string)
set_option linter.unusedVariables false

theorem own : ownKnob Try.prog.godebug = none := by kernel_rfl
theorem laidOut : laidOutB Try.prog = true := by kernel_rfl

/-- WHAT THE WALK IS TOLD OF A SLICE OF INTEGERS THAT CAME IN: it is nil; or it leads to a row of 'cap' cells, the numbers 'zs' (the first 'len' are its elements, the rest its spare room), each fitting its kind. -/
def IsRow (k : IntKind) (w : World) (a : Option Addr) (len cap : Nat) (zs : List Int) : Prop :=
  (a = none ∧ len = 0 ∧ cap = 0 ∧ zs = []) ∨
  ∃ x, a = some x ∧ len ≤ cap ∧ cap ≤ maxLen ∧ zs.length = cap ∧ (∀ i, i < zs.length → w.cell? (x.add i) = some (.int k (zs.getD i 0))) ∧ ∀ n ∈ zs, (Lit.int k n).wf = true

open Na Ar
/-! ### STEP 1: THE WALK: the Go text returns true, AND WRITES NOTHING THAT WAS THERE: 'Below w.heap.size w w'' (Derived/Below.lean: '.refl', '.alloc', '.drew', '.setCell' at a new block, '.trans'). Open each 'IsRow' by 'rcases' AHEAD of 'go_enter'; part every test ahead of the walk. -/
set_option maxHeartbeats 12800000 in
set_option maxRecDepth 100000 in
theorem walk (a0 : Option Addr) (len0 cap0 : Nat) (z0 : List Int) (a1 : Option Addr) (len1 cap1 : Nat) (z1 : List Int) (a2 : Option Addr) (len2 cap2 : Nat) (z2 : List Int) (w : World) (w0 : IsRow .u64 w a0 len0 cap0 z0) (w1 : IsRow .u64 w a1 len1 cap1 z1) (w2 : IsRow .u64 w a2 len2 cap2 z2) :
    Calls Try.prog 4 #[.slice a0 len0 cap0, .slice a1 len1 cap1, .slice a2 len2 cap2] w fun e w' => e = .returned (.bool true) ∧ Below w.heap.size w w' := by
  have q0 := row_of w0
  obtain ⟨hr0, hx0, hm0⟩ := q0
  have q1 := row_of w1
  obtain ⟨hr1, hx1, hm1⟩ := q1
  have q2 := row_of w2
  obtain ⟨hr2, hx2, hm2⟩ := q2
  clear w0 w1 w2
  generalize z0.take len0 = x0 at *
  generalize z1.take len1 = x1 at *
  generalize z2.take len2 = x2 at *
  have B_0 := Below.refl w.heap.size w
  go_enter Try.func4, Try.ntmps4
  go_wp2_with fail
  refine (live_any _).mono ?_
  rintro e wt1 ⟨rfl, hbt1⟩
  have hr0_t1 := hr0.later hbt1
  clear hr0
  have hr1_t1 := hr1.later hbt1
  clear hr1
  have hr2_t1 := hr2.later hbt1
  clear hr2
  have hB_t1 := B_0.trans (hbt1.mono B_0.size)
  go_wp2_with fail
  refine (boundedQ hr0_t1 hx0 hm0 200 (by omega)).mono ?_
  rintro e wt2 ⟨caG, cnG, ccG, LG, rfl, rG, mG, tG, hlG, HTLG, hbt2⟩
  have hr0_t2 := hr0_t1.later hbt2
  clear hr0_t1
  have hr1_t2 := hr1_t1.later hbt2
  clear hr1_t1
  have hr2_t2 := hr2_t1.later hbt2
  clear hr2_t1
  have hB_t2 := hB_t1.trans (hbt2.mono hB_t1.size)
  clear hr0_t2
  obtain ⟨G, hG⟩ : ∃ G, G = num LG := ⟨_, rfl⟩
  rw [← hG] at mG tG
  have pG := mG.nonneg
  clear hG
  go_wp2_with fail
  refine (boundedQ hr1_t2 hx1 hm1 200 (by omega)).mono ?_
  rintro e wt3 ⟨caP, cnP, ccP, LP, rfl, rP, mP, tP, hlP, HTLP, hbt3⟩
  have hr1_t3 := hr1_t2.later hbt3
  clear hr1_t2
  have hr2_t3 := hr2_t2.later hbt3
  clear hr2_t2
  have rG_t3 := rG.later hbt3
  clear rG
  have hB_t3 := hB_t2.trans (hbt3.mono hB_t2.size)
  clear hr1_t3
  obtain ⟨P, hP⟩ : ∃ P, P = num LP := ⟨_, rfl⟩
  rw [← hP] at mP tP
  have pP := mP.nonneg
  clear hP
  have lX : Lt (G * P) 400 := tG.mul tP
  have lX0 : Lt (G * P + 0) 400 := by rw [Int.add_zero]; exact lX
  have rt4 := rowC_nil wt3
  go_wp2_with fail
  refine (timesQ rG_t3 rP rt4 mG mP Nm.nil lX lX0 (by omega)).mono ?_
  rintro e wt5 ⟨xa, xn, xc, xl, rfl, rX, mX, eX, hbt5⟩
  have hr2_t5 := hr2_t3.later hbt5
  clear hr2_t3
  have rG_t5 := rG_t3.later hbt5
  clear rG_t3
  have rP_t5 := rP.later hbt5
  clear rP
  have rt4_t5 := rt4.later hbt5
  clear rt4
  have hB_t5 := hB_t3.trans (hbt5.mono hB_t3.size)
  clear rt4_t5
  clear rP_t5
  go_wp2_with fail
  refine (boundedQ hr2_t5 hx2 hm2 200 (by omega)).mono ?_
  rintro e wt6 ⟨caQ, cnQ, ccQ, LQ, rfl, rQ, mQ, tQ, hlQ, HTLQ, hbt6⟩
  have hr2_t6 := hr2_t5.later hbt6
  clear hr2_t5
  have rG_t6 := rG_t5.later hbt6
  clear rG_t5
  have rX_t6 := rX.later hbt6
  clear rX
  have hB_t6 := hB_t5.trans (hbt6.mono hB_t5.size)
  clear hr2_t6
  obtain ⟨Q, hQ⟩ : ∃ Q, Q = num LQ := ⟨_, rfl⟩
  rw [← hQ] at mQ tQ
  have pQ := mQ.nonneg
  clear hQ
  have lY : Lt (G * Q) 400 := tG.mul tQ
  have lY0 : Lt (G * Q + 0) 400 := by rw [Int.add_zero]; exact lY
  have rt7 := rowC_nil wt6
  go_wp2_with fail
  refine (timesQ rG_t6 rQ rt7 mG mQ Nm.nil lY lY0 (by omega)).mono ?_
  rintro e wt8 ⟨ya, yn, yc, yl, rfl, rY, mY, eY, hbt8⟩
  have rG_t8 := rG_t6.later hbt8
  clear rG_t6
  have rX_t8 := rX_t6.later hbt8
  clear rX_t6
  have rQ_t8 := rQ.later hbt8
  clear rQ
  have rt7_t8 := rt7.later hbt8
  clear rt7
  have hB_t8 := hB_t6.trans (hbt8.mono hB_t6.size)
  clear rt7_t8
  clear rQ_t8
  have ix : xn ≤ 3700000 := by have h1 := rX_t8.1.1; rw [eX.out] at h1; have h2 := lX0.len; omega
  have iy : yn ≤ 3700000 := by have h1 := rY.1.1; rw [eY.out] at h1; have h2 := lY0.len; omega
  obtain ⟨X, hX⟩ : ∃ X, X = G * P + 0 := ⟨_, rfl⟩
  obtain ⟨Y, hY⟩ : ∃ Y, Y = G * Q + 0 := ⟨_, rfl⟩
  rw [← hX] at mX eX lX0
  rw [← hY] at mY eY lY0
  have hcm := common_facts pG lX0.1 lY0.1 hX hY
  have HC : Hid (X = 0 ∧ Y = 0 ∨ 0 < G ∧ 0 < (Int.gcd X Y : Int) ∧ (Int.gcd X Y : Int) % G = 0) := hcm
  have lD : Lt (Int.gcd X Y : Int) 400 := gcd_lt lX0 lY0
  have HGG : Hid ((Int.gcd Y X : Int) = (Int.gcd X Y : Int)) := by show _ = _; rw [Int.gcd_comm]
  have lD2 : Lt (Int.gcd Y X : Int) 400 := by rw [HGG.out]; exact lD
  clear hcm hX hY lX lY
  go_wp2_with fail
  refine (gcdQ rX_t8 rY mX mY lD (by omega) ix iy).mono ?_
  rintro e wt9 ⟨da, dn, dc, dl, rfl, rD, mD, eD, hbt9⟩
  have rG_t9 := rG_t8.later hbt9
  clear rG_t8
  have rX_t9 := rX_t8.later hbt9
  clear rX_t8
  have rY_t9 := rY.later hbt9
  clear rY
  have hB_t9 := hB_t8.trans (hbt9.mono hB_t8.size)
  have id : dn ≤ 3700000 := by have h1 := rD.1.1; rw [eD.out] at h1; have h2 := lD.len; omega
  go_wp2_with fail
  refine (normalQ rD mD eD).mono ?_
  rintro e wt10 ⟨rfl, hbt10⟩
  have rG_t10 := rG_t9.later hbt10
  clear rG_t9
  have rX_t10 := rX_t9.later hbt10
  clear rX_t9
  have rY_t10 := rY_t9.later hbt10
  clear rY_t9
  have rD_t10 := rD.later hbt10
  clear rD
  have hB_t10 := hB_t9.trans (hbt10.mono hB_t9.size)
  go_wp2_with fail
  refine (gcdQ rY_t10 rX_t10 mY mX lD2 (by omega) iy ix).mono ?_
  rintro e wt11 ⟨fa, fn, fc, fl, rfl, rF, mF, eF, hbt11⟩
  have rG_t11 := rG_t10.later hbt11
  clear rG_t10
  have rX_t11 := rX_t10.later hbt11
  clear rX_t10
  have rY_t11 := rY_t10.later hbt11
  clear rY_t10
  have rD_t11 := rD_t10.later hbt11
  clear rD_t10
  have hB_t11 := hB_t10.trans (hbt11.mono hB_t10.size)
  go_wp2_with fail
  refine (sameQ rD_t11 rF mD mF eD eF HGG.out.symm).mono ?_
  rintro e wt12 ⟨rfl, hbt12⟩
  have rG_t12 := rG_t11.later hbt12
  clear rG_t11
  have rX_t12 := rX_t11.later hbt12
  clear rX_t11
  have rY_t12 := rY_t11.later hbt12
  clear rY_t11
  have rD_t12 := rD_t11.later hbt12
  clear rD_t11
  have rF_t12 := rF.later hbt12
  clear rF
  have hB_t12 := hB_t11.trans (hbt12.mono hB_t11.size)
  clear rF_t12
  clear mF eF
  go_wp2_with fail
  refine (zeroQ rX_t12 mX).mono ?_
  rintro e wt13 ⟨rfl, hbt13⟩
  have rG_t13 := rG_t12.later hbt13
  clear rG_t12
  have rX_t13 := rX_t12.later hbt13
  clear rX_t12
  have rY_t13 := rY_t12.later hbt13
  clear rY_t12
  have rD_t13 := rD_t12.later hbt13
  clear rD_t12
  have hB_t13 := hB_t12.trans (hbt13.mono hB_t12.size)
  have px := mX.nonneg
  have py := mY.nonneg
  by_cases hXY : X = 0 ∧ Y = 0
  · skip
    have z0 : decide (X = 0) = true := decide_eq_true hXY.1
    have z1 : decide (Y = 0) = true := decide_eq_true hXY.2
    have hdn : dn = 0 := by
      have h1 := rD_t13.1.1
      rw [eD.out, hXY.1, hXY.2] at h1
      have h2 : (words ((Int.gcd 0 0 : Nat) : Int)).length = 0 := (words_nil (by decide)).mpr (by decide)
      omega
    rw [z0]
    clear hXY
    go_wp2_with fail
    refine (zeroQ rY_t13 mY).mono ?_
    rintro e wt14 ⟨rfl, hbt14⟩
    have rG_t14 := rG_t13.later hbt14
    clear rG_t13
    have rX_t14 := rX_t13.later hbt14
    clear rX_t13
    have rY_t14 := rY_t13.later hbt14
    clear rY_t13
    have rD_t14 := rD_t13.later hbt14
    clear rD_t13
    have hB_t14 := hB_t13.trans (hbt14.mono hB_t13.size)
    rw [z1]
    have hdz : ((dn : Int) == 0) = true := by simp [hdn]
    clear hdn
    go_wp2
    go_ret
    exact ⟨rfl, hB_t14⟩
  · skip
    obtain ⟨hGp, hDp, hDG⟩ := HC.out.resolve_left hXY
    have hDX : X % (Int.gcd X Y : Int) = 0 := Int.emod_eq_zero_of_dvd (Int.gcd_dvd_left ..)
    have hDY : Y % (Int.gcd X Y : Int) = 0 := Int.emod_eq_zero_of_dvd (Int.gcd_dvd_right ..)
    have HPQ := lowest_facts (X := X) (Y := Y) hDp
    have HP1 : Hid (X / (Int.gcd X Y : Int) * (Int.gcd X Y : Int) + 0 = X) := by show _ = _; rw [Int.add_zero]; exact HPQ.1
    have HP2 : Hid (Y / (Int.gcd X Y : Int) * (Int.gcd X Y : Int) + 0 = Y) := by show _ = _; rw [Int.add_zero]; exact HPQ.2.1
    have HP3 : Hid ((Int.gcd (X / (Int.gcd X Y : Int)) (Y / (Int.gcd X Y : Int)) : Int) = 1) := HPQ.2.2
    have hlow := fun (w9 : World) (h1 : RowC w9 xa xn xc xl) (h2 : RowC w9 ya yn yc yl) => lowestQ h1 h2 mX mY ix iy hDp
    have HST : Hid ((Int.gcd Y (X % Y) : Int) = (Int.gcd X Y : Int)) := by show _ = _; rw [gcd_step X Y]
    have HZ : Hid (Y = 0 → (Int.gcd X Y : Int) = X) := fun h => by rw [h, Int.gcd_zero]; omega
    obtain ⟨D, hD⟩ : ∃ D, D = (Int.gcd X Y : Int) := ⟨_, rfl⟩
    rw [← hD] at mD eD lD hDp hDG hDX hDY HP1 HP2 HP3 hlow HST HZ
    clear hD HPQ HGG lD2
    obtain ⟨U1, hU1⟩ : ∃ U1, U1 = X / D := ⟨_, rfl⟩
    obtain ⟨V1, hV1⟩ : ∃ V1, V1 = Y / D := ⟨_, rfl⟩
    rw [← hU1, ← hV1] at HP3
    rw [← hU1] at HP1 hlow
    rw [← hV1] at HP2 hlow
    have pU : 0 ≤ U1 := by rw [hU1]; exact Int.ediv_nonneg px (Int.le_of_lt hDp)
    have pV : 0 ≤ V1 := by rw [hV1]; exact Int.ediv_nonneg py (Int.le_of_lt hDp)
    have kU : U1 ≤ X := by rw [hU1]; exact Int.ediv_le_self D px
    have kV : V1 ≤ Y := by rw [hV1]; exact Int.ediv_le_self D py
    clear hU1 hV1
    have lU := lX0.le pU kU
    have lV := lY0.le pV kV
    have lu1 : Lt (U1 * D) 400 := by have h := HP1.out; rw [Int.add_zero] at h; rw [h]; exact lX0
    have lv1 : Lt (V1 * D) 400 := by have h := HP2.out; rw [Int.add_zero] at h; rw [h]; exact lY0
    have lu0 : Lt (U1 * D + 0) 400 := by rw [Int.add_zero]; exact lu1
    have lv0 : Lt (V1 * D + 0) 400 := by rw [Int.add_zero]; exact lv1
    have lone : Lt (Int.gcd U1 V1 : Int) 1 := by rw [HP3.out]; exact lt_one
    have zd : decide (D = 0) = false := decide_eq_false (by omega)
    by_cases hX0 : X = 0
    · skip
      have hY1 : ¬ Y = 0 := fun h => hXY ⟨hX0, h⟩
      have z0 : decide (X = 0) = true := decide_eq_true hX0
      have z1 : decide (Y = 0) = false := decide_eq_false hY1
      rw [z0]
      clear hX0 hXY
      go_wp2_with fail
      refine (zeroQ rY_t13 mY).mono ?_
      rintro e wt14 ⟨rfl, hbt14⟩
      have rG_t14 := rG_t13.later hbt14
      clear rG_t13
      have rX_t14 := rX_t13.later hbt14
      clear rX_t13
      have rY_t14 := rY_t13.later hbt14
      clear rY_t13
      have rD_t14 := rD_t13.later hbt14
      clear rD_t13
      have hB_t14 := hB_t13.trans (hbt14.mono hB_t13.size)
      rw [z1]
      go_wp2_with fail
      refine (zeroQ rD_t14 mD).mono ?_
      rintro e wt15 ⟨rfl, hbt15⟩
      have rG_t15 := rG_t14.later hbt15
      clear rG_t14
      have rX_t15 := rX_t14.later hbt15
      clear rX_t14
      have rY_t15 := rY_t14.later hbt15
      clear rY_t14
      have rD_t15 := rD_t14.later hbt15
      clear rD_t14
      have hB_t15 := hB_t14.trans (hbt15.mono hB_t14.size)
      rw [zd]
      go_wp2_with fail
      refine (dividesQ rD_t15 rX_t15 mD mX hDp id ix hDX).mono ?_
      rintro e wt16 ⟨rfl, hbt16⟩
      have rG_t16 := rG_t15.later hbt16
      clear rG_t15
      have rX_t16 := rX_t15.later hbt16
      clear rX_t15
      have rY_t16 := rY_t15.later hbt16
      clear rY_t15
      have rD_t16 := rD_t15.later hbt16
      clear rD_t15
      have hB_t16 := hB_t15.trans (hbt16.mono hB_t15.size)
      go_wp2_with fail
      refine (dividesQ rD_t16 rY_t16 mD mY hDp id iy hDY).mono ?_
      rintro e wt17 ⟨rfl, hbt17⟩
      have rG_t17 := rG_t16.later hbt17
      clear rG_t16
      have rX_t17 := rX_t16.later hbt17
      clear rX_t16
      have rY_t17 := rY_t16.later hbt17
      clear rY_t16
      have rD_t17 := rD_t16.later hbt17
      clear rD_t16
      have hB_t17 := hB_t16.trans (hbt17.mono hB_t16.size)
      go_wp2_with fail
      refine (dividesQ rG_t17 rD_t17 mG mD hGp (by omega) id hDG).mono ?_
      rintro e wt18 ⟨rfl, hbt18⟩
      have rG_t18 := rG_t17.later hbt18
      clear rG_t17
      have rX_t18 := rX_t17.later hbt18
      clear rX_t17
      have rY_t18 := rY_t17.later hbt18
      clear rY_t17
      have rD_t18 := rD_t17.later hbt18
      clear rD_t17
      have hB_t18 := hB_t17.trans (hbt18.mono hB_t17.size)
      clear rG_t18
      go_wp2_with fail
      refine (hlow _ rX_t18 rY_t18).mono ?_
      rintro e wt19 ⟨pa, pn, pc, pl, qa, qn, qc, ql, rfl, rp, mp, ep, rq, mq, eq, hbt19⟩
      have rX_t19 := rX_t18.later hbt19
      clear rX_t18
      have rY_t19 := rY_t18.later hbt19
      clear rY_t18
      have rD_t19 := rD_t18.later hbt19
      clear rD_t18
      have hB_t19 := hB_t18.trans (hbt19.mono hB_t18.size)
      have ip : pn ≤ 3700000 := by have h1 := rp.1.1; rw [ep.out] at h1; have h2 := lU.len; omega
      have iq : qn ≤ 3700000 := by have h1 := rq.1.1; rw [eq.out] at h1; have h2 := lV.len; omega
      have rt20 := rowC_nil wt19
      go_wp2_with fail
      refine (timesQ rp rD_t19 rt20 mp mD Nm.nil lu1 lu0 (by omega)).mono ?_
      rintro e wt21 ⟨ua, un, uc, ul, rfl, ru, mu, eu, hbt21⟩
      have rX_t21 := rX_t19.later hbt21
      clear rX_t19
      have rY_t21 := rY_t19.later hbt21
      clear rY_t19
      have rD_t21 := rD_t19.later hbt21
      clear rD_t19
      have rp_t21 := rp.later hbt21
      clear rp
      have rq_t21 := rq.later hbt21
      clear rq
      have rt20_t21 := rt20.later hbt21
      clear rt20
      have hB_t21 := hB_t19.trans (hbt21.mono hB_t19.size)
      clear rt20_t21
      have rt22 := rowC_nil wt21
      go_wp2_with fail
      refine (timesQ rq_t21 rD_t21 rt22 mq mD Nm.nil lv1 lv0 (by omega)).mono ?_
      rintro e wt23 ⟨va, vn, vc, vl, rfl, rv, mv, ev, hbt23⟩
      have rX_t23 := rX_t21.later hbt23
      clear rX_t21
      have rY_t23 := rY_t21.later hbt23
      clear rY_t21
      have rD_t23 := rD_t21.later hbt23
      clear rD_t21
      have rp_t23 := rp_t21.later hbt23
      clear rp_t21
      have rq_t23 := rq_t21.later hbt23
      clear rq_t21
      have ru_t23 := ru.later hbt23
      clear ru
      have rt22_t23 := rt22.later hbt23
      clear rt22
      have hB_t23 := hB_t21.trans (hbt23.mono hB_t21.size)
      clear rt22_t23
      go_wp2_with fail
      refine (cmpK ru_t23 rX_t23 mu mX (ordN_eq HP1.out)).mono ?_
      rintro e wt24 ⟨rfl, hbt24⟩
      have rX_t24 := rX_t23.later hbt24
      clear rX_t23
      have rY_t24 := rY_t23.later hbt24
      clear rY_t23
      have rD_t24 := rD_t23.later hbt24
      clear rD_t23
      have rp_t24 := rp_t23.later hbt24
      clear rp_t23
      have rq_t24 := rq_t23.later hbt24
      clear rq_t23
      have ru_t24 := ru_t23.later hbt24
      clear ru_t23
      have rv_t24 := rv.later hbt24
      clear rv
      have hB_t24 := hB_t23.trans (hbt24.mono hB_t23.size)
      go_wp2_with fail
      refine (cmpK rv_t24 rY_t24 mv mY (ordN_eq HP2.out)).mono ?_
      rintro e wt25 ⟨rfl, hbt25⟩
      have rX_t25 := rX_t24.later hbt25
      clear rX_t24
      have rY_t25 := rY_t24.later hbt25
      clear rY_t24
      have rD_t25 := rD_t24.later hbt25
      clear rD_t24
      have rp_t25 := rp_t24.later hbt25
      clear rp_t24
      have rq_t25 := rq_t24.later hbt25
      clear rq_t24
      have ru_t25 := ru_t24.later hbt25
      clear ru_t24
      have rv_t25 := rv_t24.later hbt25
      clear rv_t24
      have hB_t25 := hB_t24.trans (hbt25.mono hB_t24.size)
      clear ru_t25
      clear rv_t25
      go_wp2_with fail
      refine (gcdQ rp_t25 rq_t25 mp mq lone (by omega) ip iq).mono ?_
      rintro e wt26 ⟨ha, hn, hc, hl, rfl, rh, mh, eh, hbt26⟩
      have rX_t26 := rX_t25.later hbt26
      clear rX_t25
      have rY_t26 := rY_t25.later hbt26
      clear rY_t25
      have rD_t26 := rD_t25.later hbt26
      clear rD_t25
      have rp_t26 := rp_t25.later hbt26
      clear rp_t25
      have rq_t26 := rq_t25.later hbt26
      clear rq_t25
      have hB_t26 := hB_t25.trans (hbt26.mono hB_t25.size)
      clear rp_t26
      clear rq_t26
      go_wp2_with fail
      refine (natFrom_any (v := 1) (by omega) _).mono ?_
      rintro e wt27 ⟨ov, rfl, hov, hbt27⟩
      have rX_t27 := rX_t26.later hbt27
      clear rX_t26
      have rY_t27 := rY_t26.later hbt27
      clear rY_t26
      have rD_t27 := rD_t26.later hbt27
      clear rD_t26
      have rh_t27 := rh.later hbt27
      clear rh
      have hB_t27 := hB_t26.trans (hbt27.mono hB_t26.size)
      obtain ⟨oa, oc, rfl, ro⟩ := hov.readsC
      have mo : Nm (words 1) 1 := lt_one.nm (by omega)
      go_wp2_with fail
      refine (cmpK rh_t27 ro mh mo (ordN_eq HP3.out)).mono ?_
      rintro e wt28 ⟨rfl, hbt28⟩
      have rX_t28 := rX_t27.later hbt28
      clear rX_t27
      have rY_t28 := rY_t27.later hbt28
      clear rY_t27
      have rD_t28 := rD_t27.later hbt28
      clear rD_t27
      have rh_t28 := rh_t27.later hbt28
      clear rh_t27
      have ro_t28 := ro.later hbt28
      clear ro
      have hB_t28 := hB_t27.trans (hbt28.mono hB_t27.size)
      clear rh_t28
      clear ro_t28
      go_wp2_with fail
      refine (zeroQ rY_t28 mY).mono ?_
      rintro e wt29 ⟨rfl, hbt29⟩
      have rX_t29 := rX_t28.later hbt29
      clear rX_t28
      have rY_t29 := rY_t28.later hbt29
      clear rY_t28
      have rD_t29 := rD_t28.later hbt29
      clear rD_t28
      have hB_t29 := hB_t28.trans (hbt29.mono hB_t28.size)
      by_cases hY0 : Y = 0
      · skip
        have y0 : decide (Y = 0) = true := decide_eq_true hY0
        rw [y0]
        have hDXe := HZ.out hY0
        have HE : Hid (D = X) := hDXe
        clear hDXe hY0
        go_wp2_with fail
        refine (cmpK rD_t29 rX_t29 mD mX (ordN_eq HE.out)).mono ?_
        rintro e wt30 ⟨rfl, hbt30⟩
        have rX_t30 := rX_t29.later hbt30
        clear rX_t29
        have rY_t30 := rY_t29.later hbt30
        clear rY_t29
        have rD_t30 := rD_t29.later hbt30
        clear rD_t29
        have hB_t30 := hB_t29.trans (hbt30.mono hB_t29.size)
        go_wp2
        go_ret
        exact ⟨rfl, hB_t30⟩
      · skip
        have y0 : decide (Y = 0) = false := decide_eq_false hY0
        rw [y0]
        have hYp : 0 < Y := by omega
        have lR : Lt (Int.gcd Y (X % Y) : Int) 400 := by rw [HST.out]; exact lD
        go_wp2_with fail
        refine (divModQ rX_t29 rY_t29 mX mY hYp ix iy).mono ?_
        rintro e wt30 ⟨ka, kn, kc, kl, ra, rn, rc, rl, rfl, rk, mk, ek, rr, mr, er, hbt30⟩
        have rX_t30 := rX_t29.later hbt30
        clear rX_t29
        have rY_t30 := rY_t29.later hbt30
        clear rY_t29
        have rD_t30 := rD_t29.later hbt30
        clear rD_t29
        have hB_t30 := hB_t29.trans (hbt30.mono hB_t29.size)
        clear rk
        have ir : rn ≤ 3700000 := by
          have h1 := rr.1.1
          rw [er.out] at h1
          have h2 := (lY0.le (Int.emod_nonneg X hY0) (Int.le_of_lt (Int.emod_lt_of_pos X hYp))).len
          omega
        go_wp2_with fail
        refine (num3_any 0 _).mono ?_
        rintro e wt31 ⟨rfl, hbt31⟩
        have rX_t31 := rX_t30.later hbt31
        clear rX_t30
        have rY_t31 := rY_t30.later hbt31
        clear rY_t30
        have rD_t31 := rD_t30.later hbt31
        clear rD_t30
        have rr_t31 := rr.later hbt31
        clear rr
        have hB_t31 := hB_t30.trans (hbt31.mono hB_t30.size)
        go_wp2_with fail
        refine (gcdQ rY_t31 rr_t31 mY mr lR (by omega) iy ir).mono ?_
        rintro e wt32 ⟨ja, jn, jc, jl, rfl, rj, mj, ej, hbt32⟩
        have rX_t32 := rX_t31.later hbt32
        clear rX_t31
        have rY_t32 := rY_t31.later hbt32
        clear rY_t31
        have rD_t32 := rD_t31.later hbt32
        clear rD_t31
        have rr_t32 := rr_t31.later hbt32
        clear rr_t31
        have hB_t32 := hB_t31.trans (hbt32.mono hB_t31.size)
        go_wp2_with fail
        refine (sameQ rj rD_t32 mj mD ej eD HST.out).mono ?_
        rintro e wt33 ⟨rfl, hbt33⟩
        have rX_t33 := rX_t32.later hbt33
        clear rX_t32
        have rY_t33 := rY_t32.later hbt33
        clear rY_t32
        have rD_t33 := rD_t32.later hbt33
        clear rD_t32
        have rr_t33 := rr_t32.later hbt33
        clear rr_t32
        have rj_t33 := rj.later hbt33
        clear rj
        have hB_t33 := hB_t32.trans (hbt33.mono hB_t32.size)
        go_wp2
        go_ret
        exact ⟨rfl, hB_t33⟩
    · skip
      have z0 : decide (X = 0) = false := decide_eq_false hX0
      rw [z0]
      clear hX0 hXY
      go_wp2_with fail
      refine (zeroQ rD_t13 mD).mono ?_
      rintro e wt14 ⟨rfl, hbt14⟩
      have rG_t14 := rG_t13.later hbt14
      clear rG_t13
      have rX_t14 := rX_t13.later hbt14
      clear rX_t13
      have rY_t14 := rY_t13.later hbt14
      clear rY_t13
      have rD_t14 := rD_t13.later hbt14
      clear rD_t13
      have hB_t14 := hB_t13.trans (hbt14.mono hB_t13.size)
      rw [zd]
      go_wp2_with fail
      refine (dividesQ rD_t14 rX_t14 mD mX hDp id ix hDX).mono ?_
      rintro e wt15 ⟨rfl, hbt15⟩
      have rG_t15 := rG_t14.later hbt15
      clear rG_t14
      have rX_t15 := rX_t14.later hbt15
      clear rX_t14
      have rY_t15 := rY_t14.later hbt15
      clear rY_t14
      have rD_t15 := rD_t14.later hbt15
      clear rD_t14
      have hB_t15 := hB_t14.trans (hbt15.mono hB_t14.size)
      go_wp2_with fail
      refine (dividesQ rD_t15 rY_t15 mD mY hDp id iy hDY).mono ?_
      rintro e wt16 ⟨rfl, hbt16⟩
      have rG_t16 := rG_t15.later hbt16
      clear rG_t15
      have rX_t16 := rX_t15.later hbt16
      clear rX_t15
      have rY_t16 := rY_t15.later hbt16
      clear rY_t15
      have rD_t16 := rD_t15.later hbt16
      clear rD_t15
      have hB_t16 := hB_t15.trans (hbt16.mono hB_t15.size)
      go_wp2_with fail
      refine (dividesQ rG_t16 rD_t16 mG mD hGp (by omega) id hDG).mono ?_
      rintro e wt17 ⟨rfl, hbt17⟩
      have rG_t17 := rG_t16.later hbt17
      clear rG_t16
      have rX_t17 := rX_t16.later hbt17
      clear rX_t16
      have rY_t17 := rY_t16.later hbt17
      clear rY_t16
      have rD_t17 := rD_t16.later hbt17
      clear rD_t16
      have hB_t17 := hB_t16.trans (hbt17.mono hB_t16.size)
      clear rG_t17
      go_wp2_with fail
      refine (hlow _ rX_t17 rY_t17).mono ?_
      rintro e wt18 ⟨pa, pn, pc, pl, qa, qn, qc, ql, rfl, rp, mp, ep, rq, mq, eq, hbt18⟩
      have rX_t18 := rX_t17.later hbt18
      clear rX_t17
      have rY_t18 := rY_t17.later hbt18
      clear rY_t17
      have rD_t18 := rD_t17.later hbt18
      clear rD_t17
      have hB_t18 := hB_t17.trans (hbt18.mono hB_t17.size)
      have ip : pn ≤ 3700000 := by have h1 := rp.1.1; rw [ep.out] at h1; have h2 := lU.len; omega
      have iq : qn ≤ 3700000 := by have h1 := rq.1.1; rw [eq.out] at h1; have h2 := lV.len; omega
      have rt19 := rowC_nil wt18
      go_wp2_with fail
      refine (timesQ rp rD_t18 rt19 mp mD Nm.nil lu1 lu0 (by omega)).mono ?_
      rintro e wt20 ⟨ua, un, uc, ul, rfl, ru, mu, eu, hbt20⟩
      have rX_t20 := rX_t18.later hbt20
      clear rX_t18
      have rY_t20 := rY_t18.later hbt20
      clear rY_t18
      have rD_t20 := rD_t18.later hbt20
      clear rD_t18
      have rp_t20 := rp.later hbt20
      clear rp
      have rq_t20 := rq.later hbt20
      clear rq
      have rt19_t20 := rt19.later hbt20
      clear rt19
      have hB_t20 := hB_t18.trans (hbt20.mono hB_t18.size)
      clear rt19_t20
      have rt21 := rowC_nil wt20
      go_wp2_with fail
      refine (timesQ rq_t20 rD_t20 rt21 mq mD Nm.nil lv1 lv0 (by omega)).mono ?_
      rintro e wt22 ⟨va, vn, vc, vl, rfl, rv, mv, ev, hbt22⟩
      have rX_t22 := rX_t20.later hbt22
      clear rX_t20
      have rY_t22 := rY_t20.later hbt22
      clear rY_t20
      have rD_t22 := rD_t20.later hbt22
      clear rD_t20
      have rp_t22 := rp_t20.later hbt22
      clear rp_t20
      have rq_t22 := rq_t20.later hbt22
      clear rq_t20
      have ru_t22 := ru.later hbt22
      clear ru
      have rt21_t22 := rt21.later hbt22
      clear rt21
      have hB_t22 := hB_t20.trans (hbt22.mono hB_t20.size)
      clear rt21_t22
      go_wp2_with fail
      refine (cmpK ru_t22 rX_t22 mu mX (ordN_eq HP1.out)).mono ?_
      rintro e wt23 ⟨rfl, hbt23⟩
      have rX_t23 := rX_t22.later hbt23
      clear rX_t22
      have rY_t23 := rY_t22.later hbt23
      clear rY_t22
      have rD_t23 := rD_t22.later hbt23
      clear rD_t22
      have rp_t23 := rp_t22.later hbt23
      clear rp_t22
      have rq_t23 := rq_t22.later hbt23
      clear rq_t22
      have ru_t23 := ru_t22.later hbt23
      clear ru_t22
      have rv_t23 := rv.later hbt23
      clear rv
      have hB_t23 := hB_t22.trans (hbt23.mono hB_t22.size)
      go_wp2_with fail
      refine (cmpK rv_t23 rY_t23 mv mY (ordN_eq HP2.out)).mono ?_
      rintro e wt24 ⟨rfl, hbt24⟩
      have rX_t24 := rX_t23.later hbt24
      clear rX_t23
      have rY_t24 := rY_t23.later hbt24
      clear rY_t23
      have rD_t24 := rD_t23.later hbt24
      clear rD_t23
      have rp_t24 := rp_t23.later hbt24
      clear rp_t23
      have rq_t24 := rq_t23.later hbt24
      clear rq_t23
      have ru_t24 := ru_t23.later hbt24
      clear ru_t23
      have rv_t24 := rv_t23.later hbt24
      clear rv_t23
      have hB_t24 := hB_t23.trans (hbt24.mono hB_t23.size)
      clear ru_t24
      clear rv_t24
      go_wp2_with fail
      refine (gcdQ rp_t24 rq_t24 mp mq lone (by omega) ip iq).mono ?_
      rintro e wt25 ⟨ha, hn, hc, hl, rfl, rh, mh, eh, hbt25⟩
      have rX_t25 := rX_t24.later hbt25
      clear rX_t24
      have rY_t25 := rY_t24.later hbt25
      clear rY_t24
      have rD_t25 := rD_t24.later hbt25
      clear rD_t24
      have rp_t25 := rp_t24.later hbt25
      clear rp_t24
      have rq_t25 := rq_t24.later hbt25
      clear rq_t24
      have hB_t25 := hB_t24.trans (hbt25.mono hB_t24.size)
      clear rp_t25
      clear rq_t25
      go_wp2_with fail
      refine (natFrom_any (v := 1) (by omega) _).mono ?_
      rintro e wt26 ⟨ov, rfl, hov, hbt26⟩
      have rX_t26 := rX_t25.later hbt26
      clear rX_t25
      have rY_t26 := rY_t25.later hbt26
      clear rY_t25
      have rD_t26 := rD_t25.later hbt26
      clear rD_t25
      have rh_t26 := rh.later hbt26
      clear rh
      have hB_t26 := hB_t25.trans (hbt26.mono hB_t25.size)
      obtain ⟨oa, oc, rfl, ro⟩ := hov.readsC
      have mo : Nm (words 1) 1 := lt_one.nm (by omega)
      go_wp2_with fail
      refine (cmpK rh_t26 ro mh mo (ordN_eq HP3.out)).mono ?_
      rintro e wt27 ⟨rfl, hbt27⟩
      have rX_t27 := rX_t26.later hbt27
      clear rX_t26
      have rY_t27 := rY_t26.later hbt27
      clear rY_t26
      have rD_t27 := rD_t26.later hbt27
      clear rD_t26
      have rh_t27 := rh_t26.later hbt27
      clear rh_t26
      have ro_t27 := ro.later hbt27
      clear ro
      have hB_t27 := hB_t26.trans (hbt27.mono hB_t26.size)
      clear rh_t27
      clear ro_t27
      go_wp2_with fail
      refine (zeroQ rY_t27 mY).mono ?_
      rintro e wt28 ⟨rfl, hbt28⟩
      have rX_t28 := rX_t27.later hbt28
      clear rX_t27
      have rY_t28 := rY_t27.later hbt28
      clear rY_t27
      have rD_t28 := rD_t27.later hbt28
      clear rD_t27
      have hB_t28 := hB_t27.trans (hbt28.mono hB_t27.size)
      by_cases hY0 : Y = 0
      · skip
        have y0 : decide (Y = 0) = true := decide_eq_true hY0
        rw [y0]
        have hDXe := HZ.out hY0
        have HE : Hid (D = X) := hDXe
        clear hDXe hY0
        go_wp2_with fail
        refine (cmpK rD_t28 rX_t28 mD mX (ordN_eq HE.out)).mono ?_
        rintro e wt29 ⟨rfl, hbt29⟩
        have rX_t29 := rX_t28.later hbt29
        clear rX_t28
        have rY_t29 := rY_t28.later hbt29
        clear rY_t28
        have rD_t29 := rD_t28.later hbt29
        clear rD_t28
        have hB_t29 := hB_t28.trans (hbt29.mono hB_t28.size)
        go_wp2
        go_ret
        exact ⟨rfl, hB_t29⟩
      · skip
        have y0 : decide (Y = 0) = false := decide_eq_false hY0
        rw [y0]
        have hYp : 0 < Y := by omega
        have lR : Lt (Int.gcd Y (X % Y) : Int) 400 := by rw [HST.out]; exact lD
        go_wp2_with fail
        refine (divModQ rX_t28 rY_t28 mX mY hYp ix iy).mono ?_
        rintro e wt29 ⟨ka, kn, kc, kl, ra, rn, rc, rl, rfl, rk, mk, ek, rr, mr, er, hbt29⟩
        have rX_t29 := rX_t28.later hbt29
        clear rX_t28
        have rY_t29 := rY_t28.later hbt29
        clear rY_t28
        have rD_t29 := rD_t28.later hbt29
        clear rD_t28
        have hB_t29 := hB_t28.trans (hbt29.mono hB_t28.size)
        clear rk
        have ir : rn ≤ 3700000 := by
          have h1 := rr.1.1
          rw [er.out] at h1
          have h2 := (lY0.le (Int.emod_nonneg X hY0) (Int.le_of_lt (Int.emod_lt_of_pos X hYp))).len
          omega
        go_wp2_with fail
        refine (num3_any 0 _).mono ?_
        rintro e wt30 ⟨rfl, hbt30⟩
        have rX_t30 := rX_t29.later hbt30
        clear rX_t29
        have rY_t30 := rY_t29.later hbt30
        clear rY_t29
        have rD_t30 := rD_t29.later hbt30
        clear rD_t29
        have rr_t30 := rr.later hbt30
        clear rr
        have hB_t30 := hB_t29.trans (hbt30.mono hB_t29.size)
        go_wp2_with fail
        refine (gcdQ rY_t30 rr_t30 mY mr lR (by omega) iy ir).mono ?_
        rintro e wt31 ⟨ja, jn, jc, jl, rfl, rj, mj, ej, hbt31⟩
        have rX_t31 := rX_t30.later hbt31
        clear rX_t30
        have rY_t31 := rY_t30.later hbt31
        clear rY_t30
        have rD_t31 := rD_t30.later hbt31
        clear rD_t30
        have rr_t31 := rr_t30.later hbt31
        clear rr_t30
        have hB_t31 := hB_t30.trans (hbt31.mono hB_t30.size)
        go_wp2_with fail
        refine (sameQ rj rD_t31 mj mD ej eD HST.out).mono ?_
        rintro e wt32 ⟨rfl, hbt32⟩
        have rX_t32 := rX_t31.later hbt32
        clear rX_t31
        have rY_t32 := rY_t31.later hbt32
        clear rY_t31
        have rD_t32 := rD_t31.later hbt32
        clear rD_t31
        have rr_t32 := rr_t31.later hbt32
        clear rr_t31
        have rj_t32 := rj.later hbt32
        clear rj
        have hB_t32 := hB_t31.trans (hbt32.mono hB_t31.size)
        go_wp2
        go_ret
        exact ⟨rfl, hB_t32⟩

/-! ### THE ROW's STEP: WRITTEN OUT: LEAVE IT -/
set_option maxRecDepth 100000 in
theorem lifted (os : Os) (started : os.Started) (H : Type) (enc : TypeId × Value → H) :
    ReturnsInHanded {} Try.checked os 4 .any (Rows.quotCommonSpec.pre6 enc Try.prog Try.f4 Rows.quotCommonRow.domain false) (Rows.quotCommonSpec.post enc Try.prog Try.f4 false true false false) := by
  refine returnsInHanded_of_change (C := Try.checked) own started (by kernel_rfl) Try.func4
    (ChangeSpec.witness6 (enc := enc) (C := Try.checked) false ⟨#[], #[.slice none 0 0, .slice none 0 0, .slice none 0 0], []⟩ 8 (by kernel_rfl) (by kernel_rfl) (by kernel_rfl) (by kernel_rfl)) ?_
  intro W base args ds gs before hval0 hW hcnd _
  have hval : ∀ (j : Nat) t v, Try.f4.params[j]? = some t → args[j]? = some v → Value.okWide Try.prog W .any base t v := hval0
  have hW' := hW
  obtain ⟨p, q, hA0, hV, rfl, hfz, hnd⟩ := hW
  have hA : DataW.TrodAll enc Try.prog W 0 (fun _ => true) true Try.f4.params.toList args.toList ds p := hA0
  rw [Try.params4] at hA hval
  obtain ⟨v0, vs0, d0, ds0, p0, q0, hargs, rfl, rfl, h0, r0⟩ := trodAll_cons hA
  obtain ⟨v1, vs1, d1, ds1, p1, q1, rfl, rfl, rfl, h1, r1⟩ := trodAll_cons r0
  obtain ⟨v2, vs2, d2, ds2, p2, q2, rfl, rfl, rfl, h2, r2⟩ := trodAll_cons r1
  obtain ⟨rfl, rfl, rfl⟩ := trodAll_nil r2
  obtain rfl : args = #[v0, v1, v2] := by cases args; simp_all
  obtain ⟨rfl, rfl⟩ := trodVars_none hV
  obtain ⟨a0, len0, cap0, rfl⟩ := okWide_slice Try.underlying22 (hval 0 22 v0 rfl rfl)
  have k0 := h0
  have lt0 : ∀ x ∈ p0, x.block < W.heap.size := by obtain ⟨m, hm⟩ := k0; exact DataW.trod_lt m _ _ _ hm
  obtain ⟨z0, w0⟩ : ∃ zs, IsRow .u64 W a0 len0 cap0 zs := by
    obtain ⟨fuel, hf⟩ := h0
    rcases open_ints Try.underlying22 Try.underlying31 (by kernel_rfl) hf with ⟨hcs, _⟩ | ⟨x, l, c, zs, hcs, _, hl, hm, hz, _, hcell, hwz⟩
    · simp [Value.cells] at hcs
      obtain ⟨rfl, rfl, rfl⟩ := hcs
      exact ⟨[], .inl ⟨rfl, rfl, rfl, rfl⟩⟩
    · simp [Value.cells] at hcs
      obtain ⟨rfl, rfl, rfl⟩ := hcs
      exact ⟨zs, .inr ⟨_, rfl, hl, hm, by simpa using hz, hcell, hwz⟩⟩
  obtain ⟨a1, len1, cap1, rfl⟩ := okWide_slice Try.underlying22 (hval 1 22 v1 rfl rfl)
  have k1 := h1
  have lt1 : ∀ x ∈ p1, x.block < W.heap.size := by obtain ⟨m, hm⟩ := k1; exact DataW.trod_lt m _ _ _ hm
  obtain ⟨z1, w1⟩ : ∃ zs, IsRow .u64 W a1 len1 cap1 zs := by
    obtain ⟨fuel, hf⟩ := h1
    rcases open_ints Try.underlying22 Try.underlying31 (by kernel_rfl) hf with ⟨hcs, _⟩ | ⟨x, l, c, zs, hcs, _, hl, hm, hz, _, hcell, hwz⟩
    · simp [Value.cells] at hcs
      obtain ⟨rfl, rfl, rfl⟩ := hcs
      exact ⟨[], .inl ⟨rfl, rfl, rfl, rfl⟩⟩
    · simp [Value.cells] at hcs
      obtain ⟨rfl, rfl, rfl⟩ := hcs
      exact ⟨zs, .inr ⟨_, rfl, hl, hm, by simpa using hz, hcell, hwz⟩⟩
  obtain ⟨a2, len2, cap2, rfl⟩ := okWide_slice Try.underlying22 (hval 2 22 v2 rfl rfl)
  have k2 := h2
  have lt2 : ∀ x ∈ p2, x.block < W.heap.size := by obtain ⟨m, hm⟩ := k2; exact DataW.trod_lt m _ _ _ hm
  obtain ⟨z2, w2⟩ : ∃ zs, IsRow .u64 W a2 len2 cap2 zs := by
    obtain ⟨fuel, hf⟩ := h2
    rcases open_ints Try.underlying22 Try.underlying31 (by kernel_rfl) hf with ⟨hcs, _⟩ | ⟨x, l, c, zs, hcs, _, hl, hm, hz, _, hcell, hwz⟩
    · simp [Value.cells] at hcs
      obtain ⟨rfl, rfl, rfl⟩ := hcs
      exact ⟨[], .inl ⟨rfl, rfl, rfl, rfl⟩⟩
    · simp [Value.cells] at hcs
      obtain ⟨rfl, rfl, rfl⟩ := hcs
      exact ⟨zs, .inr ⟨_, rfl, hl, hm, by simpa using hz, hcell, hwz⟩⟩
  clear hA0 hval0
  refine (walk a0 len0 cap0 z0 a1 len1 cap1 z1 a2 len2 cap2 z2 W w0 w1 w2).mono fun e W' ⟨he, bel⟩ => ?_
  subst he
  exact ⟨_, rfl, _, _, _, [], _, [], hW', trodAll_mk1 (shut_bool Try.underlying4 _), (trodAll_cons_mk (Below.trod laidOut (by kernel_rfl) (of_decide_eq_true (by kernel_rfl)) k0 bel lt0) (trodAll_cons_mk (Below.trod laidOut (by kernel_rfl) (of_decide_eq_true (by kernel_rfl)) k1 bel lt1) (trodAll_cons_mk (Below.trod laidOut (by kernel_rfl) (of_decide_eq_true (by kernel_rfl)) k2 bel lt2) trodAll_mk0))), rfl, bel.frame _, fun h => by cases h⟩

theorem over : Rows.quotCommonRow.holds Try.pinned (OpenSpec.ofChange Rows.quotCommonSpec) :=
  OpenClaim.holds_of_wide 4 Try.f4 rfl rfl rfl rfl rfl rfl rfl ⟨rfl, rfl, rfl, rfl, rfl⟩ rfl rfl rfl rfl rfl (by kernel_rfl) Try.func4 (by kernel_rfl)
    (of_decide_eq_true (by kernel_rfl)) (by unfold Func.isWrapper; first | (rw [if_pos (by decide +kernel)]; kernel_rfl) | (rw [if_neg (by decide +kernel)]; exact ⟨rfl, rfl⟩))
    (fun os started H enc _ => lifted os started H enc)

/-- ████ THE STATEMENT ████ -/
theorem proved : Rows.QuotCommonSaid := over
#print axioms proved
end Go.Proofs.Ytopcdpeepchgfab.quotCommon
