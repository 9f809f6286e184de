/-
  THE SHELL OF A PROOF OF 'Rows.NatStepsSaid' ('plumb/plumblaw02.NatSteps'), WRITTEN BY PROGRAM (proof-skeleton.mjs, third state) off the guide's own print for that function. Not trusted: Lean checks it.
  YOURS IS THE HOLE MARKED 'HOLE' (it bears 'sorry'). ALL ELSE IS THE GUIDE's OWN WAY (howto/template/XProofs.lean; Derived/Test/ChunkProofs.lean for 'Below') at this function's number and types: leave it.
-/
import Derived.Test.YthigofcbmgheeaaRows
import Derived.WalkKit
import Derived.ProofKit
import Derived.OpenShut
import Derived.ShutString
import Derived.WalkLawsBesides
import Derived.WalkSpells
import Derived.Deep.RegionWith
import Derived.Deep.DeepCutAuto
import Derived.Deep.DeepFit
import Derived.Test.YthigofcbmgheeaaBaseB
import Derived.ChangeOld
import Derived.Below
namespace Go.Proofs.Ythigofcbmgheeaa.natSteps
open Go.ChangeShapes Go.WideShapes Go.ChangeAt Go.RowKit
open Go.ChangeMaps (open_string shut_string)
set_option linter.unusedVariables false

theorem own : ownKnob Try.prog.godebug = none := by kernel_rfl
theorem laidOut : laidOutB Try.prog = true := by kernel_rfl

/-- WHAT THE WALK IS TOLD OF A SLICE OF INTEGERS THAT CAME IN: it is nil; or it leads to a row of 'cap' cells, the numbers 'zs' (the first 'len' are its elements, the rest its spare room), each fitting its kind. -/
def IsRow (k : IntKind) (w : World) (a : Option Addr) (len cap : Nat) (zs : List Int) : Prop :=
  (a = none ∧ len = 0 ∧ cap = 0 ∧ zs = []) ∨
  ∃ x, a = some x ∧ len ≤ cap ∧ cap ≤ maxLen ∧ zs.length = cap ∧ (∀ i, i < zs.length → w.cell? (x.add i) = some (.int k (zs.getD i 0))) ∧ ∀ n ∈ zs, (Lit.int k n).wf = true

open Na Ar
/-! ### STEP 1: THE WALK: the Go text returns true, AND WRITES NOTHING THAT WAS THERE: 'Below w.heap.size w w'' (Derived/Below.lean: '.refl', '.alloc', '.drew', '.setCell' at a new block, '.trans'). Open each 'IsRow' by 'rcases' AHEAD of 'go_enter'; part every test ahead of the walk. -/
set_option maxHeartbeats 4000000 in
set_option maxRecDepth 100000 in
theorem walk (a0 : Option Addr) (len0 cap0 : Nat) (z0 : List Int) (a1 : Int) (a2 : Int) (w : World) (w0 : IsRow .u64 w a0 len0 cap0 z0) (w1 : (Lit.int .i64 a1).wf = true) (w2 : (Lit.int .i64 a2).wf = true) :
    Calls Try.prog 8 #[.slice a0 len0 cap0, .int .i64 a1, .int .i64 a2] w fun e w' => e = .returned (.bool true) ∧ Below w.heap.size w w' := by
  have b1 := bounds_i64 w1
  have b2 := bounds_i64 w2
  clear w1 w2
  have q0 := row_of w0
  obtain ⟨hr0, hx0, hm0⟩ := q0
  clear w0
  generalize z0.take len0 = x0 at *
  have B_0 := Below.refl w.heap.size w
  go_enter Try.func8, Try.ntmps8
  go_wp2_with fail
  refine (cutQ hr0 hx0 hm0).mono ?_
  rintro e w1' ⟨ca1, cn1, cc1, X1, rfl, cr1, cm1, ct1, cl1, _, hb1⟩
  clear hr0
  have B_1 := B_0.trans (hb1.mono B_0.size)
  clear B_0 hb1
  clear hx0 hm0
  have i1 := fun w => into_any a1 400 (by have := b1.1; omega) (by have := b1.2; omega) (by omega) (by omega) w
  have i2 := fun w => into_any a2 400 (by have := b2.1; omega) (by have := b2.2; omega) (by omega) (by omega) w
  clear b1 b2
  go_wp2_with fail
  refine (i1 _).mono ?_
  rintro e w' ⟨n, rfl, hn, rfl⟩
  go_wp2_with fail
  refine (i2 _).mono ?_
  rintro e w' ⟨m, rfl, hm, rfl⟩
  clear i1 i2
  obtain ⟨A, hA⟩ : ∃ A, A = num X1 := ⟨_, rfl⟩
  rw [← hA] at cm1 ct1
  clear hA
  have A0 := cm1.nonneg
  have pn := p2pos n
  have pm := p2pos m
  have ln : Lt (A * 2 ^ n) 70 := (ct1.pow2 (t := n)).mono (by omega)
  have lb : Lt (A * 2 ^ n * 2 ^ m) 80 := (ln.pow2 (t := m)).mono (by omega)
  have lc : Lt (A * 2 ^ (n + m)) 80 := (ct1.pow2 (t := n + m)).mono (by omega)
  have lp : Lt (1 * 2 ^ n) 10 := (lt_one.pow2 (t := n)).mono (by omega)
  have HC : Hid ((n : Int) + (m : Int) = ((n + m : Nat) : Int)) := by show _ = _; omega
  go_wp2_with fail
  refine (shlQ cr1 cm1 n (by omega) ln (by omega)).mono ?_
  rintro e w2 ⟨a2, n2, c2, l2, rfl, r2, m2, e2, hb2⟩
  have cr1_2 := cr1.later hb2
  have B_2 := B_1.trans (hb2.mono B_1.size)
  clear cr1 B_1 hb2
  go_wp2_with fail
  refine (shlQ r2 m2 m (by omega) lb (by omega)).mono ?_
  rintro e w3 ⟨a3, n3, c3, l3, rfl, r3, m3, e3, hb3⟩
  have cr1_3 := cr1_2.later hb3
  have r2_3 := r2.later hb3
  have B_3 := B_2.trans (hb3.mono B_2.size)
  clear cr1_2 r2 B_2 hb3
  go_wp2_with fail
  rw [HC.out]
  refine (shlQ cr1_3 cm1 (n + m) (by omega) lc (by omega)).mono ?_
  rintro e w4 ⟨a4, n4, c4, l4, rfl, r4, m4, e4, hb4⟩
  have cr1_4 := cr1_3.later hb4
  have r2_4 := r2_3.later hb4
  have r3_4 := r3.later hb4
  have B_4 := B_3.trans (hb4.mono B_3.size)
  clear cr1_3 r2_3 r3 B_3 hb4
  go_wp2_with fail
  have al5 := alloc_below (w := w4) (.cells #[.int .u64 1] 36)
  have lr5 := rowC_one w4 1 36
  have lm5 := Nm.one (x := 1) (by omega)
  have cr1_al5 := cr1_4.later al5
  have r2_al5 := r2_4.later al5
  have r3_al5 := r3_4.later al5
  have r4_al5 := r4.later al5
  have B_al5 := B_4.trans (al5.mono B_4.size)
  clear cr1_4 r2_4 r3_4 r4 B_4 al5
  refine (shlQ lr5 lm5 n (by omega) lp (by omega)).mono ?_
  rintro e w6 ⟨a6, n6, c6, l6, rfl, r6, m6, e6, hb6⟩
  have cr1_6 := cr1_al5.later hb6
  have r2_6 := r2_al5.later hb6
  have r3_6 := r3_al5.later hb6
  have r4_6 := r4_al5.later hb6
  have lr5_6 := lr5.later hb6
  have B_6 := B_al5.trans (hb6.mono B_al5.size)
  clear cr1_al5 r2_al5 r3_al5 r4_al5 lr5 B_al5 hb6
  clear lr5_6 lm5
  go_wp2_with fail
  refine (mulQ cr1_6 r6 cm1 m6 (ct1.mul lp) (by omega)).mono ?_
  rintro e w7 ⟨a7, n7, c7, l7, rfl, r7, m7, e7, hb7⟩
  have cr1_7 := cr1_6.later hb7
  have r2_7 := r2_6.later hb7
  have r3_7 := r3_6.later hb7
  have r4_7 := r4_6.later hb7
  have r6_7 := r6.later hb7
  have B_7 := B_6.trans (hb7.mono B_6.size)
  clear cr1_6 r2_6 r3_6 r4_6 r6 B_6 hb7
  go_wp2_with fail
  refine (alive_any _).mono ?_
  rintro e w8 ⟨rfl, hb8⟩
  have cr1_8 := cr1_7.later hb8
  have r2_8 := r2_7.later hb8
  have r3_8 := r3_7.later hb8
  have r4_8 := r4_7.later hb8
  have r6_8 := r6_7.later hb8
  have r7_8 := r7.later hb8
  have B_8 := B_7.trans (hb8.mono B_7.size)
  clear cr1_7 r2_7 r3_7 r4_7 r6_7 r7 B_7 hb8
  go_wp2_with fail
  refine (sameQ r3_8 r4_8 m3 m4 e3 e4 (by rw [Int.mul_assoc, ← Int.pow_add])).mono ?_
  rintro e w9 ⟨rfl, hb9⟩
  have cr1_9 := cr1_8.later hb9
  have r2_9 := r2_8.later hb9
  have r3_9 := r3_8.later hb9
  have r4_9 := r4_8.later hb9
  have r6_9 := r6_8.later hb9
  have r7_9 := r7_8.later hb9
  have B_9 := B_8.trans (hb9.mono B_8.size)
  clear cr1_8 r2_8 r3_8 r4_8 r6_8 r7_8 B_8 hb9
  go_wp2_with fail
  refine (sameQ r2_9 r7_9 m2 m7 e2 e7 (by rw [Int.one_mul])).mono ?_
  rintro e w10 ⟨rfl, hb10⟩
  have cr1_10 := cr1_9.later hb10
  have r2_10 := r2_9.later hb10
  have r3_10 := r3_9.later hb10
  have r4_10 := r4_9.later hb10
  have r6_10 := r6_9.later hb10
  have r7_10 := r7_9.later hb10
  have B_10 := B_9.trans (hb10.mono B_9.size)
  clear cr1_9 r2_9 r3_9 r4_9 r6_9 r7_9 B_9 hb10
  clear r3_10 m3 e3 r4_10 m4 e4 r7_10 m7 e7
  have lf : Lt (A / 2 ^ n) 60 := ct1.le (Int.ediv_nonneg A0 (Int.le_of_lt pn)) (Int.ediv_le_self _ A0)
  obtain ⟨S1, hg1⟩ : ∃ S1, decide (A % 2 ^ n ≠ 0) = S1 := ⟨_, rfl⟩
  obtain ⟨S2, hg2⟩ : ∃ S2, decide (A / 2 ^ n % 2 ^ m ≠ 0) = S2 := ⟨_, rfl⟩
  have hg3 : decide (A % 2 ^ (n + m) ≠ 0) = (S1 || S2) := by rw [← hg1, ← hg2]; exact (lost_both A n m).symm
  obtain ⟨S3, hS3⟩ : ∃ S3, S3 = (S1 || S2) := ⟨_, rfl⟩
  rw [← hS3] at hg3
  have HS3 : Hid (S3 = (S1 || S2)) := hS3
  have HG1 : Hid (decide (A % 2 ^ n ≠ 0) = S1) := hg1
  have HG2 : Hid (decide (A / 2 ^ n % 2 ^ m ≠ 0) = S2) := hg2
  have HG3 : Hid (decide (A % 2 ^ (n + m) ≠ 0) = S3) := hg3
  clear hg1 hg2 hg3 hS3
  go_wp2_with fail
  refine (shrQ (S := false) r2_10 m2 n (by omega) ln (by omega) (decide_eq_false (by rw [Int.mul_emod_left]; simp))).mono ?_
  rintro e w11 ⟨a11, n11, c11, l11, rfl, r11, m11, e11, hb11⟩
  have cr1_11 := cr1_10.later hb11
  have r2_11 := r2_10.later hb11
  have r6_11 := r6_10.later hb11
  have B_11 := B_10.trans (hb11.mono B_10.size)
  clear cr1_10 r2_10 r6_10 B_10 hb11
  go_wp2_with fail
  refine (shrQ (S := S1) cr1_11 cm1 n (by omega) ct1 (by omega) (HG1.out)).mono ?_
  rintro e w12 ⟨a12, n12, c12, l12, rfl, r12, m12, e12, hb12⟩
  have cr1_12 := cr1_11.later hb12
  have r2_12 := r2_11.later hb12
  have r6_12 := r6_11.later hb12
  have r11_12 := r11.later hb12
  have B_12 := B_11.trans (hb12.mono B_11.size)
  clear cr1_11 r2_11 r6_11 r11 B_11 hb12
  go_wp2_with fail
  refine (shrQ (S := S2) r12 m12 m (by omega) lf (by omega) (HG2.out)).mono ?_
  rintro e w13 ⟨a13, n13, c13, l13, rfl, r13, m13, e13, hb13⟩
  have cr1_13 := cr1_12.later hb13
  have r2_13 := r2_12.later hb13
  have r6_13 := r6_12.later hb13
  have r11_13 := r11_12.later hb13
  have r12_13 := r12.later hb13
  have B_13 := B_12.trans (hb13.mono B_12.size)
  clear cr1_12 r2_12 r6_12 r11_12 r12 B_12 hb13
  go_wp2_with fail
  rw [HC.out]
  refine (shrQ (S := S3) cr1_13 cm1 (n + m) (by omega) ct1 (by omega) (HG3.out)).mono ?_
  rintro e w14 ⟨a14, n14, c14, l14, rfl, r14, m14, e14, hb14⟩
  have cr1_14 := cr1_13.later hb14
  have r2_14 := r2_13.later hb14
  have r6_14 := r6_13.later hb14
  have r11_14 := r11_13.later hb14
  have r12_14 := r12_13.later hb14
  have r13_14 := r13.later hb14
  have B_14 := B_13.trans (hb14.mono B_13.size)
  clear cr1_13 r2_13 r6_13 r11_13 r12_13 r13 B_13 hb14
  have hrest := Int.emod_nonneg A (show (2 : Int) ^ n ≠ 0 by omega)
  have hrl := Int.emod_lt_of_pos A pn
  have hdm := Int.mul_ediv_add_emod A (2 ^ n)
  go_wp2_with fail
  refine (normQ cr1_14 cm1 ct1 (by omega)).mono ?_
  rintro e w15 ⟨a15, n15, c15, l15, rfl, r15, m15, e15, hb15⟩
  have cr1_15 := cr1_14.later hb15
  have r2_15 := r2_14.later hb15
  have r6_15 := r6_14.later hb15
  have r11_15 := r11_14.later hb15
  have r12_15 := r12_14.later hb15
  have r13_15 := r13_14.later hb15
  have r14_15 := r14.later hb15
  have B_15 := B_14.trans (hb15.mono B_14.size)
  clear cr1_14 r2_14 r6_14 r11_14 r12_14 r13_14 r14 B_14 hb15
  go_wp2_with fail
  refine (sameQ r11_15 r15 m11 m15 e11 e15 (by rw [Int.mul_ediv_cancel _ (by omega)])).mono ?_
  rintro e w16 ⟨rfl, hb16⟩
  have cr1_16 := cr1_15.later hb16
  have r2_16 := r2_15.later hb16
  have r6_16 := r6_15.later hb16
  have r11_16 := r11_15.later hb16
  have r12_16 := r12_15.later hb16
  have r13_16 := r13_15.later hb16
  have r14_16 := r14_15.later hb16
  have r15_16 := r15.later hb16
  have B_16 := B_15.trans (hb16.mono B_15.size)
  clear cr1_15 r2_15 r6_15 r11_15 r12_15 r13_15 r14_15 r15 B_15 hb16
  go_wp2_with fail
  refine (sameQ r13_16 r14_16 m13 m14 e13 e14 (by rw [Int.ediv_ediv_of_nonneg (Int.le_of_lt pn), ← Int.pow_add])).mono ?_
  rintro e w17 ⟨rfl, hb17⟩
  have cr1_17 := cr1_16.later hb17
  have r2_17 := r2_16.later hb17
  have r6_17 := r6_16.later hb17
  have r11_17 := r11_16.later hb17
  have r12_17 := r12_16.later hb17
  have r13_17 := r13_16.later hb17
  have r14_17 := r14_16.later hb17
  have r15_17 := r15_16.later hb17
  have B_17 := B_16.trans (hb17.mono B_16.size)
  clear cr1_16 r2_16 r6_16 r11_16 r12_16 r13_16 r14_16 r15_16 B_16 hb17
  have hS3 := HS3.out
  subst hS3
  cases S1 <;> cases S2
  all_goals
    clear r11_17 m11 e11 r15_17 m15 e15 r13_17 m13 e13 r14_17 m14 e14 r2_17 m2 e2
    have hle : A / 2 ^ n * 2 ^ n ≤ A := by rw [Int.mul_comm]; omega
    have er : A - A / 2 ^ n * 2 ^ n = A % 2 ^ n := by rw [Int.mul_comm]; omega
    have lk : Lt (A / 2 ^ n * 2 ^ n) 60 := ct1.le (Int.mul_nonneg lf.1 (Int.le_of_lt pn)) hle
    have lr : Lt (A - A / 2 ^ n * 2 ^ n) 60 := ct1.le (by omega) (by rw [er]; have := Int.mul_nonneg (Int.le_of_lt pn) lf.1; omega)
    have HER : Hid (A - A / 2 ^ n * 2 ^ n = A % 2 ^ n) := er
    have HLE : Hid (A / 2 ^ n * 2 ^ n ≤ A) := hle
    have HORD : Hid (ordN (A - A / 2 ^ n * 2 ^ n) (1 * 2 ^ n) = -1) := ordN_lt (by rw [er, Int.one_mul]; exact hrl)
    clear er hle hdm hrl
    go_wp2_with fail
    refine (shlQ r12_17 m12 n (by omega) lk (by omega)).mono ?_
    rintro e w18 ⟨a18, n18, c18, l18, rfl, r18, m18, e18, hb18⟩
    have cr1_18 := cr1_17.later hb18
    have r6_18 := r6_17.later hb18
    have r12_18 := r12_17.later hb18
    have B_18 := B_17.trans (hb18.mono B_17.size)
    clear cr1_17 r6_17 r12_17 B_17 hb18
    go_wp2_with fail
    refine (subQ cr1_18 r18 cm1 m18 HLE.out lr (by omega)).mono ?_
    rintro e w19 ⟨a19, n19, c19, l19, rfl, r19, m19, e19, hb19⟩
    have cr1_19 := cr1_18.later hb19
    have r6_19 := r6_18.later hb19
    have r12_19 := r12_18.later hb19
    have r18_19 := r18.later hb19
    have B_19 := B_18.trans (hb19.mono B_18.size)
    clear cr1_18 r6_18 r12_18 r18 B_18 hb19
    have hrn : 0 < n19 ↔ A % 2 ^ n ≠ 0 := by
      have h1 := r19.1.1
      have h2 := words_nil lr.1
      rw [← e19.out, h1, HER.out] at h2
      omega
    have t2 : decide (0 < n19) = decide (A % 2 ^ n ≠ 0) := decide_eq_decide.mpr hrn
    rw [HG1.out] at t2
    simp only [decide_eq_true_eq, decide_eq_false_iff_not] at t2
    clear hrn
    go_wp2_with fail
    refine (cmpK r19 r6_19 m19 m6 HORD.out).mono ?_
    rintro e w20 ⟨rfl, hb20⟩
    have cr1_20 := cr1_19.later hb20
    have r6_20 := r6_19.later hb20
    have r12_20 := r12_19.later hb20
    have r18_20 := r18_19.later hb20
    have r19_20 := r19.later hb20
    have B_20 := B_19.trans (hb20.mono B_19.size)
    clear cr1_19 r6_19 r12_19 r18_19 r19 B_19 hb20
    go_wp2
    go_ret
    exact ⟨rfl, B_20⟩

/-! ### THE ROW's STEP: WRITTEN OUT: LEAVE IT -/
set_option maxRecDepth 100000 in
theorem lifted (os : Os) (started : os.Started) (H : Type) (enc : TypeId × Value → H) :
    ReturnsInHanded {} Try.checked os 8 .any (Rows.natStepsSpec.pre6 enc Try.prog Try.f8 Rows.natStepsRow.domain false) (Rows.natStepsSpec.post enc Try.prog Try.f8 false true false false) := by
  refine returnsInHanded_of_change (C := Try.checked) own started (by kernel_rfl) Try.func8
    (ChangeSpec.witness6 (enc := enc) (C := Try.checked) false ⟨#[], #[.slice none 0 0, .int .i64 0, .int .i64 0], []⟩ 8 (by kernel_rfl) (by kernel_rfl) (by kernel_rfl) (by kernel_rfl)) ?_
  intro W base args ds gs before hval0 hW hcnd _
  have hval : ∀ (j : Nat) t v, Try.f8.params[j]? = some t → args[j]? = some v → Value.okWide Try.prog W .any base t v := hval0
  have hW' := hW
  obtain ⟨p, q, hA0, hV, rfl, hfz, hnd⟩ := hW
  have hA : DataW.TrodAll enc Try.prog W 0 (fun _ => true) true Try.f8.params.toList args.toList ds p := hA0
  rw [Try.params8] at hA hval
  obtain ⟨v0, vs0, d0, ds0, p0, q0, hargs, rfl, rfl, h0, r0⟩ := trodAll_cons hA
  obtain ⟨v1, vs1, d1, ds1, p1, q1, rfl, rfl, rfl, h1, r1⟩ := trodAll_cons r0
  obtain ⟨v2, vs2, d2, ds2, p2, q2, rfl, rfl, rfl, h2, r2⟩ := trodAll_cons r1
  obtain ⟨rfl, rfl, rfl⟩ := trodAll_nil r2
  obtain rfl : args = #[v0, v1, v2] := by cases args; simp_all
  obtain ⟨rfl, rfl⟩ := trodVars_none hV
  obtain ⟨a0, len0, cap0, rfl⟩ := okWide_slice Try.underlying22 (hval 0 22 v0 rfl rfl)
  have k0 := h0
  have lt0 : ∀ x ∈ p0, x.block < W.heap.size := by obtain ⟨m, hm⟩ := k0; exact DataW.trod_lt m _ _ _ hm
  obtain ⟨z0, w0⟩ : ∃ zs, IsRow .u64 W a0 len0 cap0 zs := by
    obtain ⟨fuel, hf⟩ := h0
    rcases open_ints Try.underlying22 Try.underlying36 (by kernel_rfl) hf with ⟨hcs, _⟩ | ⟨x, l, c, zs, hcs, _, hl, hm, hz, _, hcell, hwz⟩
    · simp [Value.cells] at hcs
      obtain ⟨rfl, rfl, rfl⟩ := hcs
      exact ⟨[], .inl ⟨rfl, rfl, rfl, rfl⟩⟩
    · simp [Value.cells] at hcs
      obtain ⟨rfl, rfl, rfl⟩ := hcs
      exact ⟨zs, .inr ⟨_, rfl, hl, hm, by simpa using hz, hcell, hwz⟩⟩
  obtain ⟨a1, rfl, rfl, rfl, w1⟩ := open_int Try.underlying3 (hval 1 3 v1 rfl rfl) h1
  obtain ⟨a2, rfl, rfl, rfl, w2⟩ := open_int Try.underlying3 (hval 2 3 v2 rfl rfl) h2
  clear hA0 hval0
  refine (walk a0 len0 cap0 z0 a1 a2 W w0 w1 w2).mono fun e W' ⟨he, bel⟩ => ?_
  subst he
  exact ⟨_, rfl, _, _, _, [], _, [], hW', trodAll_mk1 (shut_bool Try.underlying4 _), (trodAll_cons_mk (Below.trod laidOut (by kernel_rfl) (of_decide_eq_true (by kernel_rfl)) k0 bel lt0) (trodAll_cons_mk (shut_int Try.underlying3 w1) (trodAll_cons_mk (shut_int Try.underlying3 w2) trodAll_mk0))), rfl, bel.frame _, fun h => by cases h⟩

theorem over : Rows.natStepsRow.holds Try.pinned (OpenSpec.ofChange Rows.natStepsSpec) :=
  OpenClaim.holds_of_wide 8 Try.f8 rfl rfl rfl rfl rfl rfl rfl ⟨rfl, rfl, rfl, rfl, rfl⟩ rfl rfl rfl rfl rfl (by kernel_rfl) Try.func8 (by kernel_rfl)
    (of_decide_eq_true (by kernel_rfl)) (by unfold Func.isWrapper; first | (rw [if_pos (by decide +kernel)]; kernel_rfl) | (rw [if_neg (by decide +kernel)]; exact ⟨rfl, rfl⟩))
    (fun os started H enc _ => lifted os started H enc)

/-- ████ THE STATEMENT ████ -/
theorem proved : Rows.NatStepsSaid := over
#print axioms proved
end Go.Proofs.Ythigofcbmgheeaa.natSteps
