/-
  THE SHELL OF A PROOF OF 'Rows.NatRingSaid' ('plumb/plumblaw02.NatRing'), WRITTEN BY PROGRAM (proof-skeleton.mjs, third state) off the guide's own print for that function. Not trusted: Lean checks it.
  YOURS IS THE HOLE MARKED 'HOLE' (it bears 'sorry'). ALL ELSE IS THE GUIDE's OWN WAY (howto/template/XProofs.lean; Derived/Test/ChunkProofs.lean for 'Below') at this function's number and types: leave it.
-/
import Derived.Test.YthigofcbmgheeaaRows
import Derived.WalkKit
import Derived.ProofKit
import Derived.OpenShut
import Derived.ShutString
import Derived.WalkLawsBesides
import Derived.WalkSpells
import Derived.Deep.RegionWith
import Derived.Deep.DeepCutAuto
import Derived.Deep.DeepFit
import Derived.Test.YthigofcbmgheeaaBaseB
import Derived.ChangeOld
import Derived.Below
namespace Go.Proofs.Ythigofcbmgheeaa.natRing
open Go.ChangeShapes Go.WideShapes Go.ChangeAt Go.RowKit
open Go.ChangeMaps (open_string shut_string)
set_option linter.unusedVariables false

theorem own : ownKnob Try.prog.godebug = none := by kernel_rfl
theorem laidOut : laidOutB Try.prog = true := by kernel_rfl

/-- WHAT THE WALK IS TOLD OF A SLICE OF INTEGERS THAT CAME IN: it is nil; or it leads to a row of 'cap' cells, the numbers 'zs' (the first 'len' are its elements, the rest its spare room), each fitting its kind. -/
def IsRow (k : IntKind) (w : World) (a : Option Addr) (len cap : Nat) (zs : List Int) : Prop :=
  (a = none ∧ len = 0 ∧ cap = 0 ∧ zs = []) ∨
  ∃ x, a = some x ∧ len ≤ cap ∧ cap ≤ maxLen ∧ zs.length = cap ∧ (∀ i, i < zs.length → w.cell? (x.add i) = some (.int k (zs.getD i 0))) ∧ ∀ n ∈ zs, (Lit.int k n).wf = true

open Na Ar
/-! ### STEP 1: THE WALK: the Go text returns true, AND WRITES NOTHING THAT WAS THERE: 'Below w.heap.size w w'' (Derived/Below.lean: '.refl', '.alloc', '.drew', '.setCell' at a new block, '.trans'). Open each 'IsRow' by 'rcases' AHEAD of 'go_enter'; part every test ahead of the walk. -/
set_option maxHeartbeats 4000000 in
set_option maxRecDepth 100000 in
theorem walk (a0 : Option Addr) (len0 cap0 : Nat) (z0 : List Int) (a1 : Option Addr) (len1 cap1 : Nat) (z1 : List Int) (a2 : Option Addr) (len2 cap2 : Nat) (z2 : List Int) (w : World) (w0 : IsRow .u64 w a0 len0 cap0 z0) (w1 : IsRow .u64 w a1 len1 cap1 z1) (w2 : IsRow .u64 w a2 len2 cap2 z2) :
    Calls Try.prog 4 #[.slice a0 len0 cap0, .slice a1 len1 cap1, .slice a2 len2 cap2] w fun e w' => e = .returned (.bool true) ∧ Below w.heap.size w w' := by
  have q0 := row_of w0
  obtain ⟨hr0, hx0, hm0⟩ := q0
  have q1 := row_of w1
  obtain ⟨hr1, hx1, hm1⟩ := q1
  have q2 := row_of w2
  obtain ⟨hr2, hx2, hm2⟩ := q2
  clear w0 w1 w2
  generalize z0.take len0 = x0 at *
  generalize z1.take len1 = x1 at *
  generalize z2.take len2 = x2 at *
  have B_0 := Below.refl w.heap.size w
  go_enter Try.func4, Try.ntmps4
  go_wp2_with fail
  refine (cutQ hr0 hx0 hm0).mono ?_
  rintro e w1' ⟨ca1, cn1, cc1, X1, rfl, cr1, cm1, ct1, cl1, _, hb1⟩
  clear hr0
  have hr1_1 := hr1.later hb1
  have hr2_1 := hr2.later hb1
  have B_1 := B_0.trans (hb1.mono B_0.size)
  clear hr1 hr2 B_0 hb1
  go_wp2_with fail
  refine (cutQ hr1_1 hx1 hm1).mono ?_
  rintro e w2' ⟨ca2, cn2, cc2, X2, rfl, cr2, cm2, ct2, cl2, _, hb2⟩
  clear hr1_1
  have hr2_2 := hr2_1.later hb2
  have cr1_2 := cr1.later hb2
  have B_2 := B_1.trans (hb2.mono B_1.size)
  clear hr2_1 cr1 B_1 hb2
  go_wp2_with fail
  refine (cutQ hr2_2 hx2 hm2).mono ?_
  rintro e w3' ⟨ca3, cn3, cc3, X3, rfl, cr3, cm3, ct3, cl3, _, hb3⟩
  clear hr2_2
  have cr1_3 := cr1_2.later hb3
  have cr2_3 := cr2.later hb3
  have B_3 := B_2.trans (hb3.mono B_2.size)
  clear cr1_2 cr2 B_2 hb3
  clear hx0 hm0 hx1 hm1 hx2 hm2
  go_wp2_with fail
  refine (alive_any _).mono ?_
  rintro e w4 ⟨rfl, hb4⟩
  have cr1_4 := cr1_3.later hb4
  have cr2_4 := cr2_3.later hb4
  have cr3_4 := cr3.later hb4
  have B_4 := B_3.trans (hb4.mono B_3.size)
  clear cr1_3 cr2_3 cr3 B_3 hb4
  go_wp2_with fail
  refine (lawAddQ cr1_4 cr2_4 cm1 cm2 (ct1.add ct2) (by omega)).mono ?_
  rintro e w5 ⟨a5, n5, c5, l5, rfl, r5, m5, e5, hb5⟩
  have cr1_5 := cr1_4.later hb5
  have cr2_5 := cr2_4.later hb5
  have cr3_5 := cr3_4.later hb5
  have B_5 := B_4.trans (hb5.mono B_4.size)
  clear cr1_4 cr2_4 cr3_4 B_4 hb5
  go_wp2_with fail
  refine (lawAddQ cr2_5 cr1_5 cm2 cm1 (ct2.add ct1) (by omega)).mono ?_
  rintro e w6 ⟨a6, n6, c6, l6, rfl, r6, m6, e6, hb6⟩
  have cr1_6 := cr1_5.later hb6
  have cr2_6 := cr2_5.later hb6
  have cr3_6 := cr3_5.later hb6
  have r5_6 := r5.later hb6
  have B_6 := B_5.trans (hb6.mono B_5.size)
  clear cr1_5 cr2_5 cr3_5 r5 B_5 hb6
  go_wp2_with fail
  refine (lawAddQ r5_6 cr3_6 m5 cm3 ((ct1.add ct2).add ct3) (by omega)).mono ?_
  rintro e w7 ⟨a7, n7, c7, l7, rfl, r7, m7, e7, hb7⟩
  have cr1_7 := cr1_6.later hb7
  have cr2_7 := cr2_6.later hb7
  have cr3_7 := cr3_6.later hb7
  have r5_7 := r5_6.later hb7
  have r6_7 := r6.later hb7
  have B_7 := B_6.trans (hb7.mono B_6.size)
  clear cr1_6 cr2_6 cr3_6 r5_6 r6 B_6 hb7
  go_wp2_with fail
  refine (lawAddQ cr2_7 cr3_7 cm2 cm3 (ct2.add ct3) (by omega)).mono ?_
  rintro e w8 ⟨a8, n8, c8, l8, rfl, r8, m8, e8, hb8⟩
  have cr1_8 := cr1_7.later hb8
  have cr2_8 := cr2_7.later hb8
  have cr3_8 := cr3_7.later hb8
  have r5_8 := r5_7.later hb8
  have r6_8 := r6_7.later hb8
  have r7_8 := r7.later hb8
  have B_8 := B_7.trans (hb8.mono B_7.size)
  clear cr1_7 cr2_7 cr3_7 r5_7 r6_7 r7 B_7 hb8
  go_wp2_with fail
  refine (lawAddQ cr1_8 r8 cm1 m8 (ct1.add (ct2.add ct3)) (by omega)).mono ?_
  rintro e w9 ⟨a9, n9, c9, l9, rfl, r9, m9, e9, hb9⟩
  have cr1_9 := cr1_8.later hb9
  have cr2_9 := cr2_8.later hb9
  have cr3_9 := cr3_8.later hb9
  have r5_9 := r5_8.later hb9
  have r6_9 := r6_8.later hb9
  have r7_9 := r7_8.later hb9
  have r8_9 := r8.later hb9
  have B_9 := B_8.trans (hb9.mono B_8.size)
  clear cr1_8 cr2_8 cr3_8 r5_8 r6_8 r7_8 r8 B_8 hb9
  go_wp2_with fail
  refine (sameQ r5_9 r6_9 m5 m6 e5 e6 (Int.add_comm _ _)).mono ?_
  rintro e w10 ⟨rfl, hb10⟩
  have cr1_10 := cr1_9.later hb10
  have cr2_10 := cr2_9.later hb10
  have cr3_10 := cr3_9.later hb10
  have r5_10 := r5_9.later hb10
  have r6_10 := r6_9.later hb10
  have r7_10 := r7_9.later hb10
  have r8_10 := r8_9.later hb10
  have r9_10 := r9.later hb10
  have B_10 := B_9.trans (hb10.mono B_9.size)
  clear cr1_9 cr2_9 cr3_9 r5_9 r6_9 r7_9 r8_9 r9 B_9 hb10
  go_wp2_with fail
  refine (sameQ r7_10 r9_10 m7 m9 e7 e9 (Int.add_assoc _ _ _)).mono ?_
  rintro e w11 ⟨rfl, hb11⟩
  have cr1_11 := cr1_10.later hb11
  have cr2_11 := cr2_10.later hb11
  have cr3_11 := cr3_10.later hb11
  have r5_11 := r5_10.later hb11
  have r6_11 := r6_10.later hb11
  have r7_11 := r7_10.later hb11
  have r8_11 := r8_10.later hb11
  have r9_11 := r9_10.later hb11
  have B_11 := B_10.trans (hb11.mono B_10.size)
  clear cr1_10 cr2_10 cr3_10 r5_10 r6_10 r7_10 r8_10 r9_10 B_10 hb11
  go_wp2_with fail
  refine (normalQ r7_11 m7 e7).mono ?_
  rintro e w12 ⟨rfl, hb12⟩
  have cr1_12 := cr1_11.later hb12
  have cr2_12 := cr2_11.later hb12
  have cr3_12 := cr3_11.later hb12
  have r5_12 := r5_11.later hb12
  have r6_12 := r6_11.later hb12
  have r7_12 := r7_11.later hb12
  have r8_12 := r8_11.later hb12
  have r9_12 := r9_11.later hb12
  have B_12 := B_11.trans (hb12.mono B_11.size)
  clear cr1_11 cr2_11 cr3_11 r5_11 r6_11 r7_11 r8_11 r9_11 B_11 hb12
  clear r5_12 m5 e5 r6_12 m6 e6 r7_12 m7 e7 r9_12 m9 e9
  go_wp2_with fail
  refine (lawMulQ cr1_12 cr2_12 cm1 cm2 (ct1.mul ct2) (by omega)).mono ?_
  rintro e w13 ⟨a13, n13, c13, l13, rfl, r13, m13, e13, hb13⟩
  have cr1_13 := cr1_12.later hb13
  have cr2_13 := cr2_12.later hb13
  have cr3_13 := cr3_12.later hb13
  have r8_13 := r8_12.later hb13
  have B_13 := B_12.trans (hb13.mono B_12.size)
  clear cr1_12 cr2_12 cr3_12 r8_12 B_12 hb13
  go_wp2_with fail
  refine (lawMulQ cr2_13 cr1_13 cm2 cm1 (ct2.mul ct1) (by omega)).mono ?_
  rintro e w14 ⟨a14, n14, c14, l14, rfl, r14, m14, e14, hb14⟩
  have cr1_14 := cr1_13.later hb14
  have cr2_14 := cr2_13.later hb14
  have cr3_14 := cr3_13.later hb14
  have r8_14 := r8_13.later hb14
  have r13_14 := r13.later hb14
  have B_14 := B_13.trans (hb14.mono B_13.size)
  clear cr1_13 cr2_13 cr3_13 r8_13 r13 B_13 hb14
  go_wp2_with fail
  refine (lawMulQ r13_14 cr3_14 m13 cm3 ((ct1.mul ct2).mul ct3) (by omega)).mono ?_
  rintro e w15 ⟨a15, n15, c15, l15, rfl, r15, m15, e15, hb15⟩
  have cr1_15 := cr1_14.later hb15
  have cr2_15 := cr2_14.later hb15
  have cr3_15 := cr3_14.later hb15
  have r8_15 := r8_14.later hb15
  have r13_15 := r13_14.later hb15
  have r14_15 := r14.later hb15
  have B_15 := B_14.trans (hb15.mono B_14.size)
  clear cr1_14 cr2_14 cr3_14 r8_14 r13_14 r14 B_14 hb15
  go_wp2_with fail
  refine (lawMulQ cr2_15 cr3_15 cm2 cm3 (ct2.mul ct3) (by omega)).mono ?_
  rintro e w16 ⟨a16, n16, c16, l16, rfl, r16, m16, e16, hb16⟩
  have cr1_16 := cr1_15.later hb16
  have cr2_16 := cr2_15.later hb16
  have cr3_16 := cr3_15.later hb16
  have r8_16 := r8_15.later hb16
  have r13_16 := r13_15.later hb16
  have r14_16 := r14_15.later hb16
  have r15_16 := r15.later hb16
  have B_16 := B_15.trans (hb16.mono B_15.size)
  clear cr1_15 cr2_15 cr3_15 r8_15 r13_15 r14_15 r15 B_15 hb16
  go_wp2_with fail
  refine (lawMulQ cr1_16 r16 cm1 m16 (ct1.mul (ct2.mul ct3)) (by omega)).mono ?_
  rintro e w17 ⟨a17, n17, c17, l17, rfl, r17, m17, e17, hb17⟩
  have cr1_17 := cr1_16.later hb17
  have cr2_17 := cr2_16.later hb17
  have cr3_17 := cr3_16.later hb17
  have r8_17 := r8_16.later hb17
  have r13_17 := r13_16.later hb17
  have r14_17 := r14_16.later hb17
  have r15_17 := r15_16.later hb17
  have r16_17 := r16.later hb17
  have B_17 := B_16.trans (hb17.mono B_16.size)
  clear cr1_16 cr2_16 cr3_16 r8_16 r13_16 r14_16 r15_16 r16 B_16 hb17
  go_wp2_with fail
  refine (sameQ r13_17 r14_17 m13 m14 e13 e14 (Int.mul_comm _ _)).mono ?_
  rintro e w18 ⟨rfl, hb18⟩
  have cr1_18 := cr1_17.later hb18
  have cr2_18 := cr2_17.later hb18
  have cr3_18 := cr3_17.later hb18
  have r8_18 := r8_17.later hb18
  have r13_18 := r13_17.later hb18
  have r14_18 := r14_17.later hb18
  have r15_18 := r15_17.later hb18
  have r16_18 := r16_17.later hb18
  have r17_18 := r17.later hb18
  have B_18 := B_17.trans (hb18.mono B_17.size)
  clear cr1_17 cr2_17 cr3_17 r8_17 r13_17 r14_17 r15_17 r16_17 r17 B_17 hb18
  go_wp2_with fail
  refine (sameQ r15_18 r17_18 m15 m17 e15 e17 (Int.mul_assoc _ _ _)).mono ?_
  rintro e w19 ⟨rfl, hb19⟩
  have cr1_19 := cr1_18.later hb19
  have cr2_19 := cr2_18.later hb19
  have cr3_19 := cr3_18.later hb19
  have r8_19 := r8_18.later hb19
  have r13_19 := r13_18.later hb19
  have r14_19 := r14_18.later hb19
  have r15_19 := r15_18.later hb19
  have r16_19 := r16_18.later hb19
  have r17_19 := r17_18.later hb19
  have B_19 := B_18.trans (hb19.mono B_18.size)
  clear cr1_18 cr2_18 cr3_18 r8_18 r13_18 r14_18 r15_18 r16_18 r17_18 B_18 hb19
  go_wp2_with fail
  refine (normalQ r15_19 m15 e15).mono ?_
  rintro e w20 ⟨rfl, hb20⟩
  have cr1_20 := cr1_19.later hb20
  have cr2_20 := cr2_19.later hb20
  have cr3_20 := cr3_19.later hb20
  have r8_20 := r8_19.later hb20
  have r13_20 := r13_19.later hb20
  have r14_20 := r14_19.later hb20
  have r15_20 := r15_19.later hb20
  have r16_20 := r16_19.later hb20
  have r17_20 := r17_19.later hb20
  have B_20 := B_19.trans (hb20.mono B_19.size)
  clear cr1_19 cr2_19 cr3_19 r8_19 r13_19 r14_19 r15_19 r16_19 r17_19 B_19 hb20
  clear r14_20 m14 e14 r15_20 m15 e15 r16_20 m16 e16 r17_20 m17 e17
  go_wp2_with fail
  refine (lawMulQ cr1_20 r8_20 cm1 m8 (ct1.mul (ct2.add ct3)) (by omega)).mono ?_
  rintro e w21 ⟨a21, n21, c21, l21, rfl, r21, m21, e21, hb21⟩
  have cr1_21 := cr1_20.later hb21
  have cr2_21 := cr2_20.later hb21
  have cr3_21 := cr3_20.later hb21
  have r8_21 := r8_20.later hb21
  have r13_21 := r13_20.later hb21
  have B_21 := B_20.trans (hb21.mono B_20.size)
  clear cr1_20 cr2_20 cr3_20 r8_20 r13_20 B_20 hb21
  go_wp2_with fail
  refine (lawMulQ cr1_21 cr3_21 cm1 cm3 (ct1.mul ct3) (by omega)).mono ?_
  rintro e w22 ⟨a22, n22, c22, l22, rfl, r22, m22, e22, hb22⟩
  have cr1_22 := cr1_21.later hb22
  have cr2_22 := cr2_21.later hb22
  have cr3_22 := cr3_21.later hb22
  have r8_22 := r8_21.later hb22
  have r13_22 := r13_21.later hb22
  have r21_22 := r21.later hb22
  have B_22 := B_21.trans (hb22.mono B_21.size)
  clear cr1_21 cr2_21 cr3_21 r8_21 r13_21 r21 B_21 hb22
  go_wp2_with fail
  refine (lawAddQ r13_22 r22 m13 m22 ((ct1.mul ct2).add (ct1.mul ct3)) (by omega)).mono ?_
  rintro e w23 ⟨a23, n23, c23, l23, rfl, r23, m23, e23, hb23⟩
  have cr1_23 := cr1_22.later hb23
  have cr2_23 := cr2_22.later hb23
  have cr3_23 := cr3_22.later hb23
  have r8_23 := r8_22.later hb23
  have r13_23 := r13_22.later hb23
  have r21_23 := r21_22.later hb23
  have r22_23 := r22.later hb23
  have B_23 := B_22.trans (hb23.mono B_22.size)
  clear cr1_22 cr2_22 cr3_22 r8_22 r13_22 r21_22 r22 B_22 hb23
  go_wp2_with fail
  have al24 := alloc_below (w := w23) (.cells #[.int .u64 1, .int .u64 0] 36)
  have lr24 := rowC_two w23 1 0 36
  have lm24 := nm_ten
  have cr1_al24 := cr1_23.later al24
  have cr2_al24 := cr2_23.later al24
  have cr3_al24 := cr3_23.later al24
  have r8_al24 := r8_23.later al24
  have r13_al24 := r13_23.later al24
  have r21_al24 := r21_23.later al24
  have r22_al24 := r22_23.later al24
  have r23_al24 := r23.later al24
  have B_al24 := B_23.trans (al24.mono B_23.size)
  clear cr1_23 cr2_23 cr3_23 r8_23 r13_23 r21_23 r22_23 r23 B_23 al24
  refine (lawMulQ cr1_al24 lr24 cm1 lm24 (ct1.mul lt_one) (by omega)).mono ?_
  rintro e w25 ⟨a25, n25, c25, l25, rfl, r25, m25, e25, hb25⟩
  have cr1_25 := cr1_al24.later hb25
  have cr2_25 := cr2_al24.later hb25
  have cr3_25 := cr3_al24.later hb25
  have r8_25 := r8_al24.later hb25
  have r13_25 := r13_al24.later hb25
  have r21_25 := r21_al24.later hb25
  have r22_25 := r22_al24.later hb25
  have r23_25 := r23_al24.later hb25
  have lr24_25 := lr24.later hb25
  have B_25 := B_al24.trans (hb25.mono B_al24.size)
  clear cr1_al24 cr2_al24 cr3_al24 r8_al24 r13_al24 r21_al24 r22_al24 r23_al24 lr24 B_al24 hb25
  clear lr24_25 lm24
  go_wp2_with fail
  have lr26 := rowC_nil w25
  refine (lawAddQ cr1_25 lr26 cm1 Nm.nil (ct1.add lt_zero) (by omega)).mono ?_
  rintro e w27 ⟨a27, n27, c27, l27, rfl, r27, m27, e27, hb27⟩
  have cr1_27 := cr1_25.later hb27
  have cr2_27 := cr2_25.later hb27
  have cr3_27 := cr3_25.later hb27
  have r8_27 := r8_25.later hb27
  have r13_27 := r13_25.later hb27
  have r21_27 := r21_25.later hb27
  have r22_27 := r22_25.later hb27
  have r23_27 := r23_25.later hb27
  have r25_27 := r25.later hb27
  have lr26_27 := lr26.later hb27
  have B_27 := B_25.trans (hb27.mono B_25.size)
  clear cr1_25 cr2_25 cr3_25 r8_25 r13_25 r21_25 r22_25 r23_25 r25 lr26 B_25 hb27
  clear lr26_27
  go_wp2_with fail
  refine (sameQ r21_27 r23_27 m21 m23 e21 e23 (Int.mul_add _ _ _)).mono ?_
  rintro e w28 ⟨rfl, hb28⟩
  have cr1_28 := cr1_27.later hb28
  have cr2_28 := cr2_27.later hb28
  have cr3_28 := cr3_27.later hb28
  have r8_28 := r8_27.later hb28
  have r13_28 := r13_27.later hb28
  have r21_28 := r21_27.later hb28
  have r22_28 := r22_27.later hb28
  have r23_28 := r23_27.later hb28
  have r25_28 := r25_27.later hb28
  have r27_28 := r27.later hb28
  have B_28 := B_27.trans (hb28.mono B_27.size)
  clear cr1_27 cr2_27 cr3_27 r8_27 r13_27 r21_27 r22_27 r23_27 r25_27 r27 B_27 hb28
  go_wp2_with fail
  refine (normQ cr1_28 cm1 ct1 (by omega)).mono ?_
  rintro e w29 ⟨a29, n29, c29, l29, rfl, r29, m29, e29, hb29⟩
  have cr1_29 := cr1_28.later hb29
  have cr2_29 := cr2_28.later hb29
  have cr3_29 := cr3_28.later hb29
  have r8_29 := r8_28.later hb29
  have r13_29 := r13_28.later hb29
  have r21_29 := r21_28.later hb29
  have r22_29 := r22_28.later hb29
  have r23_29 := r23_28.later hb29
  have r25_29 := r25_28.later hb29
  have r27_29 := r27_28.later hb29
  have B_29 := B_28.trans (hb29.mono B_28.size)
  clear cr1_28 cr2_28 cr3_28 r8_28 r13_28 r21_28 r22_28 r23_28 r25_28 r27_28 B_28 hb29
  go_wp2_with fail
  refine (sameQ r25_29 r29 m25 m29 e25 e29 (Int.mul_one _)).mono ?_
  rintro e w30 ⟨rfl, hb30⟩
  have cr1_30 := cr1_29.later hb30
  have cr2_30 := cr2_29.later hb30
  have cr3_30 := cr3_29.later hb30
  have r8_30 := r8_29.later hb30
  have r13_30 := r13_29.later hb30
  have r21_30 := r21_29.later hb30
  have r22_30 := r22_29.later hb30
  have r23_30 := r23_29.later hb30
  have r25_30 := r25_29.later hb30
  have r27_30 := r27_29.later hb30
  have r29_30 := r29.later hb30
  have B_30 := B_29.trans (hb30.mono B_29.size)
  clear cr1_29 cr2_29 cr3_29 r8_29 r13_29 r21_29 r22_29 r23_29 r25_29 r27_29 r29 B_29 hb30
  go_wp2_with fail
  refine (sameQ r27_30 r25_30 m27 m25 e27 e25 (by rw [Int.add_zero, Int.mul_one])).mono ?_
  rintro e w31 ⟨rfl, hb31⟩
  have cr1_31 := cr1_30.later hb31
  have cr2_31 := cr2_30.later hb31
  have cr3_31 := cr3_30.later hb31
  have r8_31 := r8_30.later hb31
  have r13_31 := r13_30.later hb31
  have r21_31 := r21_30.later hb31
  have r22_31 := r22_30.later hb31
  have r23_31 := r23_30.later hb31
  have r25_31 := r25_30.later hb31
  have r27_31 := r27_30.later hb31
  have r29_31 := r29_30.later hb31
  have B_31 := B_30.trans (hb31.mono B_30.size)
  clear cr1_30 cr2_30 cr3_30 r8_30 r13_30 r21_30 r22_30 r23_30 r25_30 r27_30 r29_30 B_30 hb31
  clear r21_31 m21 e21 r22_31 m22 e22 r23_31 m23 e23 r25_31 m25 e25 r27_31 m27 e27 r29_31 m29 e29 r13_31 m13 e13 r8_31 m8 e8 cr3_31
  by_cases hx0 : cn1 = 0
  · have t1 : ((cn1 : Int) == 0) = true := by simp [hx0]
    clear hx0 cr1_31 cr2_31
    go_wp2
    go_ret
    exact ⟨rfl, B_31⟩
  by_cases hy0 : cn2 = 0
  · have t1 : ((cn1 : Int) == 0) = false := by simp; omega
    have t2 : ((cn2 : Int) == 0) = true := by simp [hy0]
    clear hx0 hy0 cr1_31 cr2_31
    go_wp2
    go_ret
    exact ⟨rfl, B_31⟩
  have t1 : ((cn1 : Int) == 0) = false := by simp; omega
  have t2 : ((cn2 : Int) == 0) = false := by simp; omega
  obtain ⟨bkx, ofx, hxa, hxb, hxc⟩ := cr1_31.1.at (by omega)
  have hx1 := hxc 0 (by omega)
  have gx : U (X1.getD 0 0) := cm1.ws.getAnyB 0
  have kx := cr1_31.cut (m := 1) (by omega)
  rw [take_one (xs := X1) (by have := cr1_31.1.1; omega)] at kx
  have ixc : 1 ≤ cc1 := by have := cr1_31.2.1; omega
  have jxc : (1 : Int) ≤ (cc1 : Int) := by omega
  have zxc : ¬ (cc1 = 0) := by omega
  rw [Nat.add_zero] at hx1
  subst hxa
  have px : 0 < cn1 := by omega
  generalize X1.getD 0 0 = x0 at *
  clear hxc cr1_31
  obtain ⟨bky, ofy, hya, hyb, hyc⟩ := cr2_31.1.at (by omega)
  have hy1 := hyc 0 (by omega)
  have gy : U (X2.getD 0 0) := cm2.ws.getAnyB 0
  have ky := cr2_31.cut (m := 1) (by omega)
  rw [take_one (xs := X2) (by have := cr2_31.1.1; omega)] at ky
  have iyc : 1 ≤ cc2 := by have := cr2_31.2.1; omega
  have jyc : (1 : Int) ≤ (cc2 : Int) := by omega
  have zyc : ¬ (cc2 = 0) := by omega
  rw [Nat.add_zero] at hy1
  subst hya
  have py : 0 < cn2 := by omega
  generalize X2.getD 0 0 = y0 at *
  clear hyc cr2_31
  clear hx0 hy0
  have cx := hx1
  have cy := hy1
  clear hx1 hy1
  have bd := below_drewN (Below.refl w31.heap.size w31) 1
  go_upto_region 27 with (fail)
  go_cut [27, 28] from 247 to 256 (fun h l wx => h = .int .u64 (mulHi x0 y0) ∧ l = .int .u64 (mulLo x0 y0) ∧ Below w31.heap.size w31 wx)
  case first =>
    go_region_with (go_at_call 19; refine (mul_any gx gy _).mono ?_; rintro e wm ⟨_, _, rfl, hgm, rfl, rfl⟩)
    all_goals (go_wp2_with fail; go_meet; exact ⟨rfl, rfl, bd.trans hgm.2⟩)
  obtain ⟨rfl, rfl, hb32⟩ := hcut
  obtain ⟨w32, hw32⟩ : ∃ w32, w32 = wc := ⟨_, rfl⟩
  subst hw32
  have kx_32 := kx.later hb32
  have ky_32 := ky.later hb32
  have B_32 := B_31.trans (hb32.mono B_31.size)
  clear kx ky B_31 hb32
  clear bd
  have bd := below_drewN (Below.refl w32.heap.size w32) (1)
  have kx1 : RowC w32.drew _ _ _ _ := kx_32.later bd
  have ky1 : RowC w32.drew _ _ _ _ := ky_32.later bd
  go_upto_region 28 with (fail)
  go_cut [29, 30] from 257 to 264 (fun v f wx => ∃ a' n' c' l', v = .slice a' n' c' ∧ f = .int .i64 0 ∧ RowC wx a' n' c' l' ∧ Nm l' (x0 * y0) ∧ Hid (l' = words (x0 * y0)) ∧ Below w32.heap.size w32 wx)
  case first =>
    go_region_with (go_at_call 20; refine (mulQ kx1 ky1 (Nm.one gx) (Nm.one gy) ((Lt.word gx).mul (Lt.word gy)) (by omega)).mono ?_; rintro e wm ⟨a9', n9', c9', l9', rfl, r9', m9', e9', hgm⟩)
    all_goals (go_wp2_with fail; go_meet; exact ⟨a9', n9', c9', l9', rfl, rfl, r9', m9', e9', bd.trans hgm⟩)
  obtain ⟨a33, n33, c33, l33, rfl, rfl, r33, m33, e33, hb33⟩ := hcut
  obtain ⟨w33, hw33⟩ : ∃ w33, w33 = wc := ⟨_, rfl⟩
  subst hw33
  have kx_33 := kx_32.later hb33
  have ky_33 := ky_32.later hb33
  have B_33 := B_32.trans (hb33.mono B_32.size)
  clear kx_32 ky_32 B_32 hb33
  clear bd kx1 ky1
  go_upto_region 29 with (fail)
  have cx29 := kx_33.cell0
  have cy29 := ky_33.cell0
  go_quiet ((go_at_call 21; exact Calls.quiet_of_same (addSame gx gy U_zero _)))
  have bd := below_drewN (Below.refl w33.heap.size w33) (nq + 1)
  have kx1 : RowC (w33.drewN (nq + 1)) _ _ _ _ := kx_33.later bd
  have ky1 : RowC (w33.drewN (nq + 1)) _ _ _ _ := ky_33.later bd
  go_upto_region 30 with (fail)
  go_cut [33, 34] from 275 to 282 (fun v f wx => ∃ a' n' c' l', v = .slice a' n' c' ∧ f = .int .i64 0 ∧ RowC wx a' n' c' l' ∧ Nm l' (x0 + y0) ∧ Hid (l' = words (x0 + y0)) ∧ Below w33.heap.size w33 wx)
  case first =>
    go_region_with (go_at_call 22; refine (addQ kx1 ky1 (Nm.one gx) (Nm.one gy) ((Lt.word gx).add (Lt.word gy)) (by omega)).mono ?_; rintro e wm ⟨a9', n9', c9', l9', rfl, r9', m9', e9', hgm⟩)
    all_goals (go_wp2_with fail; go_meet; exact ⟨a9', n9', c9', l9', rfl, rfl, r9', m9', e9', bd.trans hgm⟩)
  obtain ⟨a34, n34, c34, l34, rfl, rfl, r34, m34, e34, hb34⟩ := hcut
  obtain ⟨w34, hw34⟩ : ∃ w34, w34 = wc := ⟨_, rfl⟩
  subst hw34
  have kx_34 := kx_33.later hb34
  have ky_34 := ky_33.later hb34
  have r33_34 := r33.later hb34
  have B_34 := B_33.trans (hb34.mono B_33.size)
  clear kx_33 ky_33 r33 B_33 hb34
  clear bd kx1 ky1
  clear cx cy cx29 cy29 ixc jxc zxc iyc jyc zyc px py
  have ulo : 0 ≤ mulLo x0 y0 ∧ mulLo x0 y0 < 18446744073709551616 := U_mulLo x0 y0
  have uhi : 0 ≤ mulHi x0 y0 ∧ mulHi x0 y0 < 18446744073709551616 := U_mulHi gx gy
  have usl : 0 ≤ addLo x0 y0 0 ∧ addLo x0 y0 0 < 18446744073709551616 := U_addLo x0 y0 0
  have ush : 0 ≤ addHi x0 y0 0 ∧ addHi x0 y0 0 < 18446744073709551616 := U_addHi gx gy
  have EM : Hid (x0 * y0 = mulLo x0 y0 + 18446744073709551616 * mulHi x0 y0) := by show _ = _; rw [mul_split]; omega
  have ES : Hid (x0 + y0 = addLo x0 y0 0 + 18446744073709551616 * addHi x0 y0 0) := by show _ = _; unfold addLo addHi; omega
  generalize mulLo x0 y0 = lo at *
  generalize mulHi x0 y0 = hi at *
  generalize addLo x0 y0 0 = slo at *
  generalize addHi x0 y0 0 = shi at *
  clear kx_34 ky_34
  go_wp2_with fail
  have al35 := alloc_below (w := w34) (.cells #[.int .u64 lo, .int .u64 hi] 36)
  have lr35 := rowC_two w34 lo hi 36
  have lm35 := Nm.two ulo uhi
  have r33_al35 := r33_34.later al35
  have r34_al35 := r34.later al35
  have B_al35 := B_34.trans (al35.mono B_34.size)
  clear r33_34 r34 B_34 al35
  refine (normQ lr35 lm35 (lt_two ulo uhi) (by omega)).mono ?_
  rintro e w36 ⟨a36, n36, c36, l36, rfl, r36, m36, e36, hb36⟩
  have r33_36 := r33_al35.later hb36
  have r34_36 := r34_al35.later hb36
  have lr35_36 := lr35.later hb36
  have B_36 := B_al35.trans (hb36.mono B_al35.size)
  clear r33_al35 r34_al35 lr35 B_al35 hb36
  go_wp2_with fail
  refine (sameQ r33_36 r36 m33 m36 e33 e36 (EM.out)).mono ?_
  rintro e w37 ⟨rfl, hb37⟩
  have r33_37 := r33_36.later hb37
  have r34_37 := r34_36.later hb37
  have lr35_37 := lr35_36.later hb37
  have r36_37 := r36.later hb37
  have B_37 := B_36.trans (hb37.mono B_36.size)
  clear r33_36 r34_36 lr35_36 r36 B_36 hb37
  clear lr35_37 lm35 r36_37 m36 e36 r33_37 m33 e33
  go_wp2_with fail
  have al38 := alloc_below (w := w37) (.cells #[.int .u64 slo, .int .u64 shi] 36)
  have lr38 := rowC_two w37 slo shi 36
  have lm38 := Nm.two usl ush
  have r34_al38 := r34_37.later al38
  have B_al38 := B_37.trans (al38.mono B_37.size)
  clear r34_37 B_37 al38
  refine (normQ lr38 lm38 (lt_two usl ush) (by omega)).mono ?_
  rintro e w39 ⟨a39, n39, c39, l39, rfl, r39, m39, e39, hb39⟩
  have r34_39 := r34_al38.later hb39
  have lr38_39 := lr38.later hb39
  have B_39 := B_al38.trans (hb39.mono B_al38.size)
  clear r34_al38 lr38 B_al38 hb39
  go_wp2_with fail
  refine (sameQ r34_39 r39 m34 m39 e34 e39 (ES.out)).mono ?_
  rintro e w40 ⟨rfl, hb40⟩
  have r34_40 := r34_39.later hb40
  have lr38_40 := lr38_39.later hb40
  have r39_40 := r39.later hb40
  have B_40 := B_39.trans (hb40.mono B_39.size)
  clear r34_39 lr38_39 r39 B_39 hb40
  clear lr38_40 lm38 r39_40 m39 e39 r34_40 m34 e34
  go_wp2
  go_ret
  exact ⟨rfl, B_40⟩

/-! ### THE ROW's STEP: WRITTEN OUT: LEAVE IT -/
set_option maxRecDepth 100000 in
theorem lifted (os : Os) (started : os.Started) (H : Type) (enc : TypeId × Value → H) :
    ReturnsInHanded {} Try.checked os 4 .any (Rows.natRingSpec.pre6 enc Try.prog Try.f4 Rows.natRingRow.domain false) (Rows.natRingSpec.post enc Try.prog Try.f4 false true false false) := by
  refine returnsInHanded_of_change (C := Try.checked) own started (by kernel_rfl) Try.func4
    (ChangeSpec.witness6 (enc := enc) (C := Try.checked) false ⟨#[], #[.slice none 0 0, .slice none 0 0, .slice none 0 0], []⟩ 8 (by kernel_rfl) (by kernel_rfl) (by kernel_rfl) (by kernel_rfl)) ?_
  intro W base args ds gs before hval0 hW hcnd _
  have hval : ∀ (j : Nat) t v, Try.f4.params[j]? = some t → args[j]? = some v → Value.okWide Try.prog W .any base t v := hval0
  have hW' := hW
  obtain ⟨p, q, hA0, hV, rfl, hfz, hnd⟩ := hW
  have hA : DataW.TrodAll enc Try.prog W 0 (fun _ => true) true Try.f4.params.toList args.toList ds p := hA0
  rw [Try.params4] at hA hval
  obtain ⟨v0, vs0, d0, ds0, p0, q0, hargs, rfl, rfl, h0, r0⟩ := trodAll_cons hA
  obtain ⟨v1, vs1, d1, ds1, p1, q1, rfl, rfl, rfl, h1, r1⟩ := trodAll_cons r0
  obtain ⟨v2, vs2, d2, ds2, p2, q2, rfl, rfl, rfl, h2, r2⟩ := trodAll_cons r1
  obtain ⟨rfl, rfl, rfl⟩ := trodAll_nil r2
  obtain rfl : args = #[v0, v1, v2] := by cases args; simp_all
  obtain ⟨rfl, rfl⟩ := trodVars_none hV
  obtain ⟨a0, len0, cap0, rfl⟩ := okWide_slice Try.underlying22 (hval 0 22 v0 rfl rfl)
  have k0 := h0
  have lt0 : ∀ x ∈ p0, x.block < W.heap.size := by obtain ⟨m, hm⟩ := k0; exact DataW.trod_lt m _ _ _ hm
  obtain ⟨z0, w0⟩ : ∃ zs, IsRow .u64 W a0 len0 cap0 zs := by
    obtain ⟨fuel, hf⟩ := h0
    rcases open_ints Try.underlying22 Try.underlying36 (by kernel_rfl) hf with ⟨hcs, _⟩ | ⟨x, l, c, zs, hcs, _, hl, hm, hz, _, hcell, hwz⟩
    · simp [Value.cells] at hcs
      obtain ⟨rfl, rfl, rfl⟩ := hcs
      exact ⟨[], .inl ⟨rfl, rfl, rfl, rfl⟩⟩
    · simp [Value.cells] at hcs
      obtain ⟨rfl, rfl, rfl⟩ := hcs
      exact ⟨zs, .inr ⟨_, rfl, hl, hm, by simpa using hz, hcell, hwz⟩⟩
  obtain ⟨a1, len1, cap1, rfl⟩ := okWide_slice Try.underlying22 (hval 1 22 v1 rfl rfl)
  have k1 := h1
  have lt1 : ∀ x ∈ p1, x.block < W.heap.size := by obtain ⟨m, hm⟩ := k1; exact DataW.trod_lt m _ _ _ hm
  obtain ⟨z1, w1⟩ : ∃ zs, IsRow .u64 W a1 len1 cap1 zs := by
    obtain ⟨fuel, hf⟩ := h1
    rcases open_ints Try.underlying22 Try.underlying36 (by kernel_rfl) hf with ⟨hcs, _⟩ | ⟨x, l, c, zs, hcs, _, hl, hm, hz, _, hcell, hwz⟩
    · simp [Value.cells] at hcs
      obtain ⟨rfl, rfl, rfl⟩ := hcs
      exact ⟨[], .inl ⟨rfl, rfl, rfl, rfl⟩⟩
    · simp [Value.cells] at hcs
      obtain ⟨rfl, rfl, rfl⟩ := hcs
      exact ⟨zs, .inr ⟨_, rfl, hl, hm, by simpa using hz, hcell, hwz⟩⟩
  obtain ⟨a2, len2, cap2, rfl⟩ := okWide_slice Try.underlying22 (hval 2 22 v2 rfl rfl)
  have k2 := h2
  have lt2 : ∀ x ∈ p2, x.block < W.heap.size := by obtain ⟨m, hm⟩ := k2; exact DataW.trod_lt m _ _ _ hm
  obtain ⟨z2, w2⟩ : ∃ zs, IsRow .u64 W a2 len2 cap2 zs := by
    obtain ⟨fuel, hf⟩ := h2
    rcases open_ints Try.underlying22 Try.underlying36 (by kernel_rfl) hf with ⟨hcs, _⟩ | ⟨x, l, c, zs, hcs, _, hl, hm, hz, _, hcell, hwz⟩
    · simp [Value.cells] at hcs
      obtain ⟨rfl, rfl, rfl⟩ := hcs
      exact ⟨[], .inl ⟨rfl, rfl, rfl, rfl⟩⟩
    · simp [Value.cells] at hcs
      obtain ⟨rfl, rfl, rfl⟩ := hcs
      exact ⟨zs, .inr ⟨_, rfl, hl, hm, by simpa using hz, hcell, hwz⟩⟩
  clear hA0 hval0
  refine (walk a0 len0 cap0 z0 a1 len1 cap1 z1 a2 len2 cap2 z2 W w0 w1 w2).mono fun e W' ⟨he, bel⟩ => ?_
  subst he
  exact ⟨_, rfl, _, _, _, [], _, [], hW', trodAll_mk1 (shut_bool Try.underlying4 _), (trodAll_cons_mk (Below.trod laidOut (by kernel_rfl) (of_decide_eq_true (by kernel_rfl)) k0 bel lt0) (trodAll_cons_mk (Below.trod laidOut (by kernel_rfl) (of_decide_eq_true (by kernel_rfl)) k1 bel lt1) (trodAll_cons_mk (Below.trod laidOut (by kernel_rfl) (of_decide_eq_true (by kernel_rfl)) k2 bel lt2) trodAll_mk0))), rfl, bel.frame _, fun h => by cases h⟩

theorem over : Rows.natRingRow.holds Try.pinned (OpenSpec.ofChange Rows.natRingSpec) :=
  OpenClaim.holds_of_wide 4 Try.f4 rfl rfl rfl rfl rfl rfl rfl ⟨rfl, rfl, rfl, rfl, rfl⟩ rfl rfl rfl rfl rfl (by kernel_rfl) Try.func4 (by kernel_rfl)
    (of_decide_eq_true (by kernel_rfl)) (by unfold Func.isWrapper; first | (rw [if_pos (by decide +kernel)]; kernel_rfl) | (rw [if_neg (by decide +kernel)]; exact ⟨rfl, rfl⟩))
    (fun os started H enc _ => lifted os started H enc)

/-- ████ THE STATEMENT ████ -/
theorem proved : Rows.NatRingSaid := over
#print axioms proved
end Go.Proofs.Ythigofcbmgheeaa.natRing
