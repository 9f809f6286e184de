/-
  THE SHELL OF A PROOF OF 'Rows.NatOrderSaid' ('plumb/plumblaw02.NatOrder'), WRITTEN BY PROGRAM (proof-skeleton.mjs, third state) off the guide's own print for that function. Not trusted: Lean checks it.
  YOURS IS THE HOLE MARKED 'HOLE' (it bears 'sorry'). ALL ELSE IS THE GUIDE's OWN WAY (howto/template/XProofs.lean; Derived/Test/ChunkProofs.lean for 'Below') at this function's number and types: leave it.
-/
import Derived.Test.YthigofcbmgheeaaRows
import Derived.WalkKit
import Derived.ProofKit
import Derived.OpenShut
import Derived.ShutString
import Derived.WalkLawsBesides
import Derived.WalkSpells
import Derived.Deep.RegionWith
import Derived.Deep.DeepCutAuto
import Derived.Deep.DeepFit
import Derived.Test.YthigofcbmgheeaaBaseB
import Derived.ChangeOld
import Derived.Below
namespace Go.Proofs.Ythigofcbmgheeaa.natOrder
open Go.ChangeShapes Go.WideShapes Go.ChangeAt Go.RowKit
open Go.ChangeMaps (open_string shut_string)
set_option linter.unusedVariables false

theorem own : ownKnob Try.prog.godebug = none := by kernel_rfl
theorem laidOut : laidOutB Try.prog = true := by kernel_rfl

/-- WHAT THE WALK IS TOLD OF A SLICE OF INTEGERS THAT CAME IN: it is nil; or it leads to a row of 'cap' cells, the numbers 'zs' (the first 'len' are its elements, the rest its spare room), each fitting its kind. -/
def IsRow (k : IntKind) (w : World) (a : Option Addr) (len cap : Nat) (zs : List Int) : Prop :=
  (a = none ∧ len = 0 ∧ cap = 0 ∧ zs = []) ∨
  ∃ x, a = some x ∧ len ≤ cap ∧ cap ≤ maxLen ∧ zs.length = cap ∧ (∀ i, i < zs.length → w.cell? (x.add i) = some (.int k (zs.getD i 0))) ∧ ∀ n ∈ zs, (Lit.int k n).wf = true

open Na Ar
/-! ### STEP 1: THE WALK: the Go text returns true, AND WRITES NOTHING THAT WAS THERE: 'Below w.heap.size w w'' (Derived/Below.lean: '.refl', '.alloc', '.drew', '.setCell' at a new block, '.trans'). Open each 'IsRow' by 'rcases' AHEAD of 'go_enter'; part every test ahead of the walk. -/
set_option maxHeartbeats 4000000 in
set_option maxRecDepth 100000 in
theorem walk (a0 : Option Addr) (len0 cap0 : Nat) (z0 : List Int) (a1 : Option Addr) (len1 cap1 : Nat) (z1 : List Int) (a2 : Option Addr) (len2 cap2 : Nat) (z2 : List Int) (w : World) (w0 : IsRow .u64 w a0 len0 cap0 z0) (w1 : IsRow .u64 w a1 len1 cap1 z1) (w2 : IsRow .u64 w a2 len2 cap2 z2) :
    Calls Try.prog 5 #[.slice a0 len0 cap0, .slice a1 len1 cap1, .slice a2 len2 cap2] w fun e w' => e = .returned (.bool true) ∧ Below w.heap.size w w' := by
  have q0 := row_of w0
  obtain ⟨hr0, hx0, hm0⟩ := q0
  have q1 := row_of w1
  obtain ⟨hr1, hx1, hm1⟩ := q1
  have q2 := row_of w2
  obtain ⟨hr2, hx2, hm2⟩ := q2
  clear w0 w1 w2
  generalize z0.take len0 = x0 at *
  generalize z1.take len1 = x1 at *
  generalize z2.take len2 = x2 at *
  have B_0 := Below.refl w.heap.size w
  go_enter Try.func5, Try.ntmps5
  go_wp2_with fail
  refine (cutQ hr0 hx0 hm0).mono ?_
  rintro e w1' ⟨ca1, cn1, cc1, X1, rfl, cr1, cm1, ct1, cl1, _, hb1⟩
  clear hr0
  have hr1_1 := hr1.later hb1
  have hr2_1 := hr2.later hb1
  have B_1 := B_0.trans (hb1.mono B_0.size)
  clear hr1 hr2 B_0 hb1
  go_wp2_with fail
  refine (cutQ hr1_1 hx1 hm1).mono ?_
  rintro e w2' ⟨ca2, cn2, cc2, X2, rfl, cr2, cm2, ct2, cl2, _, hb2⟩
  clear hr1_1
  have hr2_2 := hr2_1.later hb2
  have cr1_2 := cr1.later hb2
  have B_2 := B_1.trans (hb2.mono B_1.size)
  clear hr2_1 cr1 B_1 hb2
  go_wp2_with fail
  refine (cutQ hr2_2 hx2 hm2).mono ?_
  rintro e w3' ⟨ca3, cn3, cc3, X3, rfl, cr3, cm3, ct3, cl3, _, hb3⟩
  clear hr2_2
  have cr1_3 := cr1_2.later hb3
  have cr2_3 := cr2.later hb3
  have B_3 := B_2.trans (hb3.mono B_2.size)
  clear cr1_2 cr2 B_2 hb3
  clear hx0 hm0 hx1 hm1 hx2 hm2
  go_wp2_with fail
  refine (alive_any _).mono ?_
  rintro e w4 ⟨rfl, hb4⟩
  have cr1_4 := cr1_3.later hb4
  have cr2_4 := cr2_3.later hb4
  have cr3_4 := cr3.later hb4
  have B_4 := B_3.trans (hb4.mono B_3.size)
  clear cr1_3 cr2_3 cr3 B_3 hb4
  go_wp2_with fail
  have al5 := alloc_below (w := w4) (.cells #[.int .u64 0, .int .u64 0] 36)
  have lr5 := rowC_two w4 0 0 36
  have lm5 := nm_zeros
  have cr1_al5 := cr1_4.later al5
  have cr2_al5 := cr2_4.later al5
  have cr3_al5 := cr3_4.later al5
  have B_al5 := B_4.trans (al5.mono B_4.size)
  clear cr1_4 cr2_4 cr3_4 B_4 al5
  have lr6 := rowC_nil (w4.alloc (.cells #[.int .u64 0, .int .u64 0] 36))
  refine (cmpK lr6 lr5 Nm.nil lm5 (ordN_self 0)).mono ?_
  rintro e w7 ⟨rfl, hb7⟩
  have cr1_7 := cr1_al5.later hb7
  have cr2_7 := cr2_al5.later hb7
  have cr3_7 := cr3_al5.later hb7
  have lr5_7 := lr5.later hb7
  have lr6_7 := lr6.later hb7
  have B_7 := B_al5.trans (hb7.mono B_al5.size)
  clear cr1_al5 cr2_al5 cr3_al5 lr5 lr6 B_al5 hb7
  clear lr5_7 lm5
  clear lr6_7
  go_wp2_with fail
  have al8 := alloc_below (w := w7) (.cells #[.int .u64 1] 36)
  have lr8 := rowC_one w7 1 36
  have lm8 := Nm.one (x := 1) (by omega)
  have cr1_al8 := cr1_7.later al8
  have cr2_al8 := cr2_7.later al8
  have cr3_al8 := cr3_7.later al8
  have B_al8 := B_7.trans (al8.mono B_7.size)
  clear cr1_7 cr2_7 cr3_7 B_7 al8
  have lr9 := rowC_nil (w7.alloc (.cells #[.int .u64 1] 36))
  refine (cmpK lr8 lr9 lm8 Nm.nil (ordN_gt (by omega))).mono ?_
  rintro e w10 ⟨rfl, hb10⟩
  have cr1_10 := cr1_al8.later hb10
  have cr2_10 := cr2_al8.later hb10
  have cr3_10 := cr3_al8.later hb10
  have lr8_10 := lr8.later hb10
  have lr9_10 := lr9.later hb10
  have B_10 := B_al8.trans (hb10.mono B_al8.size)
  clear cr1_al8 cr2_al8 cr3_al8 lr8 lr9 B_al8 hb10
  clear lr8_10 lm8
  clear lr9_10
  obtain ⟨A, hA⟩ : ∃ A, A = num X1 := ⟨_, rfl⟩
  rw [← hA] at cm1 ct1
  clear hA
  obtain ⟨B, hB⟩ : ∃ B, B = num X2 := ⟨_, rfl⟩
  rw [← hB] at cm2 ct2
  clear hB
  obtain ⟨C, hC⟩ : ∃ C, C = num X3 := ⟨_, rfl⟩
  rw [← hC] at cm3 ct3
  clear hC
  obtain ⟨K, hK⟩ : ∃ K, ordN A B = K := ⟨_, rfl⟩
  obtain ⟨b0, b1⟩ := ordN_bd A B
  have oneg : ordN B A = -K := by rw [← hK]; exact ordN_neg A B
  have oadd : ordN (A + C) (B + C) = K := by rw [← hK]; exact ordN_add A B C
  have ozero : decide (A = B) = (K == 0) := by rw [← hK]; exact ordN_zero A B
  have omul : 0 < C → ordN (A * C) (B * C) = K := fun h => by rw [← hK]; exact ordN_mul h
  have ole : K ≤ 0 ↔ A ≤ B := by rw [← hK]; exact ordN_le
  rw [hK] at b0 b1
  have HhK : Hid (ordN A B = K) := hK
  have Honeg : Hid (ordN B A = -K) := oneg
  have Hoadd : Hid (ordN (A + C) (B + C) = K) := oadd
  have Hozero : Hid (decide (A = B) = (K == 0)) := ozero
  have Homul : Hid (0 < C → ordN (A * C) (B * C) = K) := omul
  have Hole : Hid (K ≤ 0 ↔ A ≤ B) := ole
  clear hK oneg oadd ozero omul ole
  have tk : (K != K) = false := by simp
  have tn : (-K != -K) = false := by simp
  have tb : ((K == 0) != (K == 0)) = false := by simp
  go_wp2_with fail
  refine (cmpK cr1_10 cr2_10 cm1 cm2 (HhK.out)).mono ?_
  rintro e w11 ⟨rfl, hb11⟩
  have cr1_11 := cr1_10.later hb11
  have cr2_11 := cr2_10.later hb11
  have cr3_11 := cr3_10.later hb11
  have B_11 := B_10.trans (hb11.mono B_10.size)
  clear cr1_10 cr2_10 cr3_10 B_10 hb11
  go_wp2_with fail
  refine (cmpK cr2_11 cr1_11 cm2 cm1 (Honeg.out)).mono ?_
  rintro e w12 ⟨rfl, hb12⟩
  have cr1_12 := cr1_11.later hb12
  have cr2_12 := cr2_11.later hb12
  have cr3_12 := cr3_11.later hb12
  have B_12 := B_11.trans (hb12.mono B_11.size)
  clear cr1_11 cr2_11 cr3_11 B_11 hb12
  go_wp2_with fail
  refine (normQ cr1_12 cm1 ct1 (by omega)).mono ?_
  rintro e w13 ⟨a13, n13, c13, l13, rfl, r13, m13, e13, hb13⟩
  have cr1_13 := cr1_12.later hb13
  have cr2_13 := cr2_12.later hb13
  have cr3_13 := cr3_12.later hb13
  have B_13 := B_12.trans (hb13.mono B_12.size)
  clear cr1_12 cr2_12 cr3_12 B_12 hb13
  go_wp2_with fail
  refine (normQ cr2_13 cm2 ct2 (by omega)).mono ?_
  rintro e w14 ⟨a14, n14, c14, l14, rfl, r14, m14, e14, hb14⟩
  have cr1_14 := cr1_13.later hb14
  have cr2_14 := cr2_13.later hb14
  have cr3_14 := cr3_13.later hb14
  have r13_14 := r13.later hb14
  have B_14 := B_13.trans (hb14.mono B_13.size)
  clear cr1_13 cr2_13 cr3_13 r13 B_13 hb14
  go_wp2_with fail
  refine (sameD r13_14 r14 m13 m14 e13 e14 Hozero.out).mono ?_
  rintro e w15 ⟨rfl, hb15⟩
  have cr1_15 := cr1_14.later hb15
  have cr2_15 := cr2_14.later hb15
  have cr3_15 := cr3_14.later hb15
  have r13_15 := r13_14.later hb15
  have r14_15 := r14.later hb15
  have B_15 := B_14.trans (hb15.mono B_14.size)
  clear cr1_14 cr2_14 cr3_14 r13_14 r14 B_14 hb15
  clear r13_15 m13 e13 r14_15 m14 e14
  go_wp2_with fail
  refine (cmpK cr1_15 cr1_15 cm1 cm1 (ordN_self A)).mono ?_
  rintro e w16 ⟨rfl, hb16⟩
  have cr1_16 := cr1_15.later hb16
  have cr2_16 := cr2_15.later hb16
  have cr3_16 := cr3_15.later hb16
  have B_16 := B_15.trans (hb16.mono B_15.size)
  clear cr1_15 cr2_15 cr3_15 B_15 hb16
  go_wp2_with fail
  refine (lawAddQ cr1_16 cr3_16 cm1 cm3 (ct1.add ct3) (by omega)).mono ?_
  rintro e w17 ⟨a17, n17, c17, l17, rfl, r17, m17, e17, hb17⟩
  have cr1_17 := cr1_16.later hb17
  have cr2_17 := cr2_16.later hb17
  have cr3_17 := cr3_16.later hb17
  have B_17 := B_16.trans (hb17.mono B_16.size)
  clear cr1_16 cr2_16 cr3_16 B_16 hb17
  go_wp2_with fail
  refine (lawAddQ cr2_17 cr3_17 cm2 cm3 (ct2.add ct3) (by omega)).mono ?_
  rintro e w18 ⟨a18, n18, c18, l18, rfl, r18, m18, e18, hb18⟩
  have cr1_18 := cr1_17.later hb18
  have cr2_18 := cr2_17.later hb18
  have cr3_18 := cr3_17.later hb18
  have r17_18 := r17.later hb18
  have B_18 := B_17.trans (hb18.mono B_17.size)
  clear cr1_17 cr2_17 cr3_17 r17 B_17 hb18
  go_wp2_with fail
  refine (lawMulQ cr1_18 cr3_18 cm1 cm3 (ct1.mul ct3) (by omega)).mono ?_
  rintro e w19 ⟨a19, n19, c19, l19, rfl, r19, m19, e19, hb19⟩
  have cr1_19 := cr1_18.later hb19
  have cr2_19 := cr2_18.later hb19
  have cr3_19 := cr3_18.later hb19
  have r17_19 := r17_18.later hb19
  have r18_19 := r18.later hb19
  have B_19 := B_18.trans (hb19.mono B_18.size)
  clear cr1_18 cr2_18 cr3_18 r17_18 r18 B_18 hb19
  go_wp2_with fail
  refine (lawMulQ cr2_19 cr3_19 cm2 cm3 (ct2.mul ct3) (by omega)).mono ?_
  rintro e w20 ⟨a20, n20, c20, l20, rfl, r20, m20, e20, hb20⟩
  have cr1_20 := cr1_19.later hb20
  have cr2_20 := cr2_19.later hb20
  have cr3_20 := cr3_19.later hb20
  have r17_20 := r17_19.later hb20
  have r18_20 := r18_19.later hb20
  have r19_20 := r19.later hb20
  have B_20 := B_19.trans (hb20.mono B_19.size)
  clear cr1_19 cr2_19 cr3_19 r17_19 r18_19 r19 B_19 hb20
  go_wp2_with fail
  refine (cmpK r17_20 r18_20 m17 m18 (Hoadd.out)).mono ?_
  rintro e w21 ⟨rfl, hb21⟩
  have cr1_21 := cr1_20.later hb21
  have cr2_21 := cr2_20.later hb21
  have cr3_21 := cr3_20.later hb21
  have r17_21 := r17_20.later hb21
  have r18_21 := r18_20.later hb21
  have r19_21 := r19_20.later hb21
  have r20_21 := r20.later hb21
  have B_21 := B_20.trans (hb21.mono B_20.size)
  clear cr1_20 cr2_20 cr3_20 r17_20 r18_20 r19_20 r20 B_20 hb21
  clear r17_21 m17 e17 r18_21 m18 e18
  go_wp2_with fail
  refine (normQ cr3_21 cm3 ct3 (by omega)).mono ?_
  rintro e w22 ⟨a22, n22, c22, l22, rfl, r22, m22, e22, hb22⟩
  have cr1_22 := cr1_21.later hb22
  have cr2_22 := cr2_21.later hb22
  have cr3_22 := cr3_21.later hb22
  have r19_22 := r19_21.later hb22
  have r20_22 := r20_21.later hb22
  have B_22 := B_21.trans (hb22.mono B_21.size)
  clear cr1_21 cr2_21 cr3_21 r19_21 r20_21 B_21 hb22
  have hlz : n22 = 0 ↔ C = 0 := by rw [← r22.1.1, e22.out]; exact words_nil cm3.nonneg
  have hC0 := cm3.nonneg
  clear r22 m22 e22
  by_cases hz : C = 0
  · have t0 : ((n22 : Int) == 0) = true := by simp [hlz.mpr hz]
    have om : ordN (A * C) (B * C) = 0 := by rw [hz]; simp [ordN_self]
    have HM : Hid (ordN (A * C) (B * C) = 0) := om
    clear om hlz hz hC0
    go_wp2_with fail
    refine (cmpK r19_22 r20_22 m19 m20 HM.out).mono ?_
    rintro e w23 ⟨rfl, hb23⟩
    have cr1_23 := cr1_22.later hb23
    have cr2_23 := cr2_22.later hb23
    have cr3_23 := cr3_22.later hb23
    have r19_23 := r19_22.later hb23
    have r20_23 := r20_22.later hb23
    have B_23 := B_22.trans (hb23.mono B_22.size)
    clear cr1_22 cr2_22 cr3_22 r19_22 r20_22 B_22 hb23
    clear r19_23 m19 e19 r20_23 m20 e20
    go_wp2_with fail
    refine (cmpK cr1_23 cr2_23 cm1 cm2 (HhK.out)).mono ?_
    rintro e w24 ⟨rfl, hb24⟩
    have cr1_24 := cr1_23.later hb24
    have cr2_24 := cr2_23.later hb24
    have cr3_24 := cr3_23.later hb24
    have B_24 := B_23.trans (hb24.mono B_23.size)
    clear cr1_23 cr2_23 cr3_23 B_23 hb24
    by_cases hle : K ≤ 0
    · go_wp2_with fail
      refine (cmpK cr2_24 cr3_24 cm2 cm3 (rfl)).mono ?_
      rintro e w25 ⟨rfl, hb25⟩
      have cr1_25 := cr1_24.later hb25
      have cr2_25 := cr2_24.later hb25
      have cr3_25 := cr3_24.later hb25
      have B_25 := B_24.trans (hb25.mono B_24.size)
      clear cr1_24 cr2_24 cr3_24 B_24 hb25
      have hjl := ordN_le (A := B) (B := C)
      have hil := ordN_le (A := A) (B := C)
      have hab := Hole.out.mp hle
      obtain ⟨I, hI⟩ : ∃ I, ordN A C = I := ⟨_, rfl⟩
      have HI : Hid (ordN A C = I) := hI
      rw [hI] at hil
      clear hI
      generalize ordN B C = J at *
      by_cases hj : J ≤ 0
      · have hi : I ≤ 0 := hil.mpr (by have := hjl.mp hj; omega)
        clear hil hjl hab
        go_wp2_with fail
        refine (cmpK cr1_25 cr3_25 cm1 cm3 HI.out).mono ?_
        rintro e w26 ⟨rfl, hb26⟩
        have cr1_26 := cr1_25.later hb26
        have cr2_26 := cr2_25.later hb26
        have cr3_26 := cr3_25.later hb26
        have B_26 := B_25.trans (hb26.mono B_25.size)
        clear cr1_25 cr2_25 cr3_25 B_25 hb26
        go_wp2
        go_ret
        exact ⟨rfl, B_26⟩
      · clear hil hjl hab
        go_wp2
        go_ret
        exact ⟨rfl, B_25⟩
    · go_wp2
      go_ret
      exact ⟨rfl, B_24⟩
  · have t0 : ((n22 : Int) == 0) = false := by simp; exact fun h => hz (hlz.mp h)
    have HM : Hid (ordN (A * C) (B * C) = K) := Homul.out (by omega)
    clear hlz hz hC0
    go_wp2_with fail
    refine (cmpK r19_22 r20_22 m19 m20 HM.out).mono ?_
    rintro e w23 ⟨rfl, hb23⟩
    have cr1_23 := cr1_22.later hb23
    have cr2_23 := cr2_22.later hb23
    have cr3_23 := cr3_22.later hb23
    have r19_23 := r19_22.later hb23
    have r20_23 := r20_22.later hb23
    have B_23 := B_22.trans (hb23.mono B_22.size)
    clear cr1_22 cr2_22 cr3_22 r19_22 r20_22 B_22 hb23
    clear r19_23 m19 e19 r20_23 m20 e20
    go_wp2_with fail
    refine (cmpK cr1_23 cr2_23 cm1 cm2 (HhK.out)).mono ?_
    rintro e w24 ⟨rfl, hb24⟩
    have cr1_24 := cr1_23.later hb24
    have cr2_24 := cr2_23.later hb24
    have cr3_24 := cr3_23.later hb24
    have B_24 := B_23.trans (hb24.mono B_23.size)
    clear cr1_23 cr2_23 cr3_23 B_23 hb24
    by_cases hle : K ≤ 0
    · go_wp2_with fail
      refine (cmpK cr2_24 cr3_24 cm2 cm3 (rfl)).mono ?_
      rintro e w25 ⟨rfl, hb25⟩
      have cr1_25 := cr1_24.later hb25
      have cr2_25 := cr2_24.later hb25
      have cr3_25 := cr3_24.later hb25
      have B_25 := B_24.trans (hb25.mono B_24.size)
      clear cr1_24 cr2_24 cr3_24 B_24 hb25
      have hjl := ordN_le (A := B) (B := C)
      have hil := ordN_le (A := A) (B := C)
      have hab := Hole.out.mp hle
      obtain ⟨I, hI⟩ : ∃ I, ordN A C = I := ⟨_, rfl⟩
      have HI : Hid (ordN A C = I) := hI
      rw [hI] at hil
      clear hI
      generalize ordN B C = J at *
      by_cases hj : J ≤ 0
      · have hi : I ≤ 0 := hil.mpr (by have := hjl.mp hj; omega)
        clear hil hjl hab
        go_wp2_with fail
        refine (cmpK cr1_25 cr3_25 cm1 cm3 HI.out).mono ?_
        rintro e w26 ⟨rfl, hb26⟩
        have cr1_26 := cr1_25.later hb26
        have cr2_26 := cr2_25.later hb26
        have cr3_26 := cr3_25.later hb26
        have B_26 := B_25.trans (hb26.mono B_25.size)
        clear cr1_25 cr2_25 cr3_25 B_25 hb26
        go_wp2
        go_ret
        exact ⟨rfl, B_26⟩
      · clear hil hjl hab
        go_wp2
        go_ret
        exact ⟨rfl, B_25⟩
    · go_wp2
      go_ret
      exact ⟨rfl, B_24⟩

/-! ### THE ROW's STEP: WRITTEN OUT: LEAVE IT -/
set_option maxRecDepth 100000 in
theorem lifted (os : Os) (started : os.Started) (H : Type) (enc : TypeId × Value → H) :
    ReturnsInHanded {} Try.checked os 5 .any (Rows.natOrderSpec.pre6 enc Try.prog Try.f5 Rows.natOrderRow.domain false) (Rows.natOrderSpec.post enc Try.prog Try.f5 false true false false) := by
  refine returnsInHanded_of_change (C := Try.checked) own started (by kernel_rfl) Try.func5
    (ChangeSpec.witness6 (enc := enc) (C := Try.checked) false ⟨#[], #[.slice none 0 0, .slice none 0 0, .slice none 0 0], []⟩ 8 (by kernel_rfl) (by kernel_rfl) (by kernel_rfl) (by kernel_rfl)) ?_
  intro W base args ds gs before hval0 hW hcnd _
  have hval : ∀ (j : Nat) t v, Try.f5.params[j]? = some t → args[j]? = some v → Value.okWide Try.prog W .any base t v := hval0
  have hW' := hW
  obtain ⟨p, q, hA0, hV, rfl, hfz, hnd⟩ := hW
  have hA : DataW.TrodAll enc Try.prog W 0 (fun _ => true) true Try.f5.params.toList args.toList ds p := hA0
  rw [Try.params5] at hA hval
  obtain ⟨v0, vs0, d0, ds0, p0, q0, hargs, rfl, rfl, h0, r0⟩ := trodAll_cons hA
  obtain ⟨v1, vs1, d1, ds1, p1, q1, rfl, rfl, rfl, h1, r1⟩ := trodAll_cons r0
  obtain ⟨v2, vs2, d2, ds2, p2, q2, rfl, rfl, rfl, h2, r2⟩ := trodAll_cons r1
  obtain ⟨rfl, rfl, rfl⟩ := trodAll_nil r2
  obtain rfl : args = #[v0, v1, v2] := by cases args; simp_all
  obtain ⟨rfl, rfl⟩ := trodVars_none hV
  obtain ⟨a0, len0, cap0, rfl⟩ := okWide_slice Try.underlying22 (hval 0 22 v0 rfl rfl)
  have k0 := h0
  have lt0 : ∀ x ∈ p0, x.block < W.heap.size := by obtain ⟨m, hm⟩ := k0; exact DataW.trod_lt m _ _ _ hm
  obtain ⟨z0, w0⟩ : ∃ zs, IsRow .u64 W a0 len0 cap0 zs := by
    obtain ⟨fuel, hf⟩ := h0
    rcases open_ints Try.underlying22 Try.underlying36 (by kernel_rfl) hf with ⟨hcs, _⟩ | ⟨x, l, c, zs, hcs, _, hl, hm, hz, _, hcell, hwz⟩
    · simp [Value.cells] at hcs
      obtain ⟨rfl, rfl, rfl⟩ := hcs
      exact ⟨[], .inl ⟨rfl, rfl, rfl, rfl⟩⟩
    · simp [Value.cells] at hcs
      obtain ⟨rfl, rfl, rfl⟩ := hcs
      exact ⟨zs, .inr ⟨_, rfl, hl, hm, by simpa using hz, hcell, hwz⟩⟩
  obtain ⟨a1, len1, cap1, rfl⟩ := okWide_slice Try.underlying22 (hval 1 22 v1 rfl rfl)
  have k1 := h1
  have lt1 : ∀ x ∈ p1, x.block < W.heap.size := by obtain ⟨m, hm⟩ := k1; exact DataW.trod_lt m _ _ _ hm
  obtain ⟨z1, w1⟩ : ∃ zs, IsRow .u64 W a1 len1 cap1 zs := by
    obtain ⟨fuel, hf⟩ := h1
    rcases open_ints Try.underlying22 Try.underlying36 (by kernel_rfl) hf with ⟨hcs, _⟩ | ⟨x, l, c, zs, hcs, _, hl, hm, hz, _, hcell, hwz⟩
    · simp [Value.cells] at hcs
      obtain ⟨rfl, rfl, rfl⟩ := hcs
      exact ⟨[], .inl ⟨rfl, rfl, rfl, rfl⟩⟩
    · simp [Value.cells] at hcs
      obtain ⟨rfl, rfl, rfl⟩ := hcs
      exact ⟨zs, .inr ⟨_, rfl, hl, hm, by simpa using hz, hcell, hwz⟩⟩
  obtain ⟨a2, len2, cap2, rfl⟩ := okWide_slice Try.underlying22 (hval 2 22 v2 rfl rfl)
  have k2 := h2
  have lt2 : ∀ x ∈ p2, x.block < W.heap.size := by obtain ⟨m, hm⟩ := k2; exact DataW.trod_lt m _ _ _ hm
  obtain ⟨z2, w2⟩ : ∃ zs, IsRow .u64 W a2 len2 cap2 zs := by
    obtain ⟨fuel, hf⟩ := h2
    rcases open_ints Try.underlying22 Try.underlying36 (by kernel_rfl) hf with ⟨hcs, _⟩ | ⟨x, l, c, zs, hcs, _, hl, hm, hz, _, hcell, hwz⟩
    · simp [Value.cells] at hcs
      obtain ⟨rfl, rfl, rfl⟩ := hcs
      exact ⟨[], .inl ⟨rfl, rfl, rfl, rfl⟩⟩
    · simp [Value.cells] at hcs
      obtain ⟨rfl, rfl, rfl⟩ := hcs
      exact ⟨zs, .inr ⟨_, rfl, hl, hm, by simpa using hz, hcell, hwz⟩⟩
  clear hA0 hval0
  refine (walk a0 len0 cap0 z0 a1 len1 cap1 z1 a2 len2 cap2 z2 W w0 w1 w2).mono fun e W' ⟨he, bel⟩ => ?_
  subst he
  exact ⟨_, rfl, _, _, _, [], _, [], hW', trodAll_mk1 (shut_bool Try.underlying4 _), (trodAll_cons_mk (Below.trod laidOut (by kernel_rfl) (of_decide_eq_true (by kernel_rfl)) k0 bel lt0) (trodAll_cons_mk (Below.trod laidOut (by kernel_rfl) (of_decide_eq_true (by kernel_rfl)) k1 bel lt1) (trodAll_cons_mk (Below.trod laidOut (by kernel_rfl) (of_decide_eq_true (by kernel_rfl)) k2 bel lt2) trodAll_mk0))), rfl, bel.frame _, fun h => by cases h⟩

theorem over : Rows.natOrderRow.holds Try.pinned (OpenSpec.ofChange Rows.natOrderSpec) :=
  OpenClaim.holds_of_wide 5 Try.f5 rfl rfl rfl rfl rfl rfl rfl ⟨rfl, rfl, rfl, rfl, rfl⟩ rfl rfl rfl rfl rfl (by kernel_rfl) Try.func5 (by kernel_rfl)
    (of_decide_eq_true (by kernel_rfl)) (by unfold Func.isWrapper; first | (rw [if_pos (by decide +kernel)]; kernel_rfl) | (rw [if_neg (by decide +kernel)]; exact ⟨rfl, rfl⟩))
    (fun os started H enc _ => lifted os started H enc)

/-- ████ THE STATEMENT ████ -/
theorem proved : Rows.NatOrderSaid := over
#print axioms proved
end Go.Proofs.Ythigofcbmgheeaa.natOrder
