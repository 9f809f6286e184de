/-
  THE SHELL OF A PROOF OF 'Rows.NatAddsSaid' ('plumb/plumblaw02.NatAdds'), WRITTEN BY PROGRAM (proof-skeleton.mjs, third state) off the guide's own print for that function. Not trusted: Lean checks it.
  YOURS IS THE HOLE MARKED 'HOLE' (it bears 'sorry'). ALL ELSE IS THE GUIDE's OWN WAY (howto/template/XProofs.lean; Derived/Test/ChunkProofs.lean for 'Below') at this function's number and types: leave it.
-/
import Derived.Test.YthigofcbmgheeabRows
import Derived.WalkKit
import Derived.ProofKit
import Derived.OpenShut
import Derived.ShutString
import Derived.WalkLawsBesides
import Derived.WalkSpells
import Derived.Deep.RegionWith
import Derived.Deep.DeepCutAuto
import Derived.Deep.DeepFit
import Derived.Test.YthigofcbmgheeabBaseB
import Derived.Test.YthigofcbmgheeabBaseA
import Derived.ChangeOld
import Derived.Below
namespace Go.Proofs.Ythigofcbmgheeab.natAdds
open Go.ChangeShapes Go.WideShapes Go.ChangeAt Go.RowKit
open Go.ChangeMaps (open_string shut_string)
set_option linter.unusedVariables false

theorem own : ownKnob Try.prog.godebug = none := by kernel_rfl
theorem laidOut : laidOutB Try.prog = true := by kernel_rfl

/-- WHAT THE WALK IS TOLD OF A SLICE OF INTEGERS THAT CAME IN: it is nil; or it leads to a row of 'cap' cells, the numbers 'zs' (the first 'len' are its elements, the rest its spare room), each fitting its kind. -/
def IsRow (k : IntKind) (w : World) (a : Option Addr) (len cap : Nat) (zs : List Int) : Prop :=
  (a = none ∧ len = 0 ∧ cap = 0 ∧ zs = []) ∨
  ∃ x, a = some x ∧ len ≤ cap ∧ cap ≤ maxLen ∧ zs.length = cap ∧ (∀ i, i < zs.length → w.cell? (x.add i) = some (.int k (zs.getD i 0))) ∧ ∀ n ∈ zs, (Lit.int k n).wf = true

open Na
/-! ### STEP 1: THE WALK: the Go text returns true, AND WRITES NOTHING THAT WAS THERE: 'Below w.heap.size w w'' (Derived/Below.lean: '.refl', '.alloc', '.drew', '.setCell' at a new block, '.trans'). Open each 'IsRow' by 'rcases' AHEAD of 'go_enter'; part every test ahead of the walk. -/
set_option maxHeartbeats 2000000 in
set_option maxRecDepth 100000 in
theorem walk (a0 : Option Addr) (len0 cap0 : Nat) (z0 : List Int) (a1 : Option Addr) (len1 cap1 : Nat) (z1 : List Int) (a2 : Option Addr) (len2 cap2 : Nat) (z2 : List Int) (w : World) (w0 : IsRow .u64 w a0 len0 cap0 z0) (w1 : IsRow .u64 w a1 len1 cap1 z1) (w2 : IsRow .u64 w a2 len2 cap2 z2) :
    Calls Try.prog 5 #[.slice a0 len0 cap0, .slice a1 len1 cap1, .slice a2 len2 cap2] w fun e w' => e = .returned (.bool true) ∧ Below w.heap.size w w' := by
  have q0 := row_of w0
  have q1 := row_of w1
  have q2 := row_of w2
  obtain ⟨hr0, hx0, hm0⟩ := q0
  obtain ⟨hr1, hx1, hm1⟩ := q1
  obtain ⟨hr2, hx2, hm2⟩ := q2
  clear w0 w1 w2
  generalize z0.take len0 = x0 at *
  generalize z1.take len1 = x1 at *
  generalize z2.take len2 = x2 at *
  have wX : Ws (x0.take 60) := hx0.take 60
  have wY : Ws (x1.take 60) := hx1.take 60
  have wZ : Ws (x2.take 60) := hx2.take 60
  have lX : (x0.take 60).length ≤ 60 := by rw [List.length_take]; omega
  have lY : (x1.take 60).length ≤ 60 := by rw [List.length_take]; omega
  have lZ : (x2.take 60).length ≤ 60 := by rw [List.length_take]; omega
  obtain ⟨X, hX⟩ : ∃ X, X = x0.take 60 := ⟨_, rfl⟩
  obtain ⟨Y, hY⟩ : ∃ Y, Y = x1.take 60 := ⟨_, rfl⟩
  obtain ⟨Z, hZ⟩ : ∃ Z, Z = x2.take 60 := ⟨_, rfl⟩
  have cX := fun (w : World) (h : RowAt .u64 w a0 len0 x0) => lawCut_any (cap := cap0) h hm0
  have cY := fun (w : World) (h : RowAt .u64 w a1 len1 x1) => lawCut_any (cap := cap1) h hm1
  have cZ := fun (w : World) (h : RowAt .u64 w a2 len2 x2) => lawCut_any (cap := cap2) h hm2
  simp only [← hX] at cX wX lX
  simp only [← hY] at cY wY lY
  simp only [← hZ] at cZ wZ lZ
  clear hX hY hZ
  have B_0 := Below.refl w.heap.size w
  go_enter Try.func5, Try.ntmps5
  go_wp2_with fail
  refine (cX _ hr0).mono ?_
  rintro e w1 ⟨v1, rfl, ho1, hb1⟩
  obtain ⟨a1, c1, hv1, r1⟩ := ho1.readsC
  rw [hv1]
  have rY0_1 := hr1.later hb1
  have rZ0_1 := hr2.later hb1
  have B_1 := B_0.trans (hb1.mono B_0.size)
  clear hr1 hr2 B_0 hb1
  clear ho1 hv1
  go_wp2_with fail
  refine (cY _ rY0_1).mono ?_
  rintro e w2 ⟨v2, rfl, ho2, hb2⟩
  obtain ⟨a2, c2, hv2, r2⟩ := ho2.readsC
  rw [hv2]
  have rY0_2 := rY0_1.later hb2
  have rZ0_2 := rZ0_1.later hb2
  have rX_2 := r1.later hb2
  have B_2 := B_1.trans (hb2.mono B_1.size)
  clear rY0_1 rZ0_1 r1 B_1 hb2
  clear ho2 hv2
  go_wp2_with fail
  refine (cZ _ rZ0_2).mono ?_
  rintro e w3 ⟨v3, rfl, ho3, hb3⟩
  obtain ⟨a3, c3, hv3, r3⟩ := ho3.readsC
  rw [hv3]
  have rY0_3 := rY0_2.later hb3
  have rZ0_3 := rZ0_2.later hb3
  have rX_3 := rX_2.later hb3
  have rY_3 := r2.later hb3
  have B_3 := B_2.trans (hb3.mono B_2.size)
  clear rY0_2 rZ0_2 rX_2 r2 B_2 hb3
  clear ho3 hv3
  clear rY0_3 rZ0_3
  clear hr0 hx0 hx1 hx2 hm0 hm1 hm2 cX cY cZ
  have lX0 : X.length ≤ 10000 := by omega
  have lX1 : X.length ≤ 4000000 := by omega
  have lX2 : X.length ≤ 100000 := by omega
  have lX3 : X.length ≤ 1000000 := by omega
  have lY0 : Y.length ≤ 10000 := by omega
  have lY1 : Y.length ≤ 4000000 := by omega
  have lY2 : Y.length ≤ 100000 := by omega
  have lY3 : Y.length ≤ 1000000 := by omega
  have lZ0 : Z.length ≤ 10000 := by omega
  have lZ1 : Z.length ≤ 4000000 := by omega
  have lZ2 : Z.length ≤ 100000 := by omega
  have lZ3 : Z.length ≤ 1000000 := by omega
  have lN := words_len wX
  have lN2 : (Na.words (num X)).length * 8 ≤ 140737488351232 := by omega
  go_wp2_with fail
  refine (natNorm_any rX_3 wX lX1).mono ?_
  rintro e w4 ⟨v4, rfl, ho4, hb4⟩
  obtain ⟨a4, c4, hv4, r4⟩ := ho4.readsC
  rw [hv4]
  have rX_4 := rX_3.later hb4
  have rY_4 := rY_3.later hb4
  have rZ_4 := r3.later hb4
  have B_4 := B_3.trans (hb4.mono B_3.size)
  clear rX_3 rY_3 r3 B_3 hb4
  clear ho4 hv4
  go_wp2_with fail
  refine (refNorm_any rX_4.1 wX lX3).mono ?_
  rintro e w5 ⟨v5, rfl, ho5, hb5⟩
  obtain ⟨a5, c5, hv5, r5⟩ := ho5.readsC
  rw [hv5]
  have rX_5 := rX_4.later hb5
  have rY_5 := rY_4.later hb5
  have rZ_5 := rZ_4.later hb5
  have n1_5 := r4.later hb5
  have B_5 := B_4.trans (hb5.mono B_4.size)
  clear rX_4 rY_4 rZ_4 r4 B_4 hb5
  clear ho5 hv5
  go_wp2_with fail
  refine (same_true n1_5.1 r5.1 lN2 lN2 rfl).mono ?_
  rintro e w6 ⟨rfl, hb6⟩
  have rX_6 := rX_5.later hb6
  have rY_6 := rY_5.later hb6
  have rZ_6 := rZ_5.later hb6
  have n1_6 := n1_5.later hb6
  have n2_6 := r5.later hb6
  have B_6 := B_5.trans (hb6.mono B_5.size)
  clear rX_5 rY_5 rZ_5 n1_5 r5 B_5 hb6
  clear n1_6 n2_6
  go_wp2_with fail
  refine (natCmp_any rX_6 rY_6 wX wY lX1 lY1).mono ?_
  rintro e w7 ⟨rfl, hb7⟩
  have rX_7 := rX_6.later hb7
  have rY_7 := rY_6.later hb7
  have rZ_7 := rZ_6.later hb7
  have B_7 := B_6.trans (hb7.mono B_6.size)
  clear rX_6 rY_6 rZ_6 B_6 hb7
  go_wp2_with fail
  refine (refCmp_any rX_7.1 rY_7.1 wX wY lX3 lY3).mono ?_
  rintro e w8 ⟨rfl, hb8⟩
  have rX_8 := rX_7.later hb8
  have rY_8 := rY_7.later hb8
  have rZ_8 := rZ_7.later hb8
  have B_8 := B_7.trans (hb8.mono B_7.size)
  clear rX_7 rY_7 rZ_7 B_7 hb8
  go_wp2_with fail
  refine (natWord_any rX_8 wX lX1).mono ?_
  rintro e w9 ⟨rfl, hb9⟩
  have rX_9 := rX_8.later hb9
  have rY_9 := rY_8.later hb9
  have rZ_9 := rZ_8.later hb9
  have B_9 := B_8.trans (hb9.mono B_8.size)
  clear rX_8 rY_8 rZ_8 B_8 hb9
  go_wp2_with fail
  refine (refWord_any rX_9.1 wX lX3).mono ?_
  rintro e w10 ⟨rfl, hb10⟩
  have rX_10 := rX_9.later hb10
  have rY_10 := rY_9.later hb10
  have rZ_10 := rZ_9.later hb10
  have B_10 := B_9.trans (hb10.mono B_9.size)
  clear rX_9 rY_9 rZ_9 B_9 hb10
  have bv := wordV_bd (num_nonneg wX)
  have lF := words_len1 bv
  have lF2 : (Na.words (wordV (num X))).length * 8 ≤ 140737488351232 := by omega
  go_wp2_with fail
  refine (natFrom_any bv _).mono ?_
  rintro e w11 ⟨v11, rfl, ho11, hb11⟩
  obtain ⟨a11, c11, hv11, r11⟩ := ho11.readsC
  rw [hv11]
  have rX_11 := rX_10.later hb11
  have rY_11 := rY_10.later hb11
  have rZ_11 := rZ_10.later hb11
  have B_11 := B_10.trans (hb11.mono B_10.size)
  clear rX_10 rY_10 rZ_10 B_10 hb11
  clear ho11 hv11
  go_wp2_with fail
  refine (refFrom_any bv _).mono ?_
  rintro e w12 ⟨v12, rfl, ho12, hb12⟩
  obtain ⟨a12, c12, hv12, r12⟩ := ho12.readsC
  rw [hv12]
  have rX_12 := rX_11.later hb12
  have rY_12 := rY_11.later hb12
  have rZ_12 := rZ_11.later hb12
  have f1_12 := r11.later hb12
  have B_12 := B_11.trans (hb12.mono B_11.size)
  clear rX_11 rY_11 rZ_11 r11 B_11 hb12
  clear ho12 hv12
  go_wp2_with fail
  refine (same_true f1_12.1 r12.1 lF2 lF2 rfl).mono ?_
  rintro e w13 ⟨rfl, hb13⟩
  have rX_13 := rX_12.later hb13
  have rY_13 := rY_12.later hb13
  have rZ_13 := rZ_12.later hb13
  have f1_13 := f1_12.later hb13
  have f2_13 := r12.later hb13
  have B_13 := B_12.trans (hb13.mono B_12.size)
  clear rX_12 rY_12 rZ_12 f1_12 r12 B_12 hb13
  clear f1_13 f2_13
  go_wp2_with fail
  refine (natAdd_any rX_13 rY_13 wX wY lX1 lY1).mono ?_
  rintro e w14 ⟨v14, rfl, ho14, hb14⟩
  obtain ⟨a14, c14, hv14, r14⟩ := ho14.readsC
  rw [hv14]
  have rX_14 := rX_13.later hb14
  have rY_14 := rY_13.later hb14
  have rZ_14 := rZ_13.later hb14
  have B_14 := B_13.trans (hb14.mono B_13.size)
  clear rX_13 rY_13 rZ_13 B_13 hb14
  clear ho14 hv14
  go_wp2_with fail
  refine (refAdd_any rX_14.1 rY_14.1 wX wY lX2 lY2).mono ?_
  rintro e w15 ⟨v15, rfl, ho15, hb15⟩
  obtain ⟨a15, c15, hv15, r15⟩ := ho15.readsC
  rw [hv15]
  have rX_15 := rX_14.later hb15
  have rY_15 := rY_14.later hb15
  have rZ_15 := rZ_14.later hb15
  have a1_15 := r14.later hb15
  have B_15 := B_14.trans (hb15.mono B_14.size)
  clear rX_14 rY_14 rZ_14 r14 B_14 hb15
  clear ho15 hv15
  go_wp2_with fail
  refine (natSub_any rX_15 rY_15 wX wY lX1 lY1).mono ?_
  rintro e w16 ⟨v16, rfl, ho16, hb16⟩
  obtain ⟨a16, c16, hv16, r16⟩ := ho16.readsC
  rw [hv16]
  have rX_16 := rX_15.later hb16
  have rY_16 := rY_15.later hb16
  have rZ_16 := rZ_15.later hb16
  have a1_16 := a1_15.later hb16
  have a2_16 := r15.later hb16
  have B_16 := B_15.trans (hb16.mono B_15.size)
  clear rX_15 rY_15 rZ_15 a1_15 r15 B_15 hb16
  clear ho16 hv16
  go_wp2_with fail
  refine (refSub_any rX_16.1 rY_16.1 wX wY lX2 lY2).mono ?_
  rintro e w17 ⟨v17, rfl, ho17, hb17⟩
  obtain ⟨a17, c17, hv17, r17⟩ := ho17.readsC
  rw [hv17]
  have rX_17 := rX_16.later hb17
  have rY_17 := rY_16.later hb17
  have rZ_17 := rZ_16.later hb17
  have a1_17 := a1_16.later hb17
  have a2_17 := a2_16.later hb17
  have s1_17 := r16.later hb17
  have B_17 := B_16.trans (hb17.mono B_16.size)
  clear rX_16 rY_16 rZ_16 a1_16 a2_16 r16 B_16 hb17
  clear ho17 hv17
  have wss := wss0_three ⟨wX, lX0⟩ ⟨wY, lY0⟩ ⟨wZ, lZ0⟩
  go_wp2_with fail
  have al18 := alloc_below (w := w17) (.cells #[.slice a1 X.length c1, .slice a2 Y.length c2, .slice a3 Z.length c3] 22)
  refine (natSum_any (rowsC_three 22 rX_17 rY_17 rZ_17) wss.big (by omega)).mono ?_
  rintro e w18 ⟨v18, rfl, ho18, hc18⟩
  obtain ⟨a18, c18, hv18, r18⟩ := ho18.readsC
  rw [hv18]
  have hb18 := al18.trans (hc18.mono al18.size)
  have rX_18 := rX_17.later hb18
  have rY_18 := rY_17.later hb18
  have rZ_18 := rZ_17.later hb18
  have a1_18 := a1_17.later hb18
  have a2_18 := a2_17.later hb18
  have s1_18 := s1_17.later hb18
  have s2_18 := r17.later hb18
  have B_18 := B_17.trans (hb18.mono B_17.size)
  clear rX_17 rY_17 rZ_17 a1_17 a2_17 s1_17 r17 B_17 hb18
  clear ho18 hv18 al18 hc18
  go_wp2_with fail
  have al19 := alloc_below (w := w18) (.cells #[.slice a1 X.length c1, .slice a2 Y.length c2, .slice a3 Z.length c3] 22)
  refine (refSum_any (rowsC_three 22 rX_18 rY_18 rZ_18).rows wss (by omega)).mono ?_
  rintro e w19 ⟨v19, rfl, ho19, hc19⟩
  obtain ⟨a19, c19, hv19, r19⟩ := ho19.readsC
  rw [hv19]
  have hb19 := al19.trans (hc19.mono al19.size)
  have rX_19 := rX_18.later hb19
  have rY_19 := rY_18.later hb19
  have rZ_19 := rZ_18.later hb19
  have a1_19 := a1_18.later hb19
  have a2_19 := a2_18.later hb19
  have s1_19 := s1_18.later hb19
  have s2_19 := s2_18.later hb19
  have u1_19 := r18.later hb19
  have B_19 := B_18.trans (hb19.mono B_18.size)
  clear rX_18 rY_18 rZ_18 a1_18 a2_18 s1_18 s2_18 r18 B_18 hb19
  clear ho19 hv19 al19 hc19
  go_wp2_with fail
  refine (natMul_any rX_19 rY_19 wX wY lX1 lY1).mono ?_
  rintro e w20 ⟨v20, rfl, ho20, hb20⟩
  obtain ⟨a20, c20, hv20, r20⟩ := ho20.readsC
  rw [hv20]
  have rX_20 := rX_19.later hb20
  have rY_20 := rY_19.later hb20
  have rZ_20 := rZ_19.later hb20
  have a1_20 := a1_19.later hb20
  have a2_20 := a2_19.later hb20
  have s1_20 := s1_19.later hb20
  have s2_20 := s2_19.later hb20
  have u1_20 := u1_19.later hb20
  have u2_20 := r19.later hb20
  have B_20 := B_19.trans (hb20.mono B_19.size)
  clear rX_19 rY_19 rZ_19 a1_19 a2_19 s1_19 s2_19 u1_19 r19 B_19 hb20
  clear ho20 hv20
  go_wp2_with fail
  refine (refMul_any rX_20.1 rY_20.1 wX wY lX2 lY2).mono ?_
  rintro e w21 ⟨v21, rfl, ho21, hb21⟩
  obtain ⟨a21, c21, hv21, r21⟩ := ho21.readsC
  rw [hv21]
  have rX_21 := rX_20.later hb21
  have rY_21 := rY_20.later hb21
  have rZ_21 := rZ_20.later hb21
  have a1_21 := a1_20.later hb21
  have a2_21 := a2_20.later hb21
  have s1_21 := s1_20.later hb21
  have s2_21 := s2_20.later hb21
  have u1_21 := u1_20.later hb21
  have u2_21 := u2_20.later hb21
  have m1_21 := r20.later hb21
  have B_21 := B_20.trans (hb21.mono B_20.size)
  clear rX_20 rY_20 rZ_20 a1_20 a2_20 s1_20 s2_20 u1_20 u2_20 r20 B_20 hb21
  clear ho21 hv21
  clear rX_21 rY_21 rZ_21
  have t1 : (resL (num X + num Y)).length ≤ 5000 := by have := resL_len (num X + num Y); omega
  have t2 : (subL (num X) (num Y)).length ≤ 5000 := by have := subL_len (num X) (num Y); omega
  have t3 : (resL (sumN [X, Y, Z])).length ≤ 5000 := by have := resL_len (sumN [X, Y, Z]); omega
  have t4 : (resL (num X * num Y)).length ≤ 5000 := by have := resL_len (num X * num Y); omega
  go_wp2_with fail
  refine (lawTold_any a1_21.1 a2_21.1 t1 t1 rfl).mono ?_
  rintro e w22 ⟨rfl, hb22⟩
  have a1_22 := a1_21.later hb22
  have a2_22 := a2_21.later hb22
  have s1_22 := s1_21.later hb22
  have s2_22 := s2_21.later hb22
  have u1_22 := u1_21.later hb22
  have u2_22 := u2_21.later hb22
  have m1_22 := m1_21.later hb22
  have m2_22 := r21.later hb22
  have B_22 := B_21.trans (hb22.mono B_21.size)
  clear a1_21 a2_21 s1_21 s2_21 u1_21 u2_21 m1_21 r21 B_21 hb22
  clear a1_22 a2_22
  go_wp2_with fail
  refine (lawTold_any s1_22.1 s2_22.1 t2 t2 rfl).mono ?_
  rintro e w23 ⟨rfl, hb23⟩
  have s1_23 := s1_22.later hb23
  have s2_23 := s2_22.later hb23
  have u1_23 := u1_22.later hb23
  have u2_23 := u2_22.later hb23
  have m1_23 := m1_22.later hb23
  have m2_23 := m2_22.later hb23
  have B_23 := B_22.trans (hb23.mono B_22.size)
  clear s1_22 s2_22 u1_22 u2_22 m1_22 m2_22 B_22 hb23
  clear s1_23 s2_23
  go_wp2_with fail
  refine (lawTold_any u1_23.1 u2_23.1 t3 t3 rfl).mono ?_
  rintro e w24 ⟨rfl, hb24⟩
  have u1_24 := u1_23.later hb24
  have u2_24 := u2_23.later hb24
  have m1_24 := m1_23.later hb24
  have m2_24 := m2_23.later hb24
  have B_24 := B_23.trans (hb24.mono B_23.size)
  clear u1_23 u2_23 m1_23 m2_23 B_23 hb24
  clear u1_24 u2_24
  go_wp2_with fail
  refine (lawTold_any m1_24.1 m2_24.1 t4 t4 rfl).mono ?_
  rintro e w25 ⟨rfl, hb25⟩
  have m1_25 := m1_24.later hb25
  have m2_25 := m2_24.later hb25
  have B_25 := B_24.trans (hb25.mono B_24.size)
  clear m1_24 m2_24 B_24 hb25
  clear m1_25 m2_25
  go_wp2
  go_ret
  exact ⟨rfl, B_25⟩

/-! ### THE ROW's STEP: WRITTEN OUT: LEAVE IT -/
set_option maxRecDepth 100000 in
theorem lifted (os : Os) (started : os.Started) (H : Type) (enc : TypeId × Value → H) :
    ReturnsInHanded {} Try.checked os 5 .any (Rows.natAddsSpec.pre6 enc Try.prog Try.f5 Rows.natAddsRow.domain false) (Rows.natAddsSpec.post enc Try.prog Try.f5 false true false false) := by
  refine returnsInHanded_of_change (C := Try.checked) own started (by kernel_rfl) Try.func5
    (ChangeSpec.witness6 (enc := enc) (C := Try.checked) false ⟨#[], #[.slice none 0 0, .slice none 0 0, .slice none 0 0], []⟩ 8 (by kernel_rfl) (by kernel_rfl) (by kernel_rfl) (by kernel_rfl)) ?_
  intro W base args ds gs before hval0 hW hcnd _
  have hval : ∀ (j : Nat) t v, Try.f5.params[j]? = some t → args[j]? = some v → Value.okWide Try.prog W .any base t v := hval0
  have hW' := hW
  obtain ⟨p, q, hA0, hV, rfl, hfz, hnd⟩ := hW
  have hA : DataW.TrodAll enc Try.prog W 0 (fun _ => true) true Try.f5.params.toList args.toList ds p := hA0
  rw [Try.params5] at hA hval
  obtain ⟨v0, vs0, d0, ds0, p0, q0, hargs, rfl, rfl, h0, r0⟩ := trodAll_cons hA
  obtain ⟨v1, vs1, d1, ds1, p1, q1, rfl, rfl, rfl, h1, r1⟩ := trodAll_cons r0
  obtain ⟨v2, vs2, d2, ds2, p2, q2, rfl, rfl, rfl, h2, r2⟩ := trodAll_cons r1
  obtain ⟨rfl, rfl, rfl⟩ := trodAll_nil r2
  obtain rfl : args = #[v0, v1, v2] := by cases args; simp_all
  obtain ⟨rfl, rfl⟩ := trodVars_none hV
  obtain ⟨a0, len0, cap0, rfl⟩ := okWide_slice Try.underlying22 (hval 0 22 v0 rfl rfl)
  have k0 := h0
  have lt0 : ∀ x ∈ p0, x.block < W.heap.size := by obtain ⟨m, hm⟩ := k0; exact DataW.trod_lt m _ _ _ hm
  obtain ⟨z0, w0⟩ : ∃ zs, IsRow .u64 W a0 len0 cap0 zs := by
    obtain ⟨fuel, hf⟩ := h0
    rcases open_ints Try.underlying22 Try.underlying47 (by kernel_rfl) hf with ⟨hcs, _⟩ | ⟨x, l, c, zs, hcs, _, hl, hm, hz, _, hcell, hwz⟩
    · simp [Value.cells] at hcs
      obtain ⟨rfl, rfl, rfl⟩ := hcs
      exact ⟨[], .inl ⟨rfl, rfl, rfl, rfl⟩⟩
    · simp [Value.cells] at hcs
      obtain ⟨rfl, rfl, rfl⟩ := hcs
      exact ⟨zs, .inr ⟨_, rfl, hl, hm, by simpa using hz, hcell, hwz⟩⟩
  obtain ⟨a1, len1, cap1, rfl⟩ := okWide_slice Try.underlying22 (hval 1 22 v1 rfl rfl)
  have k1 := h1
  have lt1 : ∀ x ∈ p1, x.block < W.heap.size := by obtain ⟨m, hm⟩ := k1; exact DataW.trod_lt m _ _ _ hm
  obtain ⟨z1, w1⟩ : ∃ zs, IsRow .u64 W a1 len1 cap1 zs := by
    obtain ⟨fuel, hf⟩ := h1
    rcases open_ints Try.underlying22 Try.underlying47 (by kernel_rfl) hf with ⟨hcs, _⟩ | ⟨x, l, c, zs, hcs, _, hl, hm, hz, _, hcell, hwz⟩
    · simp [Value.cells] at hcs
      obtain ⟨rfl, rfl, rfl⟩ := hcs
      exact ⟨[], .inl ⟨rfl, rfl, rfl, rfl⟩⟩
    · simp [Value.cells] at hcs
      obtain ⟨rfl, rfl, rfl⟩ := hcs
      exact ⟨zs, .inr ⟨_, rfl, hl, hm, by simpa using hz, hcell, hwz⟩⟩
  obtain ⟨a2, len2, cap2, rfl⟩ := okWide_slice Try.underlying22 (hval 2 22 v2 rfl rfl)
  have k2 := h2
  have lt2 : ∀ x ∈ p2, x.block < W.heap.size := by obtain ⟨m, hm⟩ := k2; exact DataW.trod_lt m _ _ _ hm
  obtain ⟨z2, w2⟩ : ∃ zs, IsRow .u64 W a2 len2 cap2 zs := by
    obtain ⟨fuel, hf⟩ := h2
    rcases open_ints Try.underlying22 Try.underlying47 (by kernel_rfl) hf with ⟨hcs, _⟩ | ⟨x, l, c, zs, hcs, _, hl, hm, hz, _, hcell, hwz⟩
    · simp [Value.cells] at hcs
      obtain ⟨rfl, rfl, rfl⟩ := hcs
      exact ⟨[], .inl ⟨rfl, rfl, rfl, rfl⟩⟩
    · simp [Value.cells] at hcs
      obtain ⟨rfl, rfl, rfl⟩ := hcs
      exact ⟨zs, .inr ⟨_, rfl, hl, hm, by simpa using hz, hcell, hwz⟩⟩
  clear hA0 hval0
  refine (walk a0 len0 cap0 z0 a1 len1 cap1 z1 a2 len2 cap2 z2 W w0 w1 w2).mono fun e W' ⟨he, bel⟩ => ?_
  subst he
  exact ⟨_, rfl, _, _, _, [], _, [], hW', trodAll_mk1 (shut_bool Try.underlying4 _), (trodAll_cons_mk (Below.trod laidOut (by kernel_rfl) (of_decide_eq_true (by kernel_rfl)) k0 bel lt0) (trodAll_cons_mk (Below.trod laidOut (by kernel_rfl) (of_decide_eq_true (by kernel_rfl)) k1 bel lt1) (trodAll_cons_mk (Below.trod laidOut (by kernel_rfl) (of_decide_eq_true (by kernel_rfl)) k2 bel lt2) trodAll_mk0))), rfl, bel.frame _, fun h => by cases h⟩

theorem over : Rows.natAddsRow.holds Try.pinned (OpenSpec.ofChange Rows.natAddsSpec) :=
  OpenClaim.holds_of_wide 5 Try.f5 rfl rfl rfl rfl rfl rfl rfl ⟨rfl, rfl, rfl, rfl, rfl⟩ rfl rfl rfl rfl rfl (by kernel_rfl) Try.func5 (by kernel_rfl)
    (of_decide_eq_true (by kernel_rfl)) (by unfold Func.isWrapper; first | (rw [if_pos (by decide +kernel)]; kernel_rfl) | (rw [if_neg (by decide +kernel)]; exact ⟨rfl, rfl⟩))
    (fun os started H enc _ => lifted os started H enc)

/-- ████ THE STATEMENT ████ -/
theorem proved : Rows.NatAddsSaid := over
#print axioms proved
end Go.Proofs.Ythigofcbmgheeab.natAdds
