/-
  THE SHELL OF A PROOF OF 'Rows.NatBackSaid' ('plumb/plumblaw02.NatBack'), WRITTEN BY PROGRAM (proof-skeleton.mjs, third state) off the guide's own print for that function. Not trusted: Lean checks it.
  YOURS IS THE HOLE MARKED 'HOLE' (it bears 'sorry'). ALL ELSE IS THE GUIDE's OWN WAY (howto/template/XProofs.lean; Derived/Test/ChunkProofs.lean for 'Below') at this function's number and types: leave it.
-/
import Derived.Test.YthigofcbmgheeaaRows
import Derived.WalkKit
import Derived.ProofKit
import Derived.OpenShut
import Derived.ShutString
import Derived.WalkLawsBesides
import Derived.WalkSpells
import Derived.Deep.RegionWith
import Derived.Deep.DeepCutAuto
import Derived.Deep.DeepFit
import Derived.Deep.Matrix
import Derived.Test.YthigofcbmgheeaaLawBack
import Derived.ChangeOld
import Derived.Below
namespace Go.Proofs.Ythigofcbmgheeaa.natBack
open Go.ChangeShapes Go.WideShapes Go.ChangeAt Go.RowKit
open Go.ChangeMaps (open_string shut_string)
set_option linter.unusedVariables false

theorem own : ownKnob Try.prog.godebug = none := by kernel_rfl
theorem laidOut : laidOutB Try.prog = true := by kernel_rfl

/-- WHAT THE WALK IS TOLD OF A SLICE OF INTEGERS THAT CAME IN: it is nil; or it leads to a row of 'cap' cells, the numbers 'zs' (the first 'len' are its elements, the rest its spare room), each fitting its kind. -/
def IsRow (k : IntKind) (w : World) (a : Option Addr) (len cap : Nat) (zs : List Int) : Prop :=
  (a = none ∧ len = 0 ∧ cap = 0 ∧ zs = []) ∨
  ∃ x, a = some x ∧ len ≤ cap ∧ cap ≤ maxLen ∧ zs.length = cap ∧ (∀ i, i < zs.length → w.cell? (x.add i) = some (.int k (zs.getD i 0))) ∧ ∀ n ∈ zs, (Lit.int k n).wf = true

open Na Ar
/-! ### STEP 1: THE WALK: the Go text returns true, AND WRITES NOTHING THAT WAS THERE: 'Below w.heap.size w w'' (Derived/Below.lean: '.refl', '.alloc', '.drew', '.setCell' at a new block, '.trans'). Open each 'IsRow' by 'rcases' AHEAD of 'go_enter'; part every test ahead of the walk. -/
set_option maxHeartbeats 3000000 in
set_option maxRecDepth 100000 in
theorem walk (a0 : Option Addr) (len0 cap0 : Nat) (z0 : List Int) (a1 : Option Addr) (len1 cap1 : Nat) (z1 : List Int) (a2 : Option Addr) (len2 cap2 : Nat) (w : World) (w0 : IsRow .u64 w a0 len0 cap0 z0) (w1 : IsRow .u64 w a1 len1 cap1 z1) (w2 : RowsIn w a2 len2) :
    Calls Try.prog 3 #[.slice a0 len0 cap0, .slice a1 len1 cap1, .slice a2 len2 cap2] w fun e w' => e = .returned (.bool true) ∧ Below w.heap.size w w' := by
  obtain ⟨i_su64, hi_su64, hz0_su64, hz1_su64, hz2_su64⟩ := info_parts info_su64
  have q0 := row_of w0
  obtain ⟨hr0, hx0, hm0⟩ := q0
  have q1 := row_of w1
  obtain ⟨hr1, hx1, hm1⟩ := q1
  clear w0 w1
  generalize z0.take len0 = x0 at *
  generalize z1.take len1 = x1 at *
  have B_0 := Below.refl w.heap.size w
  go_enter Try.func3, Try.ntmps3
  go_wp2_with fail
  refine (cutQ hr0 hx0 hm0).mono ?_
  rintro e w1' ⟨ca1, cn1, cc1, X1, rfl, cr1, cm1, ct1, cl1, _, hb1⟩
  clear hr0
  have rm_1 := w2.later hb1
  have hr1_1 := hr1.later hb1
  have B_1 := B_0.trans (hb1.mono B_0.size)
  clear w2 hr1 B_0 hb1
  go_wp2_with fail
  refine (cutQ hr1_1 hx1 hm1).mono ?_
  rintro e w2' ⟨ca2, cn2, cc2, X2, rfl, cr2, cm2, ct2, cl2, _, hb2⟩
  clear hr1_1
  have rm_2 := rm_1.later hb2
  have cr1_2 := cr1.later hb2
  have B_2 := B_1.trans (hb2.mono B_1.size)
  clear rm_1 cr1 B_1 hb2
  clear hx0 hm0 hx1 hm1
  obtain ⟨A, hA⟩ : ∃ A, A = num X1 := ⟨_, rfl⟩
  rw [← hA] at cm1 ct1
  clear hA
  obtain ⟨B, hB⟩ : ∃ B, B = num X2 := ⟨_, rfl⟩
  rw [← hB] at cm2 ct2
  clear hB
  have A0 := cm1.nonneg
  have B0 := cm2.nonneg
  go_wp2_with fail
  refine (lawAddQ cr1_2 cr2 cm1 cm2 (ct1.add ct2) (by omega)).mono ?_
  rintro e w3 ⟨a3, n3, c3, l3, rfl, r3, m3, e3, hb3⟩
  have rm_3 := rm_2.later hb3
  have cr1_3 := cr1_2.later hb3
  have cr2_3 := cr2.later hb3
  have B_3 := B_2.trans (hb3.mono B_2.size)
  clear rm_2 cr1_2 cr2 B_2 hb3
  go_wp2_with fail
  refine (alive_any _).mono ?_
  rintro e w4 ⟨rfl, hb4⟩
  have rm_4 := rm_3.later hb4
  have cr1_4 := cr1_3.later hb4
  have cr2_4 := cr2_3.later hb4
  have r3_4 := r3.later hb4
  have B_4 := B_3.trans (hb4.mono B_3.size)
  clear rm_3 cr1_3 cr2_3 r3 B_3 hb4
  have eb : A + B - B = A := by omega
  have ec : A + B - (A + B) = 0 := by omega
  have lb : Lt (A + B - B) 60 := by rw [eb]; exact ct1
  have lc : Lt (A + B - (A + B)) 60 := by rw [ec]; exact lt_zero.mono (by omega)
  go_wp2_with fail
  refine (subQ r3_4 cr2_4 m3 cm2 (by omega) lb (by omega)).mono ?_
  rintro e w5 ⟨a5, n5, c5, l5, rfl, r5, m5, e5, hb5⟩
  have rm_5 := rm_4.later hb5
  have cr1_5 := cr1_4.later hb5
  have cr2_5 := cr2_4.later hb5
  have r3_5 := r3_4.later hb5
  have B_5 := B_4.trans (hb5.mono B_4.size)
  clear rm_4 cr1_4 cr2_4 r3_4 B_4 hb5
  go_wp2_with fail
  refine (subQ r3_5 r3_5 m3 m3 (by omega) lc (by omega)).mono ?_
  rintro e w6 ⟨a6, n6, c6, l6, rfl, r6, m6, e6, hb6⟩
  have rm_6 := rm_5.later hb6
  have cr1_6 := cr1_5.later hb6
  have cr2_6 := cr2_5.later hb6
  have r3_6 := r3_5.later hb6
  have r5_6 := r5.later hb6
  have B_6 := B_5.trans (hb6.mono B_5.size)
  clear rm_5 cr1_5 cr2_5 r3_5 r5 B_5 hb6
  go_wp2_with fail
  refine (normQ cr1_6 cm1 ct1 (by omega)).mono ?_
  rintro e w7 ⟨a7, n7, c7, l7, rfl, r7, m7, e7, hb7⟩
  have rm_7 := rm_6.later hb7
  have cr1_7 := cr1_6.later hb7
  have cr2_7 := cr2_6.later hb7
  have r3_7 := r3_6.later hb7
  have r5_7 := r5_6.later hb7
  have r6_7 := r6.later hb7
  have B_7 := B_6.trans (hb7.mono B_6.size)
  clear rm_6 cr1_6 cr2_6 r3_6 r5_6 r6 B_6 hb7
  go_wp2_with fail
  refine (sameQ r5_7 r7 m5 m7 e5 e7 (eb)).mono ?_
  rintro e w8 ⟨rfl, hb8⟩
  have rm_8 := rm_7.later hb8
  have cr1_8 := cr1_7.later hb8
  have cr2_8 := cr2_7.later hb8
  have r3_8 := r3_7.later hb8
  have r5_8 := r5_7.later hb8
  have r6_8 := r6_7.later hb8
  have r7_8 := r7.later hb8
  have B_8 := B_7.trans (hb8.mono B_7.size)
  clear rm_7 cr1_7 cr2_7 r3_7 r5_7 r6_7 r7 B_7 hb8
  have hc0 : n6 = 0 := by rw [← r6_8.1.1, e6.out]; exact (words_nil lc.1).mpr ec
  have tc : ((n6 : Int) != 0) = false := by simp [hc0]
  clear r3_8 m3 e3 r5_8 m5 e5 r7_8 m7 e7 r6_8 m6 e6
  clear hc0 eb ec lb lc
  by_cases hab : A < B
  · have HK : Hid (ordN A B = -1) := ordN_lt hab
    go_wp2_with fail
    refine (subBelowQ cr1_8 cr2_8 cm1 cm2 hab).mono ?_
    rintro e w9 ⟨a9, c9, rfl, hb9⟩
    have rm_9 := rm_8.later hb9
    have cr1_9 := cr1_8.later hb9
    have cr2_9 := cr2_8.later hb9
    have B_9 := B_8.trans (hb9.mono B_8.size)
    clear rm_8 cr1_8 cr2_8 B_8 hb9
    go_wp2_with fail
    refine (cmpK cr1_9 cr2_9 cm1 cm2 HK.out).mono ?_
    rintro e w10 ⟨rfl, hb10⟩
    have rm_10 := rm_9.later hb10
    have cr1_10 := cr1_9.later hb10
    have cr2_10 := cr2_9.later hb10
    have B_10 := B_9.trans (hb10.mono B_9.size)
    clear rm_9 cr1_9 cr2_9 B_9 hb10
    clear cr1_10 cr2_10
    go_wp2
    go_loopw [8, 17, 18, 19, 20] (fun _ l s i _ wr => ∃ (k : Nat) (vs : List Value) (xss : List (List Int)) (a' : Option Addr) (n' c' : Nat) (l' : List Int), i = .int .i64 k ∧ k ≤ 12 ∧ k ≤ len2 ∧ wr.ownsRow w10.heap.size 22 1 l k vs ∧ VO wr vs xss ∧ Hid (xss.length = k) ∧ s = .slice a' n' c' ∧ Own .u64 wr 0 36 (.slice a' n' c') l' ∧ Hid (n' = l'.length) ∧ Nm l' (sumN xss) ∧ Hid (l' = words (sumN xss)) ∧ Below w10.heap.size w10 wr) (fun _ _ _ i _ _ => 12 - (intOf i).toNat)
    case atStart => exact ⟨0, [], [], none, 0, 0, [], rfl, by omega, by omega, World.ownsRow_nil _ _ _ _, vo_nil _, (rfl : ([] : List (List Int)).length = 0), rfl, own_nil _ _ _ _, (rfl : 0 = ([] : List Int).length), Nm.nil, ((dig_zero _).symm : ([] : List Int) = words (sumN [])), Below.refl _ _⟩
    case round =>
      obtain ⟨k, vs, xss, a', n', c', l', rfl, hk, hk2, hl, hvo, hxl, rfl, hso, hsl, hsm, hse, hnx⟩ := hrel
      have hxk : xss.length ≤ 12 := by rw [hxl.out]; exact hk
      have hsz := hnx.size
      have rm := rm_10.later hnx
      by_cases hlt : k < len2
      · by_cases hlt2 : k < 12
        · rcases rm.2 with h0 | ⟨bm, om, rfl, hbm, hcm⟩
          · omega
          obtain ⟨ai, li, ci, zs, hcx, hri, hzs, hli⟩ := hcm k hlt
          have hlv := hvo.lt hxk
          clear hcm rm
          go_wp2_with fail
          refine (cutO hri hzs hli).mono ?_
          rintro e w31 ⟨a31, n31, c31, l31, rfl, o31, r31, m31, t31, q31, hb31⟩
          have hl1 := row_later hl hb31
          have hvo1 := hvo.later hb31
          have hso1 := hso.later hb31
          have hn1 := hnx.trans (hb31.mono hnx.size)
          have hsz1 := hn1.size
          clear hl hvo hso hnx hb31 hri hcx r31 hsz
          go_wp2_with (at_builtin; refine wpList_append_own _ rfl _ _ 23 rfl w10.heap.size 22 i_su64 (.slice none 0 0) 1 24 Try.underlying23 hi_su64 hz0_su64 hz1_su64 hz2_su64 rfl (by decide) _ _ _ rfl (hl1.alloc _) ⟨w31.heap.size, 0, none⟩ 1 1 [.slice a31 n31 c31] rfl rfl one_new one_slice (by unfold maxLen; omega) (by omega) (by simp; omega) ?_)
          intro v' w32 hown' hgrow _
          have hb' := grow_below hsz1 hl1 hn1 hgrow
          have hvo2 := hvo1.beside hl1 (by decide) hgrow
          have hso2 := hso1.beside hl1 (by decide) hgrow
          have o32 := o31.beside hl1 (by decide) hgrow
          have hvo3 := hvo2.next o32 m31.ws q31
          have rs := hso2.rowK hsl.out
          obtain ⟨a8, c8, hv8, r8⟩ := o32.readsC
          simp only [Value.slice.injEq] at hv8
          obtain ⟨e8, f8, g8⟩ := hv8
          rw [← e8, ← f8, ← g8] at r8
          have HSN := sumN_snoc xss l31
          have lt9 := hlv.add t31
          have HX : Hid ((xss ++ [l31]).length = k + 1) := by show _ = _; rw [List.length_append, hxl.out]; rfl
          clear hvo1 hvo2 hso1 hso2 o31 hl1 hgrow hn1 e8 f8 g8
          go_wp2_with fail
          refine (addO rs r8 hsm m31 lt9 (Nat.le_of_ble_eq_true rfl)).mono ?_
          rintro e w33 ⟨v33, rfl, o33, hb33⟩
          rw [← HSN] at o33 lt9
          obtain ⟨a34, n34, c34, l34, rfl, r34, m34, e34⟩ := o33.opens lt9 (by omega)
          have hl3 := row_later hown' hb33
          have hvo4 := hvo3.later hb33
          have hn3 := hb'.trans (hb33.mono hb'.size)
          have o34 : Own .u64 w33 0 36 (.slice a34 n34 c34) l34 := by rw [e34.out]; exact o33
          have h34 : Hid (n34 = l34.length) := r34.1.1.symm
          clear hown' hvo3 hb' hb33 rs r8 r34 o32 o33 HSN hsm hse hsl
          go_wp2
          go_roundw
          case rel => exact ⟨k + 1, _, _, a34, n34, c34, l34, by go_num, by omega, by omega, hl3, hvo4, HX, rfl, o34, h34, m34, e34, hn3⟩
          case measure => simp [intOf]; omega
        · obtain ⟨ar, cr, rfl, hrows⟩ := hvo.rows hl
          have hwss := hvo.wss
          have hlv := hvo.lt hxk
          have rs := hso.rowK hsl.out
          have Bz := B_10.trans (hnx.mono B_10.size)
          clear hl hvo hso hnx rm hsz
          go_wp2_with fail
          refine (sumQ (b := none) hrows hwss (by omega) rfl hlv (by omega)).mono ?_
          rintro e w41 ⟨a41, n41, c41, l41, rfl, r41, m41, e41, hb41⟩
          have rs1 := rs.later hb41
          have B1 := Bz.trans (hb41.mono Bz.size)
          clear rs Bz hb41 hrows hwss
          go_wp2_with fail
          refine (sameQ r41 rs1 m41 hsm e41 hse rfl).mono ?_
          rintro e w42 ⟨rfl, hb42⟩
          have B2 := B1.trans (hb42.mono B1.size)
          clear r41 rs1 B1 hb42
          go_wp2
          go_ret
          exact ⟨rfl, B2⟩
      · obtain ⟨ar, cr, rfl, hrows⟩ := hvo.rows hl
        have hwss := hvo.wss
        have hlv := hvo.lt hxk
        have rs := hso.rowK hsl.out
        have Bz := B_10.trans (hnx.mono B_10.size)
        clear hl hvo hso hnx rm hsz
        go_wp2_with fail
        refine (sumQ (b := none) hrows hwss (by omega) rfl hlv (by omega)).mono ?_
        rintro e w41 ⟨a41, n41, c41, l41, rfl, r41, m41, e41, hb41⟩
        have rs1 := rs.later hb41
        have B1 := Bz.trans (hb41.mono Bz.size)
        clear rs Bz hb41 hrows hwss
        go_wp2_with fail
        refine (sameQ r41 rs1 m41 hsm e41 hse rfl).mono ?_
        rintro e w42 ⟨rfl, hb42⟩
        have B2 := B1.trans (hb42.mono B1.size)
        clear r41 rs1 B1 hb42
        go_wp2
        go_ret
        exact ⟨rfl, B2⟩
  · have hk : ¬ ordN A B < 0 := by unfold ordN; rw [if_neg hab]; split <;> omega
    obtain ⟨K, hK⟩ : ∃ K, ordN A B = K := ⟨_, rfl⟩
    rw [hK] at hk
    have HK : Hid (ordN A B = K) := hK
    clear hK
    have ld : Lt (A - B) 60 := ct1.le (by omega) (by omega)
    go_wp2_with fail
    refine (subQ cr1_8 cr2_8 cm1 cm2 (by omega) ld (by omega)).mono ?_
    rintro e w9 ⟨a9, n9, c9, l9, rfl, r9, m9, e9, hb9⟩
    have rm_9 := rm_8.later hb9
    have cr1_9 := cr1_8.later hb9
    have cr2_9 := cr2_8.later hb9
    have B_9 := B_8.trans (hb9.mono B_8.size)
    clear rm_8 cr1_8 cr2_8 B_8 hb9
    go_wp2_with fail
    refine (cmpK cr1_9 cr2_9 cm1 cm2 HK.out).mono ?_
    rintro e w10 ⟨rfl, hb10⟩
    have rm_10 := rm_9.later hb10
    have cr1_10 := cr1_9.later hb10
    have cr2_10 := cr2_9.later hb10
    have r9_10 := r9.later hb10
    have B_10 := B_9.trans (hb10.mono B_9.size)
    clear rm_9 cr1_9 cr2_9 r9 B_9 hb10
    go_wp2_with fail
    refine (lawAddQ r9_10 cr2_10 m9 cm2 (ld.add ct2) (by omega)).mono ?_
    rintro e w11 ⟨a11, n11, c11, l11, rfl, r11, m11, e11, hb11⟩
    have rm_11 := rm_10.later hb11
    have cr1_11 := cr1_10.later hb11
    have cr2_11 := cr2_10.later hb11
    have r9_11 := r9_10.later hb11
    have B_11 := B_10.trans (hb11.mono B_10.size)
    clear rm_10 cr1_10 cr2_10 r9_10 B_10 hb11
    go_wp2_with fail
    refine (normQ cr1_11 cm1 ct1 (by omega)).mono ?_
    rintro e w12 ⟨a12, n12, c12, l12, rfl, r12, m12, e12, hb12⟩
    have rm_12 := rm_11.later hb12
    have cr1_12 := cr1_11.later hb12
    have cr2_12 := cr2_11.later hb12
    have r9_12 := r9_11.later hb12
    have r11_12 := r11.later hb12
    have B_12 := B_11.trans (hb12.mono B_11.size)
    clear rm_11 cr1_11 cr2_11 r9_11 r11 B_11 hb12
    go_wp2_with fail
    refine (sameQ r11_12 r12 m11 m12 e11 e12 (by omega)).mono ?_
    rintro e w13 ⟨rfl, hb13⟩
    have rm_13 := rm_12.later hb13
    have cr1_13 := cr1_12.later hb13
    have cr2_13 := cr2_12.later hb13
    have r9_13 := r9_12.later hb13
    have r11_13 := r11_12.later hb13
    have r12_13 := r12.later hb13
    have B_13 := B_12.trans (hb13.mono B_12.size)
    clear rm_12 cr1_12 cr2_12 r9_12 r11_12 r12 B_12 hb13
    clear r9_13 m9 e9 r11_13 m11 e11 r12_13 m12 e12 cr1_13 cr2_13
    go_wp2
    go_loopw [8, 17, 18, 19, 20] (fun _ l s i _ wr => ∃ (k : Nat) (vs : List Value) (xss : List (List Int)) (a' : Option Addr) (n' c' : Nat) (l' : List Int), i = .int .i64 k ∧ k ≤ 12 ∧ k ≤ len2 ∧ wr.ownsRow w13.heap.size 22 1 l k vs ∧ VO wr vs xss ∧ Hid (xss.length = k) ∧ s = .slice a' n' c' ∧ Own .u64 wr 0 36 (.slice a' n' c') l' ∧ Hid (n' = l'.length) ∧ Nm l' (sumN xss) ∧ Hid (l' = words (sumN xss)) ∧ Below w13.heap.size w13 wr) (fun _ _ _ i _ _ => 12 - (intOf i).toNat)
    case atStart => exact ⟨0, [], [], none, 0, 0, [], rfl, by omega, by omega, World.ownsRow_nil _ _ _ _, vo_nil _, (rfl : ([] : List (List Int)).length = 0), rfl, own_nil _ _ _ _, (rfl : 0 = ([] : List Int).length), Nm.nil, ((dig_zero _).symm : ([] : List Int) = words (sumN [])), Below.refl _ _⟩
    case round =>
      obtain ⟨k, vs, xss, a', n', c', l', rfl, hk, hk2, hl, hvo, hxl, rfl, hso, hsl, hsm, hse, hnx⟩ := hrel
      have hxk : xss.length ≤ 12 := by rw [hxl.out]; exact hk
      have hsz := hnx.size
      have rm := rm_13.later hnx
      by_cases hlt : k < len2
      · by_cases hlt2 : k < 12
        · rcases rm.2 with h0 | ⟨bm, om, rfl, hbm, hcm⟩
          · omega
          obtain ⟨ai, li, ci, zs, hcx, hri, hzs, hli⟩ := hcm k hlt
          have hlv := hvo.lt hxk
          clear hcm rm
          go_wp2_with fail
          refine (cutO hri hzs hli).mono ?_
          rintro e w31 ⟨a31, n31, c31, l31, rfl, o31, r31, m31, t31, q31, hb31⟩
          have hl1 := row_later hl hb31
          have hvo1 := hvo.later hb31
          have hso1 := hso.later hb31
          have hn1 := hnx.trans (hb31.mono hnx.size)
          have hsz1 := hn1.size
          clear hl hvo hso hnx hb31 hri hcx r31 hsz
          go_wp2_with (at_builtin; refine wpList_append_own _ rfl _ _ 23 rfl w13.heap.size 22 i_su64 (.slice none 0 0) 1 24 Try.underlying23 hi_su64 hz0_su64 hz1_su64 hz2_su64 rfl (by decide) _ _ _ rfl (hl1.alloc _) ⟨w31.heap.size, 0, none⟩ 1 1 [.slice a31 n31 c31] rfl rfl one_new one_slice (by unfold maxLen; omega) (by omega) (by simp; omega) ?_)
          intro v' w32 hown' hgrow _
          have hb' := grow_below hsz1 hl1 hn1 hgrow
          have hvo2 := hvo1.beside hl1 (by decide) hgrow
          have hso2 := hso1.beside hl1 (by decide) hgrow
          have o32 := o31.beside hl1 (by decide) hgrow
          have hvo3 := hvo2.next o32 m31.ws q31
          have rs := hso2.rowK hsl.out
          obtain ⟨a8, c8, hv8, r8⟩ := o32.readsC
          simp only [Value.slice.injEq] at hv8
          obtain ⟨e8, f8, g8⟩ := hv8
          rw [← e8, ← f8, ← g8] at r8
          have HSN := sumN_snoc xss l31
          have lt9 := hlv.add t31
          have HX : Hid ((xss ++ [l31]).length = k + 1) := by show _ = _; rw [List.length_append, hxl.out]; rfl
          clear hvo1 hvo2 hso1 hso2 o31 hl1 hgrow hn1 e8 f8 g8
          go_wp2_with fail
          refine (addO rs r8 hsm m31 lt9 (Nat.le_of_ble_eq_true rfl)).mono ?_
          rintro e w33 ⟨v33, rfl, o33, hb33⟩
          rw [← HSN] at o33 lt9
          obtain ⟨a34, n34, c34, l34, rfl, r34, m34, e34⟩ := o33.opens lt9 (by omega)
          have hl3 := row_later hown' hb33
          have hvo4 := hvo3.later hb33
          have hn3 := hb'.trans (hb33.mono hb'.size)
          have o34 : Own .u64 w33 0 36 (.slice a34 n34 c34) l34 := by rw [e34.out]; exact o33
          have h34 : Hid (n34 = l34.length) := r34.1.1.symm
          clear hown' hvo3 hb' hb33 rs r8 r34 o32 o33 HSN hsm hse hsl
          go_wp2
          go_roundw
          case rel => exact ⟨k + 1, _, _, a34, n34, c34, l34, by go_num, by omega, by omega, hl3, hvo4, HX, rfl, o34, h34, m34, e34, hn3⟩
          case measure => simp [intOf]; omega
        · obtain ⟨ar, cr, rfl, hrows⟩ := hvo.rows hl
          have hwss := hvo.wss
          have hlv := hvo.lt hxk
          have rs := hso.rowK hsl.out
          have Bz := B_13.trans (hnx.mono B_13.size)
          clear hl hvo hso hnx rm hsz
          go_wp2_with fail
          refine (sumQ (b := none) hrows hwss (by omega) rfl hlv (by omega)).mono ?_
          rintro e w41 ⟨a41, n41, c41, l41, rfl, r41, m41, e41, hb41⟩
          have rs1 := rs.later hb41
          have B1 := Bz.trans (hb41.mono Bz.size)
          clear rs Bz hb41 hrows hwss
          go_wp2_with fail
          refine (sameQ r41 rs1 m41 hsm e41 hse rfl).mono ?_
          rintro e w42 ⟨rfl, hb42⟩
          have B2 := B1.trans (hb42.mono B1.size)
          clear r41 rs1 B1 hb42
          go_wp2
          go_ret
          exact ⟨rfl, B2⟩
      · obtain ⟨ar, cr, rfl, hrows⟩ := hvo.rows hl
        have hwss := hvo.wss
        have hlv := hvo.lt hxk
        have rs := hso.rowK hsl.out
        have Bz := B_13.trans (hnx.mono B_13.size)
        clear hl hvo hso hnx rm hsz
        go_wp2_with fail
        refine (sumQ (b := none) hrows hwss (by omega) rfl hlv (by omega)).mono ?_
        rintro e w41 ⟨a41, n41, c41, l41, rfl, r41, m41, e41, hb41⟩
        have rs1 := rs.later hb41
        have B1 := Bz.trans (hb41.mono Bz.size)
        clear rs Bz hb41 hrows hwss
        go_wp2_with fail
        refine (sameQ r41 rs1 m41 hsm e41 hse rfl).mono ?_
        rintro e w42 ⟨rfl, hb42⟩
        have B2 := B1.trans (hb42.mono B1.size)
        clear r41 rs1 B1 hb42
        go_wp2
        go_ret
        exact ⟨rfl, B2⟩

/-! ### THE ROW's STEP: WRITTEN OUT: LEAVE IT -/
set_option maxRecDepth 100000 in
theorem lifted (os : Os) (started : os.Started) (H : Type) (enc : TypeId × Value → H) :
    ReturnsInHanded {} Try.checked os 3 .any (Rows.natBackSpec.pre6 enc Try.prog Try.f3 Rows.natBackRow.domain false) (Rows.natBackSpec.post enc Try.prog Try.f3 false true false false) := by
  refine returnsInHanded_of_change (C := Try.checked) own started (by kernel_rfl) Try.func3
    (ChangeSpec.witness6 (enc := enc) (C := Try.checked) false ⟨#[], #[.slice none 0 0, .slice none 0 0, .slice none 0 0], []⟩ 8 (by kernel_rfl) (by kernel_rfl) (by kernel_rfl) (by kernel_rfl)) ?_
  intro W base args ds gs before hval0 hW hcnd _
  have hval : ∀ (j : Nat) t v, Try.f3.params[j]? = some t → args[j]? = some v → Value.okWide Try.prog W .any base t v := hval0
  have hW' := hW
  obtain ⟨p, q, hA0, hV, rfl, hfz, hnd⟩ := hW
  have hA : DataW.TrodAll enc Try.prog W 0 (fun _ => true) true Try.f3.params.toList args.toList ds p := hA0
  rw [Try.params3] at hA hval
  obtain ⟨v0, vs0, d0, ds0, p0, q0, hargs, rfl, rfl, h0, r0⟩ := trodAll_cons hA
  obtain ⟨v1, vs1, d1, ds1, p1, q1, rfl, rfl, rfl, h1, r1⟩ := trodAll_cons r0
  obtain ⟨v2, vs2, d2, ds2, p2, q2, rfl, rfl, rfl, h2, r2⟩ := trodAll_cons r1
  obtain ⟨rfl, rfl, rfl⟩ := trodAll_nil r2
  obtain rfl : args = #[v0, v1, v2] := by cases args; simp_all
  obtain ⟨rfl, rfl⟩ := trodVars_none hV
  obtain ⟨a0, len0, cap0, rfl⟩ := okWide_slice Try.underlying22 (hval 0 22 v0 rfl rfl)
  have k0 := h0
  have lt0 : ∀ x ∈ p0, x.block < W.heap.size := by obtain ⟨m, hm⟩ := k0; exact DataW.trod_lt m _ _ _ hm
  obtain ⟨z0, w0⟩ : ∃ zs, IsRow .u64 W a0 len0 cap0 zs := by
    obtain ⟨fuel, hf⟩ := h0
    rcases open_ints Try.underlying22 Try.underlying36 (by kernel_rfl) hf with ⟨hcs, _⟩ | ⟨x, l, c, zs, hcs, _, hl, hm, hz, _, hcell, hwz⟩
    · simp [Value.cells] at hcs
      obtain ⟨rfl, rfl, rfl⟩ := hcs
      exact ⟨[], .inl ⟨rfl, rfl, rfl, rfl⟩⟩
    · simp [Value.cells] at hcs
      obtain ⟨rfl, rfl, rfl⟩ := hcs
      exact ⟨zs, .inr ⟨_, rfl, hl, hm, by simpa using hz, hcell, hwz⟩⟩
  obtain ⟨a1, len1, cap1, rfl⟩ := okWide_slice Try.underlying22 (hval 1 22 v1 rfl rfl)
  have k1 := h1
  have lt1 : ∀ x ∈ p1, x.block < W.heap.size := by obtain ⟨m, hm⟩ := k1; exact DataW.trod_lt m _ _ _ hm
  obtain ⟨z1, w1⟩ : ∃ zs, IsRow .u64 W a1 len1 cap1 zs := by
    obtain ⟨fuel, hf⟩ := h1
    rcases open_ints Try.underlying22 Try.underlying36 (by kernel_rfl) hf with ⟨hcs, _⟩ | ⟨x, l, c, zs, hcs, _, hl, hm, hz, _, hcell, hwz⟩
    · simp [Value.cells] at hcs
      obtain ⟨rfl, rfl, rfl⟩ := hcs
      exact ⟨[], .inl ⟨rfl, rfl, rfl, rfl⟩⟩
    · simp [Value.cells] at hcs
      obtain ⟨rfl, rfl, rfl⟩ := hcs
      exact ⟨zs, .inr ⟨_, rfl, hl, hm, by simpa using hz, hcell, hwz⟩⟩
  obtain ⟨a2, len2, cap2, rfl⟩ := okWide_slice Try.underlying23 (hval 2 23 v2 rfl rfl)
  have k2 := h2
  have lt2 : ∀ x ∈ p2, x.block < W.heap.size := by obtain ⟨m, hm⟩ := k2; exact DataW.trod_lt m _ _ _ hm
  have w2 : RowsIn W a2 len2 := by
    obtain ⟨fuel, hf⟩ := h2
    rcases Go.Deep.open_int_rows Try.underlying23 Try.underlying22 Try.underlying36 (by kernel_rfl) (by kernel_rfl) hf with ⟨hcs, _⟩ | ⟨x, l, c, A, L, C, Z, hcs, _, hl, hm, _, hcell⟩
    · simp [Value.cells] at hcs
      obtain ⟨rfl, rfl, rfl⟩ := hcs
      exact rowsIn_nil _
    · simp [Value.cells] at hcs
      obtain ⟨rfl, rfl, rfl⟩ := hcs
      exact rowsIn_of hl hm hcell
  clear hA0 hval0
  refine (walk a0 len0 cap0 z0 a1 len1 cap1 z1 a2 len2 cap2 W w0 w1 w2).mono fun e W' ⟨he, bel⟩ => ?_
  subst he
  exact ⟨_, rfl, _, _, _, [], _, [], hW', trodAll_mk1 (shut_bool Try.underlying4 _), (trodAll_cons_mk (Below.trod laidOut (by kernel_rfl) (of_decide_eq_true (by kernel_rfl)) k0 bel lt0) (trodAll_cons_mk (Below.trod laidOut (by kernel_rfl) (of_decide_eq_true (by kernel_rfl)) k1 bel lt1) (trodAll_cons_mk (Below.trod laidOut (by kernel_rfl) (of_decide_eq_true (by kernel_rfl)) k2 bel lt2) trodAll_mk0))), rfl, bel.frame _, fun h => by cases h⟩

theorem over : Rows.natBackRow.holds Try.pinned (OpenSpec.ofChange Rows.natBackSpec) :=
  OpenClaim.holds_of_wide 3 Try.f3 rfl rfl rfl rfl rfl rfl rfl ⟨rfl, rfl, rfl, rfl, rfl⟩ rfl rfl rfl rfl rfl (by kernel_rfl) Try.func3 (by kernel_rfl)
    (of_decide_eq_true (by kernel_rfl)) (by unfold Func.isWrapper; first | (rw [if_pos (by decide +kernel)]; kernel_rfl) | (rw [if_neg (by decide +kernel)]; exact ⟨rfl, rfl⟩))
    (fun os started H enc _ => lifted os started H enc)

/-- ████ THE STATEMENT ████ -/
theorem proved : Rows.NatBackSaid := over
#print axioms proved
end Go.Proofs.Ythigofcbmgheeaa.natBack
