/-
  THE SHELL OF A PROOF OF 'Rows.QuotDividesSaid' ('plumb/plumblaw03.QuotDivides'), WRITTEN BY PROGRAM (proof-skeleton.mjs, third state) off the guide's own print for that function. Not trusted: Lean checks it.
  YOURS IS THE HOLE MARKED 'HOLE' (it bears 'sorry'). ALL ELSE IS THE GUIDE's OWN WAY (howto/template/XProofs.lean; Derived/Test/ChunkProofs.lean for 'Below') at this function's number and types: leave it.
-/
import Derived.Test.YtopcdpeepchgfaaRows
import Derived.WalkKit
import Derived.ProofKit
import Derived.OpenShut
import Derived.ShutString
import Derived.WalkLawsBesides
import Derived.WalkSpells
import Derived.Deep.RegionWith
import Derived.Deep.DeepCutAuto
import Derived.Deep.DeepFit
import Derived.Test.YtopcdpeepchgfaaQuotLive
import Derived.ChangeOld
import Derived.Below
namespace Go.Proofs.Ytopcdpeepchgfaa.quotDivides
open Go.ChangeShapes Go.WideShapes Go.ChangeAt Go.RowKit
open Go.ChangeMaps (open_string shut_string)
set_option linter.unusedVariables false

theorem own : ownKnob Try.prog.godebug = none := by kernel_rfl
theorem laidOut : laidOutB Try.prog = true := by kernel_rfl

/-- WHAT THE WALK IS TOLD OF A SLICE OF INTEGERS THAT CAME IN: it is nil; or it leads to a row of 'cap' cells, the numbers 'zs' (the first 'len' are its elements, the rest its spare room), each fitting its kind. -/
def IsRow (k : IntKind) (w : World) (a : Option Addr) (len cap : Nat) (zs : List Int) : Prop :=
  (a = none ∧ len = 0 ∧ cap = 0 ∧ zs = []) ∨
  ∃ x, a = some x ∧ len ≤ cap ∧ cap ≤ maxLen ∧ zs.length = cap ∧ (∀ i, i < zs.length → w.cell? (x.add i) = some (.int k (zs.getD i 0))) ∧ ∀ n ∈ zs, (Lit.int k n).wf = true

open Na Ar
/-! ### STEP 1: THE WALK: the Go text returns true, AND WRITES NOTHING THAT WAS THERE: 'Below w.heap.size w w'' (Derived/Below.lean: '.refl', '.alloc', '.drew', '.setCell' at a new block, '.trans'). Open each 'IsRow' by 'rcases' AHEAD of 'go_enter'; part every test ahead of the walk. -/
set_option maxHeartbeats 6400000 in
set_option maxRecDepth 100000 in
theorem walk (a0 : Option Addr) (len0 cap0 : Nat) (z0 : List Int) (a1 : Option Addr) (len1 cap1 : Nat) (z1 : List Int) (w : World) (w0 : IsRow .u64 w a0 len0 cap0 z0) (w1 : IsRow .u64 w a1 len1 cap1 z1) :
    Calls Try.prog 8 #[.slice a0 len0 cap0, .slice a1 len1 cap1] w fun e w' => e = .returned (.bool true) ∧ Below w.heap.size w w' := by
  have q0 := row_of w0
  obtain ⟨hr0, hx0, hm0⟩ := q0
  have q1 := row_of w1
  obtain ⟨hr1, hx1, hm1⟩ := q1
  clear w0 w1
  generalize z0.take len0 = x0 at *
  generalize z1.take len1 = x1 at *
  have B_0 := Below.refl w.heap.size w
  go_enter Try.func8, Try.ntmps8
  go_wp2_with fail
  refine (live_any _).mono ?_
  rintro e wt1 ⟨rfl, hbt1⟩
  have hr0_t1 := hr0.later hbt1
  clear hr0
  have hr1_t1 := hr1.later hbt1
  clear hr1
  have hB_t1 := B_0.trans (hbt1.mono B_0.size)
  go_wp2_with fail
  refine (boundedQ hr0_t1 hx0 hm0 1000 (by omega)).mono ?_
  rintro e wt2 ⟨caA, cnA, ccA, LA, rfl, rA, mA, tA, hlA, HTLA, hbt2⟩
  have hr0_t2 := hr0_t1.later hbt2
  clear hr0_t1
  have hr1_t2 := hr1_t1.later hbt2
  clear hr1_t1
  have hB_t2 := hB_t1.trans (hbt2.mono hB_t1.size)
  clear hr0_t2
  obtain ⟨A, hA⟩ : ∃ A, A = num LA := ⟨_, rfl⟩
  rw [← hA] at mA tA
  have pA := mA.nonneg
  clear hA
  go_wp2_with fail
  refine (boundedQ hr1_t2 hx1 hm1 1000 (by omega)).mono ?_
  rintro e wt3 ⟨caC, cnC, ccC, LC, rfl, rC, mC, tC, hlC, HTLC, hbt3⟩
  have hr1_t3 := hr1_t2.later hbt3
  clear hr1_t2
  have rA_t3 := rA.later hbt3
  clear rA
  have hB_t3 := hB_t2.trans (hbt3.mono hB_t2.size)
  clear hr1_t3
  obtain ⟨C, hC⟩ : ∃ C, C = num LC := ⟨_, rfl⟩
  rw [← hC] at mC tC
  have pC := mC.nonneg
  clear hC
  by_cases hC : C = 0
  · skip
    subst hC
    go_wp2_with fail
    refine (divZeroQ rA_t3 rC mA mC (by omega) (by omega)).mono ?_
    rintro e wt4 ⟨a1, d1, a2, d2, rfl, hbt4⟩
    have rA_t4 := rA_t3.later hbt4
    clear rA_t3
    have rC_t4 := rC.later hbt4
    clear rC
    have hB_t4 := hB_t3.trans (hbt4.mono hB_t3.size)
    go_wp2_with fail
    refine (zeroQ rC_t4 mC).mono ?_
    rintro e wt5 ⟨rfl, hbt5⟩
    have rA_t5 := rA_t4.later hbt5
    clear rA_t4
    have rC_t5 := rC_t4.later hbt5
    clear rC_t4
    have hB_t5 := hB_t4.trans (hbt5.mono hB_t4.size)
    go_wp2_with fail
    refine (num3_any 30 _).mono ?_
    rintro e wt6 ⟨rfl, hbt6⟩
    have rA_t6 := rA_t5.later hbt6
    clear rA_t5
    have rC_t6 := rC_t5.later hbt6
    clear rC_t5
    have hB_t6 := hB_t5.trans (hbt6.mono hB_t5.size)
    go_wp2
    go_ret
    exact ⟨rfl, hB_t6⟩
  · skip
    have hCp : 0 < C := by omega
    have hz0 : decide (C = 0) = false := decide_eq_false hC
    have hq0 : 0 ≤ A / C := Int.ediv_nonneg pA (Int.le_of_lt hCp)
    have hr0 := Int.emod_nonneg A hC
    have hr1 := Int.emod_lt_of_pos A hCp
    have HDM : Hid (A / C * C + A % C = A) := by show _ = _; rw [Int.mul_comm]; exact Int.mul_ediv_add_emod A C
    have hqc : 0 ≤ A / C * C := Int.mul_nonneg hq0 (Int.le_of_lt hCp)
    have lq : Lt (A / C * C) 1000 := tA.le hqc (by have := HDM.out; omega)
    have ls : Lt (A / C * C + A % C) 1000 := by rw [HDM.out]; exact tA
    have HO : Hid (ordN (A % C) C = -1) := ordN_lt hr1
    go_wp2_with fail
    refine (divModQ rA_t3 rC mA mC hCp (by omega) (by omega)).mono ?_
    rintro e wt4 ⟨qa, qn, qc, ql, ra, rn, rc, rl, rfl, rq, mq, eq, rr, mr, er, hbt4⟩
    have rA_t4 := rA_t3.later hbt4
    clear rA_t3
    have rC_t4 := rC.later hbt4
    clear rC
    have hB_t4 := hB_t3.trans (hbt4.mono hB_t3.size)
    go_wp2_with fail
    refine (zeroQ rC_t4 mC).mono ?_
    rintro e wt5 ⟨rfl, hbt5⟩
    have rA_t5 := rA_t4.later hbt5
    clear rA_t4
    have rC_t5 := rC_t4.later hbt5
    clear rC_t4
    have rq_t5 := rq.later hbt5
    clear rq
    have rr_t5 := rr.later hbt5
    clear rr
    have hB_t5 := hB_t4.trans (hbt5.mono hB_t4.size)
    go_wp2_with fail
    refine (timesQ rq_t5 rC_t5 rr_t5 mq mC mr lq ls (by omega)).mono ?_
    rintro e wt6 ⟨ba, bn, bc, bl, rfl, rb, mb, eb, hbt6⟩
    have rA_t6 := rA_t5.later hbt6
    clear rA_t5
    have rC_t6 := rC_t5.later hbt6
    clear rC_t5
    have rq_t6 := rq_t5.later hbt6
    clear rq_t5
    have rr_t6 := rr_t5.later hbt6
    clear rr_t5
    have hB_t6 := hB_t5.trans (hbt6.mono hB_t5.size)
    go_wp2_with fail
    refine (num3_any 0 _).mono ?_
    rintro e wt7 ⟨rfl, hbt7⟩
    have rA_t7 := rA_t6.later hbt7
    clear rA_t6
    have rC_t7 := rC_t6.later hbt7
    clear rC_t6
    have rq_t7 := rq_t6.later hbt7
    clear rq_t6
    have rr_t7 := rr_t6.later hbt7
    clear rr_t6
    have rb_t7 := rb.later hbt7
    clear rb
    have hB_t7 := hB_t6.trans (hbt7.mono hB_t6.size)
    go_wp2_with fail
    refine (cmpK rb_t7 rA_t7 mb mA (ordN_eq HDM.out)).mono ?_
    rintro e wt8 ⟨rfl, hbt8⟩
    have rA_t8 := rA_t7.later hbt8
    clear rA_t7
    have rC_t8 := rC_t7.later hbt8
    clear rC_t7
    have rq_t8 := rq_t7.later hbt8
    clear rq_t7
    have rr_t8 := rr_t7.later hbt8
    clear rr_t7
    have rb_t8 := rb_t7.later hbt8
    clear rb_t7
    have hB_t8 := hB_t7.trans (hbt8.mono hB_t7.size)
    clear rb_t8
    go_wp2_with fail
    refine (cmpK rr_t8 rC_t8 mr mC HO.out).mono ?_
    rintro e wt9 ⟨rfl, hbt9⟩
    have rA_t9 := rA_t8.later hbt9
    clear rA_t8
    have rC_t9 := rC_t8.later hbt9
    clear rC_t8
    have rq_t9 := rq_t8.later hbt9
    clear rq_t8
    have rr_t9 := rr_t8.later hbt9
    clear rr_t8
    have hB_t9 := hB_t8.trans (hbt9.mono hB_t8.size)
    go_wp2_with fail
    refine (normalQ rq_t9 mq eq).mono ?_
    rintro e wt10 ⟨rfl, hbt10⟩
    have rA_t10 := rA_t9.later hbt10
    clear rA_t9
    have rC_t10 := rC_t9.later hbt10
    clear rC_t9
    have rq_t10 := rq_t9.later hbt10
    clear rq_t9
    have rr_t10 := rr_t9.later hbt10
    clear rr_t9
    have hB_t10 := hB_t9.trans (hbt10.mono hB_t9.size)
    go_wp2_with fail
    refine (normalQ rr_t10 mr er).mono ?_
    rintro e wt11 ⟨rfl, hbt11⟩
    have rA_t11 := rA_t10.later hbt11
    clear rA_t10
    have rC_t11 := rC_t10.later hbt11
    clear rC_t10
    have rq_t11 := rq_t10.later hbt11
    clear rq_t10
    have rr_t11 := rr_t10.later hbt11
    clear rr_t10
    have hB_t11 := hB_t10.trans (hbt11.mono hB_t10.size)
    clear rq_t11
    clear rr_t11
    have hcn : 0 < cnC := by
      have h9 := rC_t11.1.1
      by_cases g : 0 < cnC
      · exact g
      · exfalso
        have : LC = [] := List.eq_nil_of_length_eq_zero (by omega)
        have h8 := mC.num
        rw [this] at h8
        have : num ([] : List Int) = 0 := rfl
        omega
    obtain ⟨yb, yo, rfl, hyb, hyc⟩ := rC_t11.1.at hcn
    have hc0 := hyc 0 hcn
    rw [Nat.add_zero] at hc0
    have gy : U (LC.getD 0 0) := mC.ws.getAnyB 0
    have hcut := rC_t11.cut (m := 1) (by omega)
    rw [take_one (by have := rC_t11.1.1; omega)] at hcut
    generalize LC.getD 0 0 = y0 at *
    have i0 : (0 : Int) < (cnC : Int) := by omega
    have i1 : (1 : Int) ≤ (cnC : Int) := by omega
    have i2 : 1 ≤ ccC := by have := rC_t11.2.1; omega
    clear hyc
    by_cases hy0 : y0 = 0
    · skip
      have t0 : (y0 == 0) = true := beq_of hy0
      clear hcut
      go_wp2_with fail
      refine (smallZero_any _).mono ?_
      rintro e w9 ⟨rfl, rfl⟩
      go_wp2_with fail
      refine (num3_any 30 _).mono ?_
      rintro e wt12 ⟨rfl, hbt12⟩
      have rA_t12 := rA_t11.later hbt12
      clear rA_t11
      have rC_t12 := rC_t11.later hbt12
      clear rC_t11
      have hB_t12 := hB_t11.trans (hbt12.mono hB_t11.size)
      go_wp2
      go_ret
      exact ⟨rfl, hB_t12⟩
    · skip
      have t0 : (y0 == 0) = false := beq_no hy0
      have m1 : Nm [y0] y0 := Nm.one gy
      have yp : 0 < y0 := by unfold U at gy; omega
      have w0 := Int.emod_nonneg A hy0
      have w1 := Int.emod_lt_of_pos A yp
      have hwr : 0 ≤ A % y0 ∧ A % y0 < 18446744073709551616 := by unfold U at gy; omega
      go_wp2_with fail
      refine (smallQ rA_t11 mA gy hy0 (by omega)).mono ?_
      rintro e wt12 ⟨pa, pn, pc, pl, rfl, rp, mp, ep, hbt12⟩
      have rA_t12 := rA_t11.later hbt12
      clear rA_t11
      have rC_t12 := rC_t11.later hbt12
      clear rC_t11
      have hcut_t12 := hcut.later hbt12
      clear hcut
      have hB_t12 := hB_t11.trans (hbt12.mono hB_t11.size)
      go_wp2_with fail
      refine (divModQ rA_t12 hcut_t12 mA m1 yp (by omega) (by omega)).mono ?_
      rintro e wt13 ⟨sa, sn, sc, sl, ta, tn, tc, tl, rfl, rs, ms, es, rt, mt, et, hbt13⟩
      have rA_t13 := rA_t12.later hbt13
      clear rA_t12
      have rC_t13 := rC_t12.later hbt13
      clear rC_t12
      have hcut_t13 := hcut_t12.later hbt13
      clear hcut_t12
      have rp_t13 := rp.later hbt13
      clear rp
      have hB_t13 := hB_t12.trans (hbt13.mono hB_t12.size)
      go_wp2_with fail
      refine (num3_any 0 _).mono ?_
      rintro e wt14 ⟨rfl, hbt14⟩
      have rA_t14 := rA_t13.later hbt14
      clear rA_t13
      have rC_t14 := rC_t13.later hbt14
      clear rC_t13
      have hcut_t14 := hcut_t13.later hbt14
      clear hcut_t13
      have rp_t14 := rp_t13.later hbt14
      clear rp_t13
      have rs_t14 := rs.later hbt14
      clear rs
      have rt_t14 := rt.later hbt14
      clear rt
      have hB_t14 := hB_t13.trans (hbt14.mono hB_t13.size)
      go_wp2_with fail
      refine (num3_any 0 _).mono ?_
      rintro e wt15 ⟨rfl, hbt15⟩
      have rA_t15 := rA_t14.later hbt15
      clear rA_t14
      have rC_t15 := rC_t14.later hbt15
      clear rC_t14
      have hcut_t15 := hcut_t14.later hbt15
      clear hcut_t14
      have rp_t15 := rp_t14.later hbt15
      clear rp_t14
      have rs_t15 := rs_t14.later hbt15
      clear rs_t14
      have rt_t15 := rt_t14.later hbt15
      clear rt_t14
      have hB_t15 := hB_t14.trans (hbt15.mono hB_t14.size)
      go_wp2_with fail
      refine (sameQ rp_t15 rs_t15 mp ms ep es rfl).mono ?_
      rintro e wt16 ⟨rfl, hbt16⟩
      have rA_t16 := rA_t15.later hbt16
      clear rA_t15
      have rC_t16 := rC_t15.later hbt16
      clear rC_t15
      have hcut_t16 := hcut_t15.later hbt16
      clear hcut_t15
      have rp_t16 := rp_t15.later hbt16
      clear rp_t15
      have rs_t16 := rs_t15.later hbt16
      clear rs_t15
      have rt_t16 := rt_t15.later hbt16
      clear rt_t15
      have hB_t16 := hB_t15.trans (hbt16.mono hB_t15.size)
      clear rp_t16
      clear rs_t16
      go_wp2_with fail
      refine (natFrom_any hwr _).mono ?_
      rintro e wt17 ⟨fv, rfl, hfv, hbt17⟩
      have rA_t17 := rA_t16.later hbt17
      clear rA_t16
      have rC_t17 := rC_t16.later hbt17
      clear rC_t16
      have hcut_t17 := hcut_t16.later hbt17
      clear hcut_t16
      have rt_t17 := rt_t16.later hbt17
      clear rt_t16
      have hB_t17 := hB_t16.trans (hbt17.mono hB_t16.size)
      obtain ⟨fa, fc, rfl, rf⟩ := hfv.readsC
      have mf : Nm (words (A % y0)) (A % y0) := (Lt.word hwr).nm (by omega)
      go_wp2_with fail
      refine (sameQ rt_t17 rf mt mf et (show Hid (words (A % y0) = words (A % y0)) from rfl) rfl).mono ?_
      rintro e wt18 ⟨rfl, hbt18⟩
      have rA_t18 := rA_t17.later hbt18
      clear rA_t17
      have rC_t18 := rC_t17.later hbt18
      clear rC_t17
      have hcut_t18 := hcut_t17.later hbt18
      clear hcut_t17
      have rt_t18 := rt_t17.later hbt18
      clear rt_t17
      have rf_t18 := rf.later hbt18
      clear rf
      have hB_t18 := hB_t17.trans (hbt18.mono hB_t17.size)
      clear rt_t18
      clear rf_t18
      have hc9 := RowC.cell0 (n := 0) hcut_t18
      go_wp2
      go_ret
      exact ⟨rfl, hB_t18⟩

/-! ### THE ROW's STEP: WRITTEN OUT: LEAVE IT -/
set_option maxRecDepth 100000 in
theorem lifted (os : Os) (started : os.Started) (H : Type) (enc : TypeId × Value → H) :
    ReturnsInHanded {} Try.checked os 8 .any (Rows.quotDividesSpec.pre6 enc Try.prog Try.f8 Rows.quotDividesRow.domain false) (Rows.quotDividesSpec.post enc Try.prog Try.f8 false true false false) := by
  refine returnsInHanded_of_change (C := Try.checked) own started (by kernel_rfl) Try.func8
    (ChangeSpec.witness6 (enc := enc) (C := Try.checked) false ⟨#[], #[.slice none 0 0, .slice none 0 0], []⟩ 8 (by kernel_rfl) (by kernel_rfl) (by kernel_rfl) (by kernel_rfl)) ?_
  intro W base args ds gs before hval0 hW hcnd _
  have hval : ∀ (j : Nat) t v, Try.f8.params[j]? = some t → args[j]? = some v → Value.okWide Try.prog W .any base t v := hval0
  have hW' := hW
  obtain ⟨p, q, hA0, hV, rfl, hfz, hnd⟩ := hW
  have hA : DataW.TrodAll enc Try.prog W 0 (fun _ => true) true Try.f8.params.toList args.toList ds p := hA0
  rw [Try.params8] at hA hval
  obtain ⟨v0, vs0, d0, ds0, p0, q0, hargs, rfl, rfl, h0, r0⟩ := trodAll_cons hA
  obtain ⟨v1, vs1, d1, ds1, p1, q1, rfl, rfl, rfl, h1, r1⟩ := trodAll_cons r0
  obtain ⟨rfl, rfl, rfl⟩ := trodAll_nil r1
  obtain rfl : args = #[v0, v1] := by cases args; simp_all
  obtain ⟨rfl, rfl⟩ := trodVars_none hV
  obtain ⟨a0, len0, cap0, rfl⟩ := okWide_slice Try.underlying22 (hval 0 22 v0 rfl rfl)
  have k0 := h0
  have lt0 : ∀ x ∈ p0, x.block < W.heap.size := by obtain ⟨m, hm⟩ := k0; exact DataW.trod_lt m _ _ _ hm
  obtain ⟨z0, w0⟩ : ∃ zs, IsRow .u64 W a0 len0 cap0 zs := by
    obtain ⟨fuel, hf⟩ := h0
    rcases open_ints Try.underlying22 Try.underlying32 (by kernel_rfl) hf with ⟨hcs, _⟩ | ⟨x, l, c, zs, hcs, _, hl, hm, hz, _, hcell, hwz⟩
    · simp [Value.cells] at hcs
      obtain ⟨rfl, rfl, rfl⟩ := hcs
      exact ⟨[], .inl ⟨rfl, rfl, rfl, rfl⟩⟩
    · simp [Value.cells] at hcs
      obtain ⟨rfl, rfl, rfl⟩ := hcs
      exact ⟨zs, .inr ⟨_, rfl, hl, hm, by simpa using hz, hcell, hwz⟩⟩
  obtain ⟨a1, len1, cap1, rfl⟩ := okWide_slice Try.underlying22 (hval 1 22 v1 rfl rfl)
  have k1 := h1
  have lt1 : ∀ x ∈ p1, x.block < W.heap.size := by obtain ⟨m, hm⟩ := k1; exact DataW.trod_lt m _ _ _ hm
  obtain ⟨z1, w1⟩ : ∃ zs, IsRow .u64 W a1 len1 cap1 zs := by
    obtain ⟨fuel, hf⟩ := h1
    rcases open_ints Try.underlying22 Try.underlying32 (by kernel_rfl) hf with ⟨hcs, _⟩ | ⟨x, l, c, zs, hcs, _, hl, hm, hz, _, hcell, hwz⟩
    · simp [Value.cells] at hcs
      obtain ⟨rfl, rfl, rfl⟩ := hcs
      exact ⟨[], .inl ⟨rfl, rfl, rfl, rfl⟩⟩
    · simp [Value.cells] at hcs
      obtain ⟨rfl, rfl, rfl⟩ := hcs
      exact ⟨zs, .inr ⟨_, rfl, hl, hm, by simpa using hz, hcell, hwz⟩⟩
  clear hA0 hval0
  refine (walk a0 len0 cap0 z0 a1 len1 cap1 z1 W w0 w1).mono fun e W' ⟨he, bel⟩ => ?_
  subst he
  exact ⟨_, rfl, _, _, _, [], _, [], hW', trodAll_mk1 (shut_bool Try.underlying4 _), (trodAll_cons_mk (Below.trod laidOut (by kernel_rfl) (of_decide_eq_true (by kernel_rfl)) k0 bel lt0) (trodAll_cons_mk (Below.trod laidOut (by kernel_rfl) (of_decide_eq_true (by kernel_rfl)) k1 bel lt1) trodAll_mk0)), rfl, bel.frame _, fun h => by cases h⟩

theorem over : Rows.quotDividesRow.holds Try.pinned (OpenSpec.ofChange Rows.quotDividesSpec) :=
  OpenClaim.holds_of_wide 8 Try.f8 rfl rfl rfl rfl rfl rfl rfl ⟨rfl, rfl, rfl, rfl, rfl⟩ rfl rfl rfl rfl rfl (by kernel_rfl) Try.func8 (by kernel_rfl)
    (of_decide_eq_true (by kernel_rfl)) (by unfold Func.isWrapper; first | (rw [if_pos (by decide +kernel)]; kernel_rfl) | (rw [if_neg (by decide +kernel)]; exact ⟨rfl, rfl⟩))
    (fun os started H enc _ => lifted os started H enc)

/-- ████ THE STATEMENT ████ -/
theorem proved : Rows.QuotDividesSaid := over
#print axioms proved
end Go.Proofs.Ytopcdpeepchgfaa.quotDivides
