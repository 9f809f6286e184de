/-
  THE SHELL OF A PROOF OF 'Rows.QuotBackSaid' ('plumb/plumblaw03.QuotBack'), WRITTEN BY PROGRAM (proof-skeleton.mjs, third state) off the guide's own print for that function. Not trusted: Lean checks it.
  YOURS IS THE HOLE MARKED 'HOLE' (it bears 'sorry'). ALL ELSE IS THE GUIDE's OWN WAY (howto/template/XProofs.lean; Derived/Test/ChunkProofs.lean for 'Below') at this function's number and types: leave it.
-/
import Derived.Test.YtopcdpeepchgfaaRows
import Derived.WalkKit
import Derived.ProofKit
import Derived.OpenShut
import Derived.ShutString
import Derived.WalkLawsBesides
import Derived.WalkSpells
import Derived.Deep.RegionWith
import Derived.Deep.DeepCutAuto
import Derived.Deep.DeepFit
import Derived.Test.YtopcdpeepchgfaaQuotLive
import Derived.ChangeOld
import Derived.Below
namespace Go.Proofs.Ytopcdpeepchgfaa.quotBack
open Go.ChangeShapes Go.WideShapes Go.ChangeAt Go.RowKit
open Go.ChangeMaps (open_string shut_string)
set_option linter.unusedVariables false

theorem own : ownKnob Try.prog.godebug = none := by kernel_rfl
theorem laidOut : laidOutB Try.prog = true := by kernel_rfl

/-- WHAT THE WALK IS TOLD OF A SLICE OF INTEGERS THAT CAME IN: it is nil; or it leads to a row of 'cap' cells, the numbers 'zs' (the first 'len' are its elements, the rest its spare room), each fitting its kind. -/
def IsRow (k : IntKind) (w : World) (a : Option Addr) (len cap : Nat) (zs : List Int) : Prop :=
  (a = none ∧ len = 0 ∧ cap = 0 ∧ zs = []) ∨
  ∃ x, a = some x ∧ len ≤ cap ∧ cap ≤ maxLen ∧ zs.length = cap ∧ (∀ i, i < zs.length → w.cell? (x.add i) = some (.int k (zs.getD i 0))) ∧ ∀ n ∈ zs, (Lit.int k n).wf = true

open Na Ar
/-! ### STEP 1: THE WALK: the Go text returns true, AND WRITES NOTHING THAT WAS THERE: 'Below w.heap.size w w'' (Derived/Below.lean: '.refl', '.alloc', '.drew', '.setCell' at a new block, '.trans'). Open each 'IsRow' by 'rcases' AHEAD of 'go_enter'; part every test ahead of the walk. -/
set_option maxHeartbeats 6400000 in
set_option maxRecDepth 100000 in
theorem walk (a0 : Option Addr) (len0 cap0 : Nat) (z0 : List Int) (a1 : Option Addr) (len1 cap1 : Nat) (z1 : List Int) (a2 : Option Addr) (len2 cap2 : Nat) (z2 : List Int) (w : World) (w0 : IsRow .u64 w a0 len0 cap0 z0) (w1 : IsRow .u64 w a1 len1 cap1 z1) (w2 : IsRow .u64 w a2 len2 cap2 z2) :
    Calls Try.prog 5 #[.slice a0 len0 cap0, .slice a1 len1 cap1, .slice a2 len2 cap2] w fun e w' => e = .returned (.bool true) ∧ Below w.heap.size w w' := by
  have q0 := row_of w0
  obtain ⟨hr0, hx0, hm0⟩ := q0
  have q1 := row_of w1
  obtain ⟨hr1, hx1, hm1⟩ := q1
  have q2 := row_of w2
  obtain ⟨hr2, hx2, hm2⟩ := q2
  clear w0 w1 w2
  generalize z0.take len0 = x0 at *
  generalize z1.take len1 = x1 at *
  generalize z2.take len2 = x2 at *
  have B_0 := Below.refl w.heap.size w
  go_enter Try.func5, Try.ntmps5
  go_wp2_with fail
  refine (live_any _).mono ?_
  rintro e wt1 ⟨rfl, hbt1⟩
  have hr0_t1 := hr0.later hbt1
  clear hr0
  have hr1_t1 := hr1.later hbt1
  clear hr1
  have hr2_t1 := hr2.later hbt1
  clear hr2
  have hB_t1 := B_0.trans (hbt1.mono B_0.size)
  go_wp2_with fail
  refine (boundedQ hr0_t1 hx0 hm0 1000 (by omega)).mono ?_
  rintro e wt2 ⟨caG, cnG, ccG, LG, rfl, rG, mG, tG, hlG, HTLG, hbt2⟩
  have hr0_t2 := hr0_t1.later hbt2
  clear hr0_t1
  have hr1_t2 := hr1_t1.later hbt2
  clear hr1_t1
  have hr2_t2 := hr2_t1.later hbt2
  clear hr2_t1
  have hB_t2 := hB_t1.trans (hbt2.mono hB_t1.size)
  clear hr0_t2
  obtain ⟨G, hG⟩ : ∃ G, G = num LG := ⟨_, rfl⟩
  rw [← hG] at mG tG
  have pG := mG.nonneg
  clear hG
  go_wp2_with fail
  refine (normQ rG mG tG (by omega)).mono ?_
  rintro e wt3 ⟨ga, gn, gc, gl, rfl, rQ, mQ, eQ, hbt3⟩
  have hr1_t3 := hr1_t2.later hbt3
  clear hr1_t2
  have hr2_t3 := hr2_t2.later hbt3
  clear hr2_t2
  have rG_t3 := rG.later hbt3
  clear rG
  have hB_t3 := hB_t2.trans (hbt3.mono hB_t2.size)
  clear rG_t3
  go_wp2_with fail
  refine (boundedQ hr1_t3 hx1 hm1 1000 (by omega)).mono ?_
  rintro e wt4 ⟨caC, cnC, ccC, LC, rfl, rC, mC, tC, hlC, HTLC, hbt4⟩
  have hr1_t4 := hr1_t3.later hbt4
  clear hr1_t3
  have hr2_t4 := hr2_t3.later hbt4
  clear hr2_t3
  have rQ_t4 := rQ.later hbt4
  clear rQ
  have hB_t4 := hB_t3.trans (hbt4.mono hB_t3.size)
  clear hr1_t4
  obtain ⟨C, hC⟩ : ∃ C, C = num LC := ⟨_, rfl⟩
  rw [← hC] at mC tC
  have pC := mC.nonneg
  clear hC
  have lQ : gn ≤ 3700000 := by have h1 := rQ_t4.1.1; rw [eQ.out] at h1; have h2 := tG.len; omega
  go_wp2_with fail
  refine (zeroQ rC mC).mono ?_
  rintro e wt5 ⟨rfl, hbt5⟩
  have hr2_t5 := hr2_t4.later hbt5
  clear hr2_t4
  have rQ_t5 := rQ_t4.later hbt5
  clear rQ_t4
  have rC_t5 := rC.later hbt5
  clear rC
  have hB_t5 := hB_t4.trans (hbt5.mono hB_t4.size)
  by_cases hC : C = 0
  · skip
    have z0 : decide (C = 0) = true := decide_eq_true hC
    rw [z0]
    rw [hC] at mC
    clear hC z0
    go_wp2_with fail
    refine (divZeroQ rQ_t5 rC_t5 mQ mC lQ (by omega)).mono ?_
    rintro e wt6 ⟨a1, d1, a2, d2, rfl, hbt6⟩
    have hr2_t6 := hr2_t5.later hbt6
    clear hr2_t5
    have rQ_t6 := rQ_t5.later hbt6
    clear rQ_t5
    have rC_t6 := rC_t5.later hbt6
    clear rC_t5
    have hB_t6 := hB_t5.trans (hbt6.mono hB_t5.size)
    go_wp2_with fail
    refine (num3_any 30 _).mono ?_
    rintro e wt7 ⟨rfl, hbt7⟩
    have hr2_t7 := hr2_t6.later hbt7
    clear hr2_t6
    have rQ_t7 := rQ_t6.later hbt7
    clear rQ_t6
    have rC_t7 := rC_t6.later hbt7
    clear rC_t6
    have hB_t7 := hB_t6.trans (hbt7.mono hB_t6.size)
    go_wp2
    go_ret
    exact ⟨rfl, hB_t7⟩
  · skip
    have z0 : decide (C = 0) = false := decide_eq_false hC
    rw [z0]
    have hCp : 0 < C := by omega
    go_wp2_with fail
    refine (boundedQ hr2_t5 hx2 hm2 1000 (by omega)).mono ?_
    rintro e wt6 ⟨caD, cnD, ccD, LD, rfl, rD, mD, tD, hlD, HTLD, hbt6⟩
    have hr2_t6 := hr2_t5.later hbt6
    clear hr2_t5
    have rQ_t6 := rQ_t5.later hbt6
    clear rQ_t5
    have rC_t6 := rC_t5.later hbt6
    clear rC_t5
    have hB_t6 := hB_t5.trans (hbt6.mono hB_t5.size)
    clear hr2_t6
    obtain ⟨D, hD⟩ : ∃ D, D = num LD := ⟨_, rfl⟩
    rw [← hD] at mD tD
    have pD := mD.nonneg
    clear hD
    have hr0 := Int.emod_nonneg D hC
    have hr1 := Int.emod_lt_of_pos D hCp
    go_wp2_with fail
    refine (divModQ rD rC_t6 mD mC hCp (by omega) (by omega)).mono ?_
    rintro e wt7 ⟨qa, qn, qc, ql, ra, rn, rc, rl, rfl, rq, mq, eq, rr, mr, er, hbt7⟩
    have rQ_t7 := rQ_t6.later hbt7
    clear rQ_t6
    have rC_t7 := rC_t6.later hbt7
    clear rC_t6
    have rD_t7 := rD.later hbt7
    clear rD
    have hB_t7 := hB_t6.trans (hbt7.mono hB_t6.size)
    clear rq
    clear rD_t7
    obtain ⟨R, hR⟩ : ∃ R, R = D % C := ⟨_, rfl⟩
    rw [← hR] at mr er hr0 hr1
    clear hR
    have lq : Lt (G * C) 2000 := tG.mul tC
    have ls : Lt (G * C + R) 3001 := (lq.add (tC.le hr0 (Int.le_of_lt hr1))).mono (by omega)
    have HQ : Hid ((G * C + R) / C = G) := by show _ = _; rw [Int.add_comm, Int.add_mul_ediv_right _ _ hC, Int.ediv_eq_zero_of_lt hr0 hr1, Int.zero_add]
    have HR : Hid ((G * C + R) % C = R) := by show _ = _; rw [Int.add_comm, Int.add_mul_emod_self_right, Int.emod_eq_of_lt hr0 hr1]
    have HO : Hid (ordN R C = -1) := ordN_lt hr1
    go_wp2_with fail
    refine (timesQ rQ_t7 rC_t7 rr mQ mC mr (lq.mono (by omega)) ls (by omega)).mono ?_
    rintro e wt8 ⟨ba, bn, bc, bl, rfl, rb, mb, eb, hbt8⟩
    have rQ_t8 := rQ_t7.later hbt8
    clear rQ_t7
    have rC_t8 := rC_t7.later hbt8
    clear rC_t7
    have rr_t8 := rr.later hbt8
    clear rr
    have hB_t8 := hB_t7.trans (hbt8.mono hB_t7.size)
    have lb : bn ≤ 3700000 := by have h1 := rb.1.1; rw [eb.out] at h1; have h2 := ls.len; omega
    go_wp2_with fail
    refine (divModQ rb rC_t8 mb mC hCp lb (by omega)).mono ?_
    rintro e wt9 ⟨sa, sn, sc, sl, ta, tn, tc, tl, rfl, rs, ms, es, rt, mt, et, hbt9⟩
    have rQ_t9 := rQ_t8.later hbt9
    clear rQ_t8
    have rC_t9 := rC_t8.later hbt9
    clear rC_t8
    have rr_t9 := rr_t8.later hbt9
    clear rr_t8
    have rb_t9 := rb.later hbt9
    clear rb
    have hB_t9 := hB_t8.trans (hbt9.mono hB_t8.size)
    rw [HQ.out] at ms es
    rw [HR.out] at mt et
    clear rb_t9
    go_wp2_with fail
    refine (num3_any 0 _).mono ?_
    rintro e wt10 ⟨rfl, hbt10⟩
    have rQ_t10 := rQ_t9.later hbt10
    clear rQ_t9
    have rC_t10 := rC_t9.later hbt10
    clear rC_t9
    have rr_t10 := rr_t9.later hbt10
    clear rr_t9
    have rs_t10 := rs.later hbt10
    clear rs
    have rt_t10 := rt.later hbt10
    clear rt
    have hB_t10 := hB_t9.trans (hbt10.mono hB_t9.size)
    go_wp2_with fail
    refine (num3_any 0 _).mono ?_
    rintro e wt11 ⟨rfl, hbt11⟩
    have rQ_t11 := rQ_t10.later hbt11
    clear rQ_t10
    have rC_t11 := rC_t10.later hbt11
    clear rC_t10
    have rr_t11 := rr_t10.later hbt11
    clear rr_t10
    have rs_t11 := rs_t10.later hbt11
    clear rs_t10
    have rt_t11 := rt_t10.later hbt11
    clear rt_t10
    have hB_t11 := hB_t10.trans (hbt11.mono hB_t10.size)
    go_wp2_with fail
    refine (sameQ rs_t11 rQ_t11 ms mQ es eQ rfl).mono ?_
    rintro e wt12 ⟨rfl, hbt12⟩
    have rQ_t12 := rQ_t11.later hbt12
    clear rQ_t11
    have rC_t12 := rC_t11.later hbt12
    clear rC_t11
    have rr_t12 := rr_t11.later hbt12
    clear rr_t11
    have rs_t12 := rs_t11.later hbt12
    clear rs_t11
    have rt_t12 := rt_t11.later hbt12
    clear rt_t11
    have hB_t12 := hB_t11.trans (hbt12.mono hB_t11.size)
    go_wp2_with fail
    refine (sameQ rt_t12 rr_t12 mt mr et er rfl).mono ?_
    rintro e wt13 ⟨rfl, hbt13⟩
    have rQ_t13 := rQ_t12.later hbt13
    clear rQ_t12
    have rC_t13 := rC_t12.later hbt13
    clear rC_t12
    have rr_t13 := rr_t12.later hbt13
    clear rr_t12
    have rs_t13 := rs_t12.later hbt13
    clear rs_t12
    have rt_t13 := rt_t12.later hbt13
    clear rt_t12
    have hB_t13 := hB_t12.trans (hbt13.mono hB_t12.size)
    clear rs_t13
    clear rt_t13
    go_wp2_with fail
    refine (cmpK rr_t13 rC_t13 mr mC HO.out).mono ?_
    rintro e wt14 ⟨rfl, hbt14⟩
    have rQ_t14 := rQ_t13.later hbt14
    clear rQ_t13
    have rC_t14 := rC_t13.later hbt14
    clear rC_t13
    have rr_t14 := rr_t13.later hbt14
    clear rr_t13
    have hB_t14 := hB_t13.trans (hbt14.mono hB_t13.size)
    go_wp2
    go_ret
    exact ⟨rfl, hB_t14⟩

/-! ### THE ROW's STEP: WRITTEN OUT: LEAVE IT -/
set_option maxRecDepth 100000 in
theorem lifted (os : Os) (started : os.Started) (H : Type) (enc : TypeId × Value → H) :
    ReturnsInHanded {} Try.checked os 5 .any (Rows.quotBackSpec.pre6 enc Try.prog Try.f5 Rows.quotBackRow.domain false) (Rows.quotBackSpec.post enc Try.prog Try.f5 false true false false) := by
  refine returnsInHanded_of_change (C := Try.checked) own started (by kernel_rfl) Try.func5
    (ChangeSpec.witness6 (enc := enc) (C := Try.checked) false ⟨#[], #[.slice none 0 0, .slice none 0 0, .slice none 0 0], []⟩ 8 (by kernel_rfl) (by kernel_rfl) (by kernel_rfl) (by kernel_rfl)) ?_
  intro W base args ds gs before hval0 hW hcnd _
  have hval : ∀ (j : Nat) t v, Try.f5.params[j]? = some t → args[j]? = some v → Value.okWide Try.prog W .any base t v := hval0
  have hW' := hW
  obtain ⟨p, q, hA0, hV, rfl, hfz, hnd⟩ := hW
  have hA : DataW.TrodAll enc Try.prog W 0 (fun _ => true) true Try.f5.params.toList args.toList ds p := hA0
  rw [Try.params5] at hA hval
  obtain ⟨v0, vs0, d0, ds0, p0, q0, hargs, rfl, rfl, h0, r0⟩ := trodAll_cons hA
  obtain ⟨v1, vs1, d1, ds1, p1, q1, rfl, rfl, rfl, h1, r1⟩ := trodAll_cons r0
  obtain ⟨v2, vs2, d2, ds2, p2, q2, rfl, rfl, rfl, h2, r2⟩ := trodAll_cons r1
  obtain ⟨rfl, rfl, rfl⟩ := trodAll_nil r2
  obtain rfl : args = #[v0, v1, v2] := by cases args; simp_all
  obtain ⟨rfl, rfl⟩ := trodVars_none hV
  obtain ⟨a0, len0, cap0, rfl⟩ := okWide_slice Try.underlying22 (hval 0 22 v0 rfl rfl)
  have k0 := h0
  have lt0 : ∀ x ∈ p0, x.block < W.heap.size := by obtain ⟨m, hm⟩ := k0; exact DataW.trod_lt m _ _ _ hm
  obtain ⟨z0, w0⟩ : ∃ zs, IsRow .u64 W a0 len0 cap0 zs := by
    obtain ⟨fuel, hf⟩ := h0
    rcases open_ints Try.underlying22 Try.underlying32 (by kernel_rfl) hf with ⟨hcs, _⟩ | ⟨x, l, c, zs, hcs, _, hl, hm, hz, _, hcell, hwz⟩
    · simp [Value.cells] at hcs
      obtain ⟨rfl, rfl, rfl⟩ := hcs
      exact ⟨[], .inl ⟨rfl, rfl, rfl, rfl⟩⟩
    · simp [Value.cells] at hcs
      obtain ⟨rfl, rfl, rfl⟩ := hcs
      exact ⟨zs, .inr ⟨_, rfl, hl, hm, by simpa using hz, hcell, hwz⟩⟩
  obtain ⟨a1, len1, cap1, rfl⟩ := okWide_slice Try.underlying22 (hval 1 22 v1 rfl rfl)
  have k1 := h1
  have lt1 : ∀ x ∈ p1, x.block < W.heap.size := by obtain ⟨m, hm⟩ := k1; exact DataW.trod_lt m _ _ _ hm
  obtain ⟨z1, w1⟩ : ∃ zs, IsRow .u64 W a1 len1 cap1 zs := by
    obtain ⟨fuel, hf⟩ := h1
    rcases open_ints Try.underlying22 Try.underlying32 (by kernel_rfl) hf with ⟨hcs, _⟩ | ⟨x, l, c, zs, hcs, _, hl, hm, hz, _, hcell, hwz⟩
    · simp [Value.cells] at hcs
      obtain ⟨rfl, rfl, rfl⟩ := hcs
      exact ⟨[], .inl ⟨rfl, rfl, rfl, rfl⟩⟩
    · simp [Value.cells] at hcs
      obtain ⟨rfl, rfl, rfl⟩ := hcs
      exact ⟨zs, .inr ⟨_, rfl, hl, hm, by simpa using hz, hcell, hwz⟩⟩
  obtain ⟨a2, len2, cap2, rfl⟩ := okWide_slice Try.underlying22 (hval 2 22 v2 rfl rfl)
  have k2 := h2
  have lt2 : ∀ x ∈ p2, x.block < W.heap.size := by obtain ⟨m, hm⟩ := k2; exact DataW.trod_lt m _ _ _ hm
  obtain ⟨z2, w2⟩ : ∃ zs, IsRow .u64 W a2 len2 cap2 zs := by
    obtain ⟨fuel, hf⟩ := h2
    rcases open_ints Try.underlying22 Try.underlying32 (by kernel_rfl) hf with ⟨hcs, _⟩ | ⟨x, l, c, zs, hcs, _, hl, hm, hz, _, hcell, hwz⟩
    · simp [Value.cells] at hcs
      obtain ⟨rfl, rfl, rfl⟩ := hcs
      exact ⟨[], .inl ⟨rfl, rfl, rfl, rfl⟩⟩
    · simp [Value.cells] at hcs
      obtain ⟨rfl, rfl, rfl⟩ := hcs
      exact ⟨zs, .inr ⟨_, rfl, hl, hm, by simpa using hz, hcell, hwz⟩⟩
  clear hA0 hval0
  refine (walk a0 len0 cap0 z0 a1 len1 cap1 z1 a2 len2 cap2 z2 W w0 w1 w2).mono fun e W' ⟨he, bel⟩ => ?_
  subst he
  exact ⟨_, rfl, _, _, _, [], _, [], hW', trodAll_mk1 (shut_bool Try.underlying4 _), (trodAll_cons_mk (Below.trod laidOut (by kernel_rfl) (of_decide_eq_true (by kernel_rfl)) k0 bel lt0) (trodAll_cons_mk (Below.trod laidOut (by kernel_rfl) (of_decide_eq_true (by kernel_rfl)) k1 bel lt1) (trodAll_cons_mk (Below.trod laidOut (by kernel_rfl) (of_decide_eq_true (by kernel_rfl)) k2 bel lt2) trodAll_mk0))), rfl, bel.frame _, fun h => by cases h⟩

theorem over : Rows.quotBackRow.holds Try.pinned (OpenSpec.ofChange Rows.quotBackSpec) :=
  OpenClaim.holds_of_wide 5 Try.f5 rfl rfl rfl rfl rfl rfl rfl ⟨rfl, rfl, rfl, rfl, rfl⟩ rfl rfl rfl rfl rfl (by kernel_rfl) Try.func5 (by kernel_rfl)
    (of_decide_eq_true (by kernel_rfl)) (by unfold Func.isWrapper; first | (rw [if_pos (by decide +kernel)]; kernel_rfl) | (rw [if_neg (by decide +kernel)]; exact ⟨rfl, rfl⟩))
    (fun os started H enc _ => lifted os started H enc)

/-- ████ THE STATEMENT ████ -/
theorem proved : Rows.QuotBackSaid := over
#print axioms proved
end Go.Proofs.Ytopcdpeepchgfaa.quotBack
