/-
  THE SHELL OF A PROOF OF 'Rows.QuotDivsSaid' ('plumb/plumblaw03.QuotDivs'), WRITTEN BY PROGRAM (proof-skeleton.mjs, third state) off the guide's own print for that function. Not trusted: Lean checks it.
  YOURS IS THE HOLE MARKED 'HOLE' (it bears 'sorry'). ALL ELSE IS THE GUIDE's OWN WAY (howto/template/XProofs.lean; Derived/Test/ChunkProofs.lean for 'Below') at this function's number and types: leave it.
-/
import Derived.Test.YtopcdpeepchgfaaRows
import Derived.WalkKit
import Derived.ProofKit
import Derived.OpenShut
import Derived.ShutString
import Derived.JoinedCond
import Derived.WalkLawsBesides
import Derived.WalkSpells
import Derived.Deep.RegionWith
import Derived.Deep.DeepCutAuto
import Derived.Deep.DeepFit
import Derived.Test.YtopcdpeepchgfaaLawDivs
import Derived.ChangeOld
import Derived.Below
namespace Go.Proofs.Ytopcdpeepchgfaa.quotDivs
open Go.ChangeShapes Go.WideShapes Go.ChangeAt Go.RowKit
open Go.ChangeMaps (open_string shut_string)
set_option linter.unusedVariables false

theorem own : ownKnob Try.prog.godebug = none := by kernel_rfl
theorem laidOut : laidOutB Try.prog = true := by kernel_rfl

/-- WHAT THE WALK IS TOLD OF A SLICE OF INTEGERS THAT CAME IN: it is nil; or it leads to a row of 'cap' cells, the numbers 'zs' (the first 'len' are its elements, the rest its spare room), each fitting its kind. -/
def IsRow (k : IntKind) (w : World) (a : Option Addr) (len cap : Nat) (zs : List Int) : Prop :=
  (a = none ∧ len = 0 ∧ cap = 0 ∧ zs = []) ∨
  ∃ x, a = some x ∧ len ≤ cap ∧ cap ≤ maxLen ∧ zs.length = cap ∧ (∀ i, i < zs.length → w.cell? (x.add i) = some (.int k (zs.getD i 0))) ∧ ∀ n ∈ zs, (Lit.int k n).wf = true

open Na Ar
theorem bulk_part {H : Type} {d : DataW H} {l : List (DataW H)} (h : d ∈ l) : Rows.uptoBulk d ≤ Rows.uptoBulkAll l := by
  induction l with
  | nil => cases h
  | cons x r ih =>
    simp only [Rows.uptoBulkAll]
    cases List.mem_cons.1 h with
    | inl e => subst e; omega
    | inr e => have := ih e; omega
theorem bulk_one {H : Type} (d : DataW H) : 1 ≤ Rows.uptoBulk d := by
  cases d with
  | lit l => cases l <;> simp [Rows.uptoBulk]
  | nil => simp [Rows.uptoBulk]
  | ptr d => simp [Rows.uptoBulk]
  | slice elems spare => simp [Rows.uptoBulk]
  | agg parts => simp [Rows.uptoBulk]
  | iface t d => simp [Rows.uptoBulk]
  | map entries => simp [Rows.uptoBulk]
  | held h => simp [Rows.uptoBulk]
theorem bulk_length {H : Type} (l : List (DataW H)) : l.length ≤ Rows.uptoBulkAll l := by
  induction l with
  | nil => simp [Rows.uptoBulkAll]
  | cons x r ih => have := bulk_one x; simp only [Rows.uptoBulkAll, List.length_cons]; omega
theorem bulk_slice {H : Type} {el sp l : List (DataW H)} (hk : Rows.uptoSmall H l = true) (h : DataW.slice el sp ∈ l) : el.length ≤ 1048576 := by
  have b : Rows.uptoBulkAll l ≤ 1048576 := of_decide_eq_true hk
  have p := bulk_part h
  have q := bulk_length el
  simp only [Rows.uptoBulk] at p
  omega
theorem bulk_string {H : Type} {bs : List UInt8} {l : List (DataW H)} (hk : Rows.uptoSmall H l = true) (h : DataW.lit (.string bs) ∈ l) : bs.length ≤ 1048576 := by
  have b : Rows.uptoBulkAll l ≤ 1048576 := of_decide_eq_true hk
  have p := bulk_part h
  simp only [Rows.uptoBulk] at p
  omega

/-! ### STEP 1: THE WALK: the Go text returns true, AND WRITES NOTHING THAT WAS THERE: 'Below w.heap.size w w'' (Derived/Below.lean: '.refl', '.alloc', '.drew', '.setCell' at a new block, '.trans'). Open each 'IsRow' by 'rcases' AHEAD of 'go_enter'; part every test ahead of the walk. -/
set_option maxHeartbeats 6400000 in
set_option maxRecDepth 100000 in
theorem walk (a0 : Option Addr) (len0 cap0 : Nat) (z0 : List Int) (a1 : Option Addr) (len1 cap1 : Nat) (z1 : List Int) (a2 : Int) (w : World) (w0 : IsRow .u64 w a0 len0 cap0 z0) (w1 : IsRow .u64 w a1 len1 cap1 z1) (w2 : (Lit.int .u64 a2).wf = true) (s0 : len0 ≤ 1048576) (s1 : len1 ≤ 1048576) :
    Calls Try.prog 4 #[.slice a0 len0 cap0, .slice a1 len1 cap1, .int .u64 a2] w fun e w' => e = .returned (.bool true) ∧ Below w.heap.size w w' := by
  have b2 := U_of w2
  obtain ⟨hc0, hx0⟩ := rowC_of w0
  obtain ⟨hd0, hy0⟩ := rowC_of w1
  clear w0 w1 w2
  generalize z0.take len0 = x0 at *
  generalize z1.take len1 = y0 at *
  have hX0 := num_nonneg hx0
  have hY0 := num_nonneg hy0
  have lx := hc0.1.1
  have ly := hd0.1.1
  have B_0 := Below.refl w.heap.size w
  have ql := quoL_len hx0 hY0
  have rl := remL_len hy0 hX0
  have sl := quoL_len hx0 b2.1
  go_enter Try.func4, Try.ntmps4
  go_wp2_with fail
  refine (lentQ hc0.1 (by omega)).mono ?_
  rintro e wt1 ⟨la, lc, rfl, hl1, hu1, hlc, hb1⟩
  have hc1 := hc0.later hb1
  have hd1 := hd0.later hb1
  have hB1 := B_0.trans (hb1.mono B_0.size)
  clear hc0 hd0
  go_wp2_with fail
  refine (lentQ hd1.1 (by omega)).mono ?_
  rintro e wt2 ⟨ma, mc, rfl, hm2, hv2, hmc, hb2⟩
  have hc2 := hc1.later hb2
  have hd2 := hd1.later hb2
  have hl2 := hl1.later hb2
  have hu2 := hu1.later hb2
  have hB2 := hB1.trans (hb2.mono hB1.size)
  have bd := below_drewN (Below.refl wt2.heap.size wt2) 1
  have hu3 : RowC wt2.drew _ _ _ _ := hu2.later bd
  have hv3 : RowC wt2.drew _ _ _ _ := hv2.later bd
  have hdv := divX hu3 hv3 hx0 hy0 (by omega) (by omega)
  have hrf := fun (w : World) (h1 : RowAt .u64 w a0 len0 x0) (h2 : RowAt .u64 w a1 len1 y0) => ref3DivX (c1 := cap0) (c2 := cap1) h1 h2 hx0 hy0 (by omega) (by omega)
  generalize divE (num y0) = E at *
  generalize quoL (num x0) (num y0) = LQ at *
  generalize remL (num x0) (num y0) = LR at *
  clear hc1 hd1 hl1 hu1 hu3 hv3
  go_upto_region 3 with (fail)
  go_cut [9, 10, 11] from 21 to 33 (fun q r e wx => ∃ qa qn qc ra rn rc, q = .slice qa qn qc ∧ r = .slice ra rn rc ∧ e = .int .i64 E ∧ RowC wx qa qn qc LQ ∧ RowC wx ra rn rc LR ∧ Below wt2.heap.size wt2 wx)
  case first =>
    go_region_with (go_at_call 15; refine hdv.mono ?_; rintro e wm ⟨qa, qn, qc, ra, rn, rc, rfl, hq3, hr3, hgm⟩)
    all_goals (go_wp2_with fail; go_meet; exact ⟨qa, qn, qc, ra, rn, rc, rfl, rfl, rfl, hq3, hr3, bd.trans hgm⟩)
  obtain ⟨qa, qn, qc, ra, rn, rc, rfl, rfl, rfl, hq3, hr3, hb3⟩ := hcut
  obtain ⟨wt3, hw3⟩ : ∃ w3, w3 = wc := ⟨_, rfl⟩
  subst hw3
  have hc3 := hc2.later hb3
  have hd3 := hd2.later hb3
  have hl3 := hl2.later hb3
  have hu3 := hu2.later hb3
  have hm3 := hm2.later hb3
  have hB3 := hB2.trans (hb3.mono hB2.size)
  clear hc2 hd2 hl2 hu2 hm2 hv2 hdv bd
  go_wp2_with fail
  refine (hrf _ hc3.1 hd3.1).mono ?_
  rintro e wt4 ⟨sa, sn, sc, ta, tn, tc, rfl, hs4, ht4, hb4⟩
  have hc4 := hc3.later hb4
  have hd4 := hd3.later hb4
  have hl4 := hl3.later hb4
  have hu4 := hu3.later hb4
  have hm4 := hm3.later hb4
  have hq4 := hq3.later hb4
  have hr4 := hr3.later hb4
  have hB4 := hB3.trans (hb4.mono hB3.size)
  clear hc3 hd3 hl3 hu3 hm3 hq3 hr3 hrf
  go_wp2_with fail
  refine (sameN hq4 hs4 (by omega) (by omega) rfl).mono ?_
  rintro e wt5 ⟨rfl, hb5⟩
  have hc5 := hc4.later hb5
  have hd5 := hd4.later hb5
  have hl5 := hl4.later hb5
  have hu5 := hu4.later hb5
  have hm5 := hm4.later hb5
  have hr5 := hr4.later hb5
  have ht5 := ht4.later hb5
  have hB5 := hB4.trans (hb5.mono hB4.size)
  clear hc4 hd4 hl4 hu4 hm4 hq4 hr4 hs4 ht4
  go_wp2_with fail
  refine (sameN hr5 ht5 (by omega) (by omega) rfl).mono ?_
  rintro e wt6 ⟨rfl, hb6⟩
  have hc6 := hc5.later hb6
  have hd6 := hd5.later hb6
  have hl6 := hl5.later hb6
  have hu6 := hu5.later hb6
  have hm6 := hm5.later hb6
  have hB6 := hB5.trans (hb6.mono hB5.size)
  clear hc5 hd5 hl5 hu5 hm5 hr5 ht5
  go_wp2_with fail
  refine (num3_any E _).mono ?_
  rintro e wt7 ⟨rfl, hb7⟩
  have hc7 := hc6.later hb7
  have hd7 := hd6.later hb7
  have hl7 := hl6.later hb7
  have hu7 := hu6.later hb7
  have hm7 := hm6.later hb7
  have hB7 := hB6.trans (hb7.mono hB6.size)
  clear hc6 hd6 hl6 hu6 hm6
  go_wp2_with fail
  refine (kept_any hl7 hc7 (by omega)).mono ?_
  rintro e wt8 ⟨rfl, hb8⟩
  have hc8 := hc7.later hb8
  have hd8 := hd7.later hb8
  have hl8 := hl7.later hb8
  have hu8 := hu7.later hb8
  have hm8 := hm7.later hb8
  have hB8 := hB7.trans (hb8.mono hB7.size)
  clear hc7 hd7 hl7 hu7 hm7
  go_wp2_with fail
  refine (kept_any hm8 hd8 (by omega)).mono ?_
  rintro e wt9 ⟨rfl, hb9⟩
  have hc9 := hc8.later hb9
  have hl9 := hl8.later hb9
  have hu9 := hu8.later hb9
  have hB9 := hB8.trans (hb9.mono hB8.size)
  have hsm := smallX hu9 hx0 b2 (by omega)
  clear hc8 hd8 hl8 hu8 hm8
  have hrf := fun (w : World) (h1 : RowAt .u64 w a0 len0 x0) => ref3SmallX (c1 := cap0) h1 hx0 b2 (by omega)
  generalize divE a2 = F at *
  generalize quoL (num x0) a2 = LS at *
  generalize remW (num x0) a2 = RW at *
  go_wp2_with fail
  refine hsm.mono ?_
  rintro e wt10 ⟨ua, un, uc, rfl, hq10, hb10⟩
  have hc10 := hc9.later hb10
  have hl10 := hl9.later hb10
  have hB10 := hB9.trans (hb10.mono hB9.size)
  clear hc9 hl9 hu9 hsm
  go_wp2_with fail
  refine (hrf _ hc10.1).mono ?_
  rintro e wt11 ⟨va, vn, vc, rfl, hs11, hb11⟩
  have hc11 := hc10.later hb11
  have hl11 := hl10.later hb11
  have hq11 := hq10.later hb11
  have hB11 := hB10.trans (hb11.mono hB10.size)
  clear hc10 hl10 hq10 hrf
  go_wp2_with fail
  refine (sameN hq11 hs11 (by omega) (by omega) rfl).mono ?_
  rintro e wt12 ⟨rfl, hb12⟩
  have hc12 := hc11.later hb12
  have hl12 := hl11.later hb12
  have hB12 := hB11.trans (hb12.mono hB11.size)
  clear hc11 hl11 hq11 hs11
  go_wp2_with fail
  refine (num3_any F _).mono ?_
  rintro e wt13 ⟨rfl, hb13⟩
  have hc13 := hc12.later hb13
  have hl13 := hl12.later hb13
  have hB13 := hB12.trans (hb13.mono hB12.size)
  clear hc12 hl12
  go_wp2_with fail
  refine (kept_any hl13 hc13 (by omega)).mono ?_
  rintro e wt14 ⟨rfl, hb14⟩
  have hB14 := hB13.trans (hb14.mono hB13.size)
  go_wp2
  go_ret
  exact ⟨rfl, hB14⟩

/-! ### THE ROW's STEP: WRITTEN OUT: LEAVE IT -/
set_option maxRecDepth 100000 in
theorem lifted (os : Os) (started : os.Started) (H : Type) (enc : TypeId × Value → H) (F : Stop.Interp) :
    ReturnsInHanded {} Try.checked os 4 .any ((Rows.OpenSpec.upto Rows.quotDivsSpec).pre6 enc Try.prog Try.f4 Rows.quotDivsUptoRow.domain false) (((Rows.OpenSpec.upto Rows.quotDivsSpec).at F).post enc Try.prog Try.f4 false true false false) := by
  refine returnsInHanded_of_cond (C := Try.checked) (s := Rows.OpenSpec.upto Rows.quotDivsSpec) (k := Rows.uptoSmall) rfl own started (by kernel_rfl) Try.func4
    (OpenSpec.witness (enc := enc) (C := Try.checked) (s := Rows.OpenSpec.upto Rows.quotDivsSpec) (k := Rows.uptoSmall) rfl false ⟨#[], #[.slice none 0 0, .slice none 0 0, .int .u64 0], []⟩ 8 (by kernel_rfl) (by kernel_rfl) (by kernel_rfl)
      (x := ([.nil, .nil, .lit (.int .u64 0)], [], [])) (by kernel_rfl) rfl (by kernel_rfl)) ?_
  intro W base args ds gs before hval0 hW hcnd hk _
  have hval : ∀ (j : Nat) t v, Try.f4.params[j]? = some t → args[j]? = some v → Value.okWide Try.prog W .any base t v := hval0
  have hW' := hW
  obtain ⟨p, q, hA0, hV, rfl, hfz, hnd⟩ := hW
  have hA : DataW.TrodAll enc Try.prog W 0 (fun _ => true) true Try.f4.params.toList args.toList ds p := hA0
  rw [Try.params4] at hA hval
  obtain ⟨v0, vs0, d0, ds0, p0, q0, hargs, rfl, rfl, h0, r0⟩ := trodAll_cons hA
  obtain ⟨v1, vs1, d1, ds1, p1, q1, rfl, rfl, rfl, h1, r1⟩ := trodAll_cons r0
  obtain ⟨v2, vs2, d2, ds2, p2, q2, rfl, rfl, rfl, h2, r2⟩ := trodAll_cons r1
  obtain ⟨rfl, rfl, rfl⟩ := trodAll_nil r2
  obtain rfl : args = #[v0, v1, v2] := by cases args; simp_all
  obtain ⟨rfl, rfl⟩ := trodVars_none hV
  obtain ⟨a0, len0, cap0, rfl⟩ := okWide_slice Try.underlying22 (hval 0 22 v0 rfl rfl)
  have k0 := h0
  have lt0 : ∀ x ∈ p0, x.block < W.heap.size := by obtain ⟨m, hm⟩ := k0; exact DataW.trod_lt m _ _ _ hm
  obtain ⟨z0, w0, s0⟩ : ∃ zs, IsRow .u64 W a0 len0 cap0 zs ∧ len0 ≤ 1048576 := by
    obtain ⟨fuel, hf⟩ := h0
    rcases open_ints Try.underlying22 Try.underlying32 (by kernel_rfl) hf with ⟨hcs, _⟩ | ⟨x, l, c, zs, hcs, _, hl, hm, hz, hdd, hcell, hwz⟩
    · simp [Value.cells] at hcs
      obtain ⟨rfl, rfl, rfl⟩ := hcs
      exact ⟨[], .inl ⟨rfl, rfl, rfl, rfl⟩, by omega⟩
    · simp [Value.cells] at hcs
      obtain ⟨rfl, rfl, rfl⟩ := hcs
      simp only [Prod.mk.injEq] at hdd
      have hbk := bulk_slice hk (List.mem_append_left _ (by rw [hdd.1]; first | exact List.Mem.head _ | exact List.Mem.tail _ (List.Mem.head _) | exact List.Mem.tail _ (List.Mem.tail _ (List.Mem.head _))))
      have hzl := hz
      simp only [if_true] at hzl
      refine ⟨zs, .inr ⟨_, rfl, hl, hm, by simpa using hz, hcell, hwz⟩, ?_⟩
      simp [lits] at hbk
      omega
  obtain ⟨a1, len1, cap1, rfl⟩ := okWide_slice Try.underlying22 (hval 1 22 v1 rfl rfl)
  have k1 := h1
  have lt1 : ∀ x ∈ p1, x.block < W.heap.size := by obtain ⟨m, hm⟩ := k1; exact DataW.trod_lt m _ _ _ hm
  obtain ⟨z1, w1, s1⟩ : ∃ zs, IsRow .u64 W a1 len1 cap1 zs ∧ len1 ≤ 1048576 := by
    obtain ⟨fuel, hf⟩ := h1
    rcases open_ints Try.underlying22 Try.underlying32 (by kernel_rfl) hf with ⟨hcs, _⟩ | ⟨x, l, c, zs, hcs, _, hl, hm, hz, hdd, hcell, hwz⟩
    · simp [Value.cells] at hcs
      obtain ⟨rfl, rfl, rfl⟩ := hcs
      exact ⟨[], .inl ⟨rfl, rfl, rfl, rfl⟩, by omega⟩
    · simp [Value.cells] at hcs
      obtain ⟨rfl, rfl, rfl⟩ := hcs
      simp only [Prod.mk.injEq] at hdd
      have hbk := bulk_slice hk (List.mem_append_left _ (by rw [hdd.1]; first | exact List.Mem.head _ | exact List.Mem.tail _ (List.Mem.head _) | exact List.Mem.tail _ (List.Mem.tail _ (List.Mem.head _))))
      have hzl := hz
      simp only [if_true] at hzl
      refine ⟨zs, .inr ⟨_, rfl, hl, hm, by simpa using hz, hcell, hwz⟩, ?_⟩
      simp [lits] at hbk
      omega
  obtain ⟨a2, rfl, rfl, rfl, w2⟩ := open_int Try.underlying32 (hval 2 32 v2 rfl rfl) h2
  clear hA0 hval0
  refine (walk a0 len0 cap0 z0 a1 len1 cap1 z1 a2 W w0 w1 w2 s0 s1).mono fun e W' ⟨he, bel⟩ => ?_
  subst he
  exact ⟨_, rfl, _, _, _, [], _, [], hW', trodAll_mk1 (shut_bool Try.underlying4 _), (trodAll_cons_mk (Below.trod laidOut (by kernel_rfl) (of_decide_eq_true (by kernel_rfl)) k0 bel lt0) (trodAll_cons_mk (Below.trod laidOut (by kernel_rfl) (of_decide_eq_true (by kernel_rfl)) k1 bel lt1) (trodAll_cons_mk (shut_int Try.underlying32 w2) trodAll_mk0))), rfl, bel.frame _, fun h => by cases h⟩

theorem over : Rows.quotDivsUptoRow.holds Try.pinned (Rows.OpenSpec.upto Rows.quotDivsSpec) :=
  OpenClaim.holds_of_cond 4 Try.f4 rfl rfl rfl rfl rfl rfl rfl ⟨rfl, rfl, rfl, rfl, rfl⟩ rfl rfl rfl rfl rfl (by kernel_rfl) Try.func4 (by kernel_rfl)
    (of_decide_eq_true (by kernel_rfl)) (by unfold Func.isWrapper; first | (rw [if_pos (by decide +kernel)]; kernel_rfl) | (rw [if_neg (by decide +kernel)]; exact ⟨rfl, rfl⟩))
    (fun os started H enc _ F => lifted os started H enc F)

/-- ████ THE STATEMENT ████ -/
theorem proved : Rows.QuotDivsUptoSaid := over
#print axioms proved
end Go.Proofs.Ytopcdpeepchgfaa.quotDivs
