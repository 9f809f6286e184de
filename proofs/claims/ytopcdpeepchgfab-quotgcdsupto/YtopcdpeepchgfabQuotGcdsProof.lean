/-
  THE SHELL OF A PROOF OF 'Rows.QuotGcdsSaid' ('plumb/plumblaw03.QuotGcds'), WRITTEN BY PROGRAM (proof-skeleton.mjs, third state) off the guide's own print for that function. Not trusted: Lean checks it.
  YOURS IS THE HOLE MARKED 'HOLE' (it bears 'sorry'). ALL ELSE IS THE GUIDE's OWN WAY (howto/template/XProofs.lean; Derived/Test/ChunkProofs.lean for 'Below') at this function's number and types: leave it.
-/
import Derived.Test.YtopcdpeepchgfabRows
import Derived.WalkKit
import Derived.ProofKit
import Derived.OpenShut
import Derived.ShutString
import Derived.JoinedCond
import Derived.WalkLawsBesides
import Derived.WalkSpells
import Derived.Deep.RegionWith
import Derived.Deep.DeepCutAuto
import Derived.Deep.DeepFit
import Derived.Test.YtopcdpeepchgfabLawGcds
import Derived.Test.YtopcdpeepchgfabLawEx
import Derived.ChangeOld
import Derived.Below
namespace Go.Proofs.Ytopcdpeepchgfab.quotGcds
open Go.ChangeShapes Go.WideShapes Go.ChangeAt Go.RowKit
open Go.ChangeMaps (open_string shut_string)
set_option linter.unusedVariables false

theorem own : ownKnob Try.prog.godebug = none := by kernel_rfl
theorem laidOut : laidOutB Try.prog = true := by kernel_rfl

/-- WHAT THE WALK IS TOLD OF A SLICE OF INTEGERS THAT CAME IN: it is nil; or it leads to a row of 'cap' cells, the numbers 'zs' (the first 'len' are its elements, the rest its spare room), each fitting its kind. -/
def IsRow (k : IntKind) (w : World) (a : Option Addr) (len cap : Nat) (zs : List Int) : Prop :=
  (a = none ∧ len = 0 ∧ cap = 0 ∧ zs = []) ∨
  ∃ x, a = some x ∧ len ≤ cap ∧ cap ≤ maxLen ∧ zs.length = cap ∧ (∀ i, i < zs.length → w.cell? (x.add i) = some (.int k (zs.getD i 0))) ∧ ∀ n ∈ zs, (Lit.int k n).wf = true

open Na Ar
theorem bulk_part {H : Type} {d : DataW H} {l : List (DataW H)} (h : d ∈ l) : Rows.uptoBulk d ≤ Rows.uptoBulkAll l := by
  induction l with
  | nil => cases h
  | cons x r ih =>
    simp only [Rows.uptoBulkAll]
    cases List.mem_cons.1 h with
    | inl e => subst e; omega
    | inr e => have := ih e; omega
theorem bulk_one {H : Type} (d : DataW H) : 1 ≤ Rows.uptoBulk d := by
  cases d with
  | lit l => cases l <;> simp [Rows.uptoBulk]
  | nil => simp [Rows.uptoBulk]
  | ptr d => simp [Rows.uptoBulk]
  | slice elems spare => simp [Rows.uptoBulk]
  | agg parts => simp [Rows.uptoBulk]
  | iface t d => simp [Rows.uptoBulk]
  | map entries => simp [Rows.uptoBulk]
  | held h => simp [Rows.uptoBulk]
theorem bulk_length {H : Type} (l : List (DataW H)) : l.length ≤ Rows.uptoBulkAll l := by
  induction l with
  | nil => simp [Rows.uptoBulkAll]
  | cons x r ih => have := bulk_one x; simp only [Rows.uptoBulkAll, List.length_cons]; omega
theorem bulk_slice {H : Type} {el sp l : List (DataW H)} (hk : Rows.uptoSmall H l = true) (h : DataW.slice el sp ∈ l) : el.length ≤ 1048576 := by
  have b : Rows.uptoBulkAll l ≤ 1048576 := of_decide_eq_true hk
  have p := bulk_part h
  have q := bulk_length el
  simp only [Rows.uptoBulk] at p
  omega
theorem bulk_string {H : Type} {bs : List UInt8} {l : List (DataW H)} (hk : Rows.uptoSmall H l = true) (h : DataW.lit (.string bs) ∈ l) : bs.length ≤ 1048576 := by
  have b : Rows.uptoBulkAll l ≤ 1048576 := of_decide_eq_true hk
  have p := bulk_part h
  simp only [Rows.uptoBulk] at p
  omega

/-! ### STEP 1: THE WALK: the Go text returns true, AND WRITES NOTHING THAT WAS THERE: 'Below w.heap.size w w'' (Derived/Below.lean: '.refl', '.alloc', '.drew', '.setCell' at a new block, '.trans'). Open each 'IsRow' by 'rcases' AHEAD of 'go_enter'; part every test ahead of the walk. -/
set_option maxHeartbeats 6400000 in
set_option maxRecDepth 100000 in
theorem walk (a0 : Option Addr) (len0 cap0 : Nat) (z0 : List Int) (a1 : Option Addr) (len1 cap1 : Nat) (z1 : List Int) (w : World) (w0 : IsRow .u64 w a0 len0 cap0 z0) (w1 : IsRow .u64 w a1 len1 cap1 z1) (s0 : len0 ≤ 1048576) (s1 : len1 ≤ 1048576) :
    Calls Try.prog 5 #[.slice a0 len0 cap0, .slice a1 len1 cap1] w fun e w' => e = .returned (.bool true) ∧ Below w.heap.size w w' := by
  obtain ⟨hc0, hx0⟩ := rowC_of w0
  obtain ⟨hd0, hy0⟩ := rowC_of w1
  clear w0 w1
  generalize z0.take len0 = x0 at *
  generalize z1.take len1 = y0 at *
  have hX0 := num_nonneg hx0
  have hY0 := num_nonneg hy0
  have lx := hc0.1.1
  have ly := hd0.1.1
  have B_0 := Below.refl w.heap.size w
  obtain ⟨S, hS⟩ := hasRoot hX0
  have rl := root_len hS hX0
  have wl := words_le hx0
  have gl := gcd_len hx0 hy0
  have gn : 0 ≤ (Int.gcd (num x0) (num y0) : Int) := by omega
  have q1 := quoL_len hx0 gn
  have q2 := quoL_len hy0 gn
  go_enter Try.func5, Try.ntmps5
  go_wp2_with fail
  refine (lentQ hc0.1 (by omega)).mono ?_
  rintro e wt1 ⟨la, lc, rfl, hl1, hu1, hlc, hb1⟩
  have hc1 := hc0.later hb1
  have hd1 := hd0.later hb1
  have hB1 := B_0.trans (hb1.mono B_0.size)
  clear hc0 hd0
  go_wp2_with fail
  refine (lentQ hd1.1 (by omega)).mono ?_
  rintro e wt2 ⟨ma, mc, rfl, hm2, hv2, hmc, hb2⟩
  have hc2 := hc1.later hb2
  have hd2 := hd1.later hb2
  have hl2 := hl1.later hb2
  have hu2 := hu1.later hb2
  have hB2 := hB1.trans (hb2.mono hB1.size)
  clear hc1 hd1 hl1 hu1
  have bd := below_drewN (Below.refl wt2.heap.size wt2) 1
  have hc3 : RowC wt2.drew _ _ _ _ := hc2.later bd
  have hd3 : RowC wt2.drew _ _ _ _ := hd2.later bd
  have hl3 : RowC wt2.drew _ _ _ _ := hl2.later bd
  have hm3 : RowC wt2.drew _ _ _ _ := hm2.later bd
  have hu3 : RowC wt2.drew _ _ _ _ := hu2.later bd
  have hv3 : RowC wt2.drew _ _ _ _ := hv2.later bd
  have k1 := gcdX hu3 hv3 hx0 hy0 (by omega) (by omega)
  have k2 := fun (w : World) (h1 : RowAt .u64 w a0 len0 x0) (h2 : RowAt .u64 w a1 len1 y0) => ref3Gcd_any (c1 := cap0) (c2 := cap1) h1 h2 hx0 hy0 (by omega) (by omega)
  have k3 := fun (w : World) (h1 : RowAt .u64 w a0 len0 x0) (h2 : RowAt .u64 w a1 len1 y0) => ref3Lowest_any (c1 := cap0) (c2 := cap1) h1 h2 hx0 hy0 (by omega) (by omega)
  have k4 := fun (w : World) (h1 : RowC w la len0 lc x0) (h2 : RowC w ma len1 mc y0) => lowestX h1 h2 hx0 hy0 (by omega) (by omega)
  have k5 := fun (w : World) (h1 : RowC w la len0 lc x0) => rootX h1 hx0 (by omega) hS
  have k6 := fun (w : World) (h1 : RowAt .u64 w a0 len0 x0) => ref3RootX (c1 := cap0) h1 hx0 (by omega) hS
  generalize quoL (num x0) (Int.gcd (num x0) (num y0) : Int) = Q1 at *
  generalize quoL (num y0) (Int.gcd (num x0) (num y0) : Int) = Q2 at *
  generalize words (Int.gcd (num x0) (num y0) : Int) = GL at *
  generalize decide (S * S = num x0) = just at *
  generalize words S = RL at *
  go_upto_region 3 with (fail)
  go_cut [44] from 19 to 43 (fun c wx => c = .bool false ∧ Below wt2.heap.size wt2 wx)
  case first =>
    go_region_with (first
      | (go_at_call 18; refine k1.mono ?_; rintro e wa ⟨ga, gl, gc, rfl, hga, hba⟩)
      | (go_at_call 25; refine (k2 _ (hc3.later hba).1 (hd3.later hba).1).mono ?_; rintro e wb ⟨ra, rn, rc, rfl, hrb, hbb⟩)
      | (go_at_call 19; refine (sameN (hga.later hbb) hrb (by omega) (by omega) rfl).mono ?_; rintro e wc ⟨rfl, hbc⟩)
      | (go_at_call 26; go_fit (kept_any (((hl3.later hba).later hbb).later hbc) (((hc3.later hba).later hbb).later hbc) (by omega)); rintro e wd ⟨rfl, hbd⟩)
      | (go_at_call 26; go_fit (kept_any ((((hm3.later hba).later hbb).later hbc).later hbd) ((((hd3.later hba).later hbb).later hbc).later hbd) (by omega)); rintro e we ⟨rfl, hbe⟩))
    all_goals (go_wp2_with fail; go_meet; exact ⟨rfl, (((((bd.trans hba).trans (hbb.mono (Nat.le_trans bd.size hba.size))).trans (hbc.mono (Nat.le_trans (Nat.le_trans bd.size hba.size) hbb.size))).trans (hbd.mono (Nat.le_trans (Nat.le_trans (Nat.le_trans bd.size hba.size) hbb.size) hbc.size))).trans (hbe.mono (Nat.le_trans (Nat.le_trans (Nat.le_trans (Nat.le_trans bd.size hba.size) hbb.size) hbc.size) hbd.size)))⟩)
  obtain ⟨rfl, hb3⟩ := hcut
  obtain ⟨wt3, hw3⟩ : ∃ w3, w3 = wc := ⟨_, rfl⟩
  subst hw3
  clear hc3 hd3 hl3 hm3 hu3 hv3 k1 k2 bd
  have hB3 := hB2.trans (hb3.mono hB2.size)
  have hc3 := hc2.later hb3
  have hd3 := hd2.later hb3
  have hl3 := hl2.later hb3
  have hm3 := hm2.later hb3
  have hu3 := hu2.later hb3
  have hv3 := hv2.later hb3
  clear hc2 hd2 hl2 hm2 hu2 hv2
  have bd := below_drewN (Below.refl wt3.heap.size wt3) 1
  have hu4 : RowC wt3.drew _ _ _ _ := hu3.later bd
  have hv4 : RowC wt3.drew _ _ _ _ := hv3.later bd
  have k7 := k4 _ hu4 hv4
  clear hu4 hv4
  go_upto_region 5 with (fail)
  go_cut [7, 8] from 45 to 56 (fun p q wx => ∃ pa pn pc qa qn qc, p = .slice pa pn pc ∧ q = .slice qa qn qc ∧ RowC wx pa pn pc Q1 ∧ RowC wx qa qn qc Q2 ∧ Below wt3.heap.size wt3 wx)
  case first =>
    go_region_with (go_at_call 21; refine k7.mono ?_; rintro e wm ⟨pa, pn, pc, qa, qn, qc, rfl, hp9, hq9, hgm⟩)
    all_goals (go_wp2_with fail; go_meet; exact ⟨pa, pn, pc, qa, qn, qc, rfl, rfl, hp9, hq9, bd.trans hgm⟩)
  obtain ⟨pa, pn, pc, qa, qn, qc, rfl, rfl, hp4, hq4, hb4⟩ := hcut
  obtain ⟨wt4, hw4⟩ : ∃ w4, w4 = wc := ⟨_, rfl⟩
  subst hw4
  clear k7 bd hv3
  have hB4 := hB3.trans (hb4.mono hB3.size)
  have hc4 := hc3.later hb4
  have hd4 := hd3.later hb4
  have hl4 := hl3.later hb4
  have hm4 := hm3.later hb4
  have hu4 := hu3.later hb4
  clear hc3 hd3 hl3 hm3 hu3
  go_wp2_with fail
  refine (k3 _ hc4.1 hd4.1).mono ?_
  rintro e wt5 ⟨sa, sn, sc, ta, tn, tc, rfl, hs5, ht5, hb5⟩
  have hc5 := hc4.later hb5
  have hd5 := hd4.later hb5
  have hl5 := hl4.later hb5
  have hm5 := hm4.later hb5
  have hu5 := hu4.later hb5
  have hp5 := hp4.later hb5
  have hq5 := hq4.later hb5
  have hB5 := hB4.trans (hb5.mono hB4.size)
  clear hc4 hd4 hl4 hm4 hu4 hp4 hq4
  go_wp2_with fail
  refine (k5 _ hu5).mono ?_
  rintro e wt6 ⟨ua, un, uc, rfl, hr6, hb6⟩
  have hc6 := hc5.later hb6
  have hd6 := hd5.later hb6
  have hl6 := hl5.later hb6
  have hm6 := hm5.later hb6
  have hp6 := hp5.later hb6
  have hq6 := hq5.later hb6
  have hs6 := hs5.later hb6
  have ht6 := ht5.later hb6
  have hB6 := hB5.trans (hb6.mono hB5.size)
  clear hc5 hd5 hl5 hm5 hu5 hp5 hq5 hs5 ht5
  go_wp2_with fail
  refine (k6 _ hc6.1).mono ?_
  rintro e wt7 ⟨va, vn, vc, rfl, hw7, hb7⟩
  have hc7 := hc6.later hb7
  have hd7 := hd6.later hb7
  have hl7 := hl6.later hb7
  have hm7 := hm6.later hb7
  have hp7 := hp6.later hb7
  have hq7 := hq6.later hb7
  have hs7 := hs6.later hb7
  have ht7 := ht6.later hb7
  have hr7 := hr6.later hb7
  have hB7 := hB6.trans (hb7.mono hB6.size)
  clear hc6 hd6 hl6 hm6 hp6 hq6 hs6 ht6 hr6
  go_wp2_with fail
  refine (sameN hp7 hs7 (by omega) (by omega) rfl).mono ?_
  rintro e wt8 ⟨rfl, hb8⟩
  have hc8 := hc7.later hb8
  have hd8 := hd7.later hb8
  have hl8 := hl7.later hb8
  have hm8 := hm7.later hb8
  have hq8 := hq7.later hb8
  have ht8 := ht7.later hb8
  have hr8 := hr7.later hb8
  have hw8 := hw7.later hb8
  have hB8 := hB7.trans (hb8.mono hB7.size)
  clear hc7 hd7 hl7 hm7 hp7 hq7 hs7 ht7 hr7 hw7
  go_wp2_with fail
  refine (sameN hq8 ht8 (by omega) (by omega) rfl).mono ?_
  rintro e wt9 ⟨rfl, hb9⟩
  have hc9 := hc8.later hb9
  have hd9 := hd8.later hb9
  have hl9 := hl8.later hb9
  have hm9 := hm8.later hb9
  have hr9 := hr8.later hb9
  have hw9 := hw8.later hb9
  have hB9 := hB8.trans (hb9.mono hB8.size)
  clear hc8 hd8 hl8 hm8 hq8 ht8 hr8 hw8
  go_wp2_with fail
  refine (sameN hr9 hw9 (by omega) (by omega) rfl).mono ?_
  rintro e wt10 ⟨rfl, hb10⟩
  have hc10 := hc9.later hb10
  have hd10 := hd9.later hb10
  have hl10 := hl9.later hb10
  have hm10 := hm9.later hb10
  have hB10 := hB9.trans (hb10.mono hB9.size)
  clear hc9 hd9 hl9 hm9 hr9 hw9
  go_wp2_with fail
  refine (kept_any hl10 hc10 (by omega)).mono ?_
  rintro e wt11 ⟨rfl, hb11⟩
  have hd11 := hd10.later hb11
  have hm11 := hm10.later hb11
  have hB11 := hB10.trans (hb11.mono hB10.size)
  clear hc10 hd10 hl10 hm10
  go_wp2_with fail
  refine (kept_any hm11 hd11 (by omega)).mono ?_
  rintro e wt12 ⟨rfl, hb12⟩
  have hB12 := hB11.trans (hb12.mono hB11.size)
  clear hd11 hm11
  go_wp2
  go_ret
  exact ⟨rfl, hB12⟩

/-! ### THE ROW's STEP: WRITTEN OUT: LEAVE IT -/
set_option maxRecDepth 100000 in
theorem lifted (os : Os) (started : os.Started) (H : Type) (enc : TypeId × Value → H) (F : Stop.Interp) :
    ReturnsInHanded {} Try.checked os 5 .any ((Rows.OpenSpec.upto Rows.quotGcdsSpec).pre6 enc Try.prog Try.f5 Rows.quotGcdsUptoRow.domain false) (((Rows.OpenSpec.upto Rows.quotGcdsSpec).at F).post enc Try.prog Try.f5 false true false false) := by
  refine returnsInHanded_of_cond (C := Try.checked) (s := Rows.OpenSpec.upto Rows.quotGcdsSpec) (k := Rows.uptoSmall) rfl own started (by kernel_rfl) Try.func5
    (OpenSpec.witness (enc := enc) (C := Try.checked) (s := Rows.OpenSpec.upto Rows.quotGcdsSpec) (k := Rows.uptoSmall) rfl false ⟨#[], #[.slice none 0 0, .slice none 0 0], []⟩ 8 (by kernel_rfl) (by kernel_rfl) (by kernel_rfl)
      (x := ([.nil, .nil], [], [])) (by kernel_rfl) rfl (by kernel_rfl)) ?_
  intro W base args ds gs before hval0 hW hcnd hk _
  have hval : ∀ (j : Nat) t v, Try.f5.params[j]? = some t → args[j]? = some v → Value.okWide Try.prog W .any base t v := hval0
  have hW' := hW
  obtain ⟨p, q, hA0, hV, rfl, hfz, hnd⟩ := hW
  have hA : DataW.TrodAll enc Try.prog W 0 (fun _ => true) true Try.f5.params.toList args.toList ds p := hA0
  rw [Try.params5] at hA hval
  obtain ⟨v0, vs0, d0, ds0, p0, q0, hargs, rfl, rfl, h0, r0⟩ := trodAll_cons hA
  obtain ⟨v1, vs1, d1, ds1, p1, q1, rfl, rfl, rfl, h1, r1⟩ := trodAll_cons r0
  obtain ⟨rfl, rfl, rfl⟩ := trodAll_nil r1
  obtain rfl : args = #[v0, v1] := by cases args; simp_all
  obtain ⟨rfl, rfl⟩ := trodVars_none hV
  obtain ⟨a0, len0, cap0, rfl⟩ := okWide_slice Try.underlying22 (hval 0 22 v0 rfl rfl)
  have k0 := h0
  have lt0 : ∀ x ∈ p0, x.block < W.heap.size := by obtain ⟨m, hm⟩ := k0; exact DataW.trod_lt m _ _ _ hm
  obtain ⟨z0, w0, s0⟩ : ∃ zs, IsRow .u64 W a0 len0 cap0 zs ∧ len0 ≤ 1048576 := by
    obtain ⟨fuel, hf⟩ := h0
    rcases open_ints Try.underlying22 Try.underlying31 (by kernel_rfl) hf with ⟨hcs, _⟩ | ⟨x, l, c, zs, hcs, _, hl, hm, hz, hdd, hcell, hwz⟩
    · simp [Value.cells] at hcs
      obtain ⟨rfl, rfl, rfl⟩ := hcs
      exact ⟨[], .inl ⟨rfl, rfl, rfl, rfl⟩, by omega⟩
    · simp [Value.cells] at hcs
      obtain ⟨rfl, rfl, rfl⟩ := hcs
      simp only [Prod.mk.injEq] at hdd
      have hbk := bulk_slice hk (List.mem_append_left _ (by rw [hdd.1]; first | exact List.Mem.head _ | exact List.Mem.tail _ (List.Mem.head _) | exact List.Mem.tail _ (List.Mem.tail _ (List.Mem.head _))))
      have hzl := hz
      simp only [if_true] at hzl
      refine ⟨zs, .inr ⟨_, rfl, hl, hm, by simpa using hz, hcell, hwz⟩, ?_⟩
      simp [lits] at hbk
      omega
  obtain ⟨a1, len1, cap1, rfl⟩ := okWide_slice Try.underlying22 (hval 1 22 v1 rfl rfl)
  have k1 := h1
  have lt1 : ∀ x ∈ p1, x.block < W.heap.size := by obtain ⟨m, hm⟩ := k1; exact DataW.trod_lt m _ _ _ hm
  obtain ⟨z1, w1, s1⟩ : ∃ zs, IsRow .u64 W a1 len1 cap1 zs ∧ len1 ≤ 1048576 := by
    obtain ⟨fuel, hf⟩ := h1
    rcases open_ints Try.underlying22 Try.underlying31 (by kernel_rfl) hf with ⟨hcs, _⟩ | ⟨x, l, c, zs, hcs, _, hl, hm, hz, hdd, hcell, hwz⟩
    · simp [Value.cells] at hcs
      obtain ⟨rfl, rfl, rfl⟩ := hcs
      exact ⟨[], .inl ⟨rfl, rfl, rfl, rfl⟩, by omega⟩
    · simp [Value.cells] at hcs
      obtain ⟨rfl, rfl, rfl⟩ := hcs
      simp only [Prod.mk.injEq] at hdd
      have hbk := bulk_slice hk (List.mem_append_left _ (by rw [hdd.1]; first | exact List.Mem.head _ | exact List.Mem.tail _ (List.Mem.head _) | exact List.Mem.tail _ (List.Mem.tail _ (List.Mem.head _))))
      have hzl := hz
      simp only [if_true] at hzl
      refine ⟨zs, .inr ⟨_, rfl, hl, hm, by simpa using hz, hcell, hwz⟩, ?_⟩
      simp [lits] at hbk
      omega
  clear hA0 hval0
  refine (walk a0 len0 cap0 z0 a1 len1 cap1 z1 W w0 w1 s0 s1).mono fun e W' ⟨he, bel⟩ => ?_
  subst he
  exact ⟨_, rfl, _, _, _, [], _, [], hW', trodAll_mk1 (shut_bool Try.underlying4 _), (trodAll_cons_mk (Below.trod laidOut (by kernel_rfl) (of_decide_eq_true (by kernel_rfl)) k0 bel lt0) (trodAll_cons_mk (Below.trod laidOut (by kernel_rfl) (of_decide_eq_true (by kernel_rfl)) k1 bel lt1) trodAll_mk0)), rfl, bel.frame _, fun h => by cases h⟩

theorem over : Rows.quotGcdsUptoRow.holds Try.pinned (Rows.OpenSpec.upto Rows.quotGcdsSpec) :=
  OpenClaim.holds_of_cond 5 Try.f5 rfl rfl rfl rfl rfl rfl rfl ⟨rfl, rfl, rfl, rfl, rfl⟩ rfl rfl rfl rfl rfl (by kernel_rfl) Try.func5 (by kernel_rfl)
    (of_decide_eq_true (by kernel_rfl)) (by unfold Func.isWrapper; first | (rw [if_pos (by decide +kernel)]; kernel_rfl) | (rw [if_neg (by decide +kernel)]; exact ⟨rfl, rfl⟩))
    (fun os started H enc _ F => lifted os started H enc F)

/-- ████ THE STATEMENT ████ -/
theorem proved : Rows.QuotGcdsUptoSaid := over
#print axioms proved
end Go.Proofs.Ytopcdpeepchgfab.quotGcds
