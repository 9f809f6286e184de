/-
  THE SHELL OF A PROOF OF 'Rows.NatShiftsSaid' ('plumb/plumblaw02.NatShifts'), WRITTEN BY PROGRAM (proof-skeleton.mjs, third state) off the guide's own print for that function. Not trusted: Lean checks it.
  YOURS IS THE HOLE MARKED 'HOLE' (it bears 'sorry'). ALL ELSE IS THE GUIDE's OWN WAY (howto/template/XProofs.lean; Derived/Test/ChunkProofs.lean for 'Below') at this function's number and types: leave it.
-/
import Derived.Test.YthigofcbmgheeabRows
import Derived.WalkKit
import Derived.ProofKit
import Derived.OpenShut
import Derived.ShutString
import Derived.WalkLawsBesides
import Derived.WalkSpells
import Derived.Deep.RegionWith
import Derived.Deep.DeepCutAuto
import Derived.Deep.DeepFit
import Derived.Test.YthigofcbmgheeabBaseB
import Derived.Test.YthigofcbmgheeabBaseA
import Derived.ChangeOld
import Derived.Below
namespace Go.Proofs.Ythigofcbmgheeab.natShifts
open Go.ChangeShapes Go.WideShapes Go.ChangeAt Go.RowKit
open Go.ChangeMaps (open_string shut_string)
set_option linter.unusedVariables false

theorem own : ownKnob Try.prog.godebug = none := by kernel_rfl
theorem laidOut : laidOutB Try.prog = true := by kernel_rfl

/-- WHAT THE WALK IS TOLD OF A SLICE OF INTEGERS THAT CAME IN: it is nil; or it leads to a row of 'cap' cells, the numbers 'zs' (the first 'len' are its elements, the rest its spare room), each fitting its kind. -/
def IsRow (k : IntKind) (w : World) (a : Option Addr) (len cap : Nat) (zs : List Int) : Prop :=
  (a = none ∧ len = 0 ∧ cap = 0 ∧ zs = []) ∨
  ∃ x, a = some x ∧ len ≤ cap ∧ cap ≤ maxLen ∧ zs.length = cap ∧ (∀ i, i < zs.length → w.cell? (x.add i) = some (.int k (zs.getD i 0))) ∧ ∀ n ∈ zs, (Lit.int k n).wf = true

open Na
/-! ### STEP 1: THE WALK: the Go text returns true, AND WRITES NOTHING THAT WAS THERE: 'Below w.heap.size w w'' (Derived/Below.lean: '.refl', '.alloc', '.drew', '.setCell' at a new block, '.trans'). Open each 'IsRow' by 'rcases' AHEAD of 'go_enter'; part every test ahead of the walk. -/
theorem walk (a0 : Option Addr) (len0 cap0 : Nat) (z0 : List Int) (a1 : Int) (w : World) (w0 : IsRow .u64 w a0 len0 cap0 z0) (w1 : (Lit.int .i64 a1).wf = true) :
    Calls Try.prog 3 #[.slice a0 len0 cap0, .int .i64 a1] w fun e w' => e = .returned (.bool true) ∧ Below w.heap.size w w' := by
  have hrow := row_of w0
  obtain ⟨hr, hx, hm⟩ := hrow
  have hn9 : a1 ≤ 9223372036854775807 := (bounds_i64 w1).2
  clear w0 w1
  generalize z0.take len0 = xs at *
  have hX : Ws (xs.take 60) := hx.take 60
  have hXl : (xs.take 60).length ≤ 60 := by rw [List.length_take]; omega
  go_enter Try.func3, Try.ntmps3
  go_wp2_with fail
  refine (lawCut_any hr hm).mono ?_
  rintro e wa ⟨va, rfl, hownA, hbA⟩
  generalize xs.take 60 = X at *
  obtain ⟨aX, cX, hvX, rX⟩ := hownA.readsC
  rw [hvX]
  have hXl' : X.length ≤ 4000000 := by omega
  have hXl2 : X.length ≤ 100000 := by omega
  obtain ⟨L, hL⟩ : ∃ L, L = X.length := ⟨_, rfl⟩
  rw [← hL] at rX hXl' hXl2 ⊢
  clear hr hx hm hownA hvX hXl hL
  go_wp2_with fail
  refine (natShl_any rX hX hXl' a1 hn9).mono ?_
  rintro e wb ⟨v1, rfl, ho1, hb1⟩
  obtain ⟨a1', c1', hv1, r1⟩ := ho1.readsC
  rw [hv1]
  have rX1 := rX.later hb1
  have B1 := hbA.trans (hb1.mono hbA.size)
  clear ho1 hv1 rX hbA hb1
  go_wp2_with fail
  refine (refShl_any rX1.1 hX hXl2 a1).mono ?_
  rintro e wc ⟨v2, rfl, ho2, hb2⟩
  obtain ⟨a2', c2', hv2, r2⟩ := ho2.readsC
  rw [hv2]
  have rX2 := rX1.later hb2
  have r1b := r1.later hb2
  have B2 := B1.trans (hb2.mono B1.size)
  clear ho2 hv2 rX1 B1 hb2 r1
  go_wp2_with fail
  refine (natShr_any rX2 hX hXl' a1 hn9).mono ?_
  rintro e wd ⟨v3, rfl, ho3, hb3⟩
  obtain ⟨a3', c3', hv3, r3⟩ := ho3.readsC
  rw [hv3]
  have rX3 := rX2.later hb3
  have r1c := r1b.later hb3
  have r2c := r2.later hb3
  have B3 := B2.trans (hb3.mono B2.size)
  clear ho3 hv3 rX2 B2 hb3 r1b r2
  go_wp2_with fail
  refine (refShr_any rX3.1 hX hXl2 a1 hn9).mono ?_
  rintro e we ⟨v4, rfl, ho4, hb4⟩
  obtain ⟨a4', c4', hv4, r4⟩ := ho4.readsC
  rw [hv4]
  have rX4 := rX3.later hb4
  have r1d := r1c.later hb4
  have r2d := r2c.later hb4
  have r3d := r3.later hb4
  have B4 := B3.trans (hb4.mono B3.size)
  have s1 := shlL_len (num X) a1
  have s2 := shrL_len (num X) a1
  have s1' : (shlL (num X) a1).length ≤ 5000 := by omega
  have s2' : (shrL (num X) a1).length ≤ 5000 := by omega
  clear ho4 hv4 rX3 B3 hb4 r1c r2c r3 s1 s2
  go_wp2_with fail
  refine (lawTold_any r1d.1 r2d.1 s1' s1' rfl).mono ?_
  rintro e wf ⟨rfl, hb5⟩
  have rX5 := rX4.later hb5
  have r3e := r3d.later hb5
  have r4e := r4.later hb5
  have B5 := B4.trans (hb5.mono B4.size)
  clear rX4 r1d r2d r3d r4 B4 hb5
  go_wp2_with fail
  refine (lawTold_any r3e.1 r4e.1 s2' s2' rfl).mono ?_
  rintro e wg ⟨rfl, hb6⟩
  have rX6 := rX5.later hb6
  have B6 := B5.trans (hb6.mono B5.size)
  clear rX5 r3e r4e B5 hb6
  have tb : (shrB (num X) a1 != shrB (num X) a1) = false := by simp
  go_wp2_with fail
  refine (natBits_any rX6 hX hXl').mono ?_
  rintro e wh ⟨rfl, hb7⟩
  have rX7 := rX6.later hb7
  have B7 := B6.trans (hb7.mono B6.size)
  clear rX6 B6 hb7
  go_wp2_with fail
  refine (refBits_any rX7.1 hX hXl2).mono ?_
  rintro e wi ⟨rfl, hb8⟩
  have rX8 := rX7.later hb8
  have B8 := B7.trans (hb8.mono B7.size)
  clear rX7 B7 hb8
  go_wp2_with fail
  refine (natBit_any rX8 hX hXl' a1 hn9).mono ?_
  rintro e wj ⟨rfl, hb9⟩
  have rX9 := rX8.later hb9
  have B9 := B8.trans (hb9.mono B8.size)
  clear rX8 B8 hb9
  go_wp2_with fail
  refine (refBit_any rX9.1 hX hXl2 a1 hn9).mono ?_
  rintro e wk ⟨rfl, hb10⟩
  have rX10 := rX9.later hb10
  have B10 := B9.trans (hb10.mono B9.size)
  clear rX9 B9 hb10
  go_wp2_with fail
  refine (natZeros_any rX10 hX hXl').mono ?_
  rintro e wl ⟨rfl, hb11⟩
  have rX11 := rX10.later hb11
  have B11 := B10.trans (hb11.mono B10.size)
  clear rX10 B10 hb11
  go_wp2_with fail
  refine (refZeros_any rX11.1 hX hXl2).mono ?_
  rintro e wm ⟨rfl, hb12⟩
  have B12 := B11.trans (hb12.mono B11.size)
  clear rX11 B11 hb12
  go_wp2
  go_ret
  exact ⟨rfl, B12⟩

/-! ### THE ROW's STEP: WRITTEN OUT: LEAVE IT -/
set_option maxRecDepth 100000 in
theorem lifted (os : Os) (started : os.Started) (H : Type) (enc : TypeId × Value → H) :
    ReturnsInHanded {} Try.checked os 3 .any (Rows.natShiftsSpec.pre6 enc Try.prog Try.f3 Rows.natShiftsRow.domain false) (Rows.natShiftsSpec.post enc Try.prog Try.f3 false true false false) := by
  refine returnsInHanded_of_change (C := Try.checked) own started (by kernel_rfl) Try.func3
    (ChangeSpec.witness6 (enc := enc) (C := Try.checked) false ⟨#[], #[.slice none 0 0, .int .i64 0], []⟩ 8 (by kernel_rfl) (by kernel_rfl) (by kernel_rfl) (by kernel_rfl)) ?_
  intro W base args ds gs before hval0 hW hcnd _
  have hval : ∀ (j : Nat) t v, Try.f3.params[j]? = some t → args[j]? = some v → Value.okWide Try.prog W .any base t v := hval0
  have hW' := hW
  obtain ⟨p, q, hA0, hV, rfl, hfz, hnd⟩ := hW
  have hA : DataW.TrodAll enc Try.prog W 0 (fun _ => true) true Try.f3.params.toList args.toList ds p := hA0
  rw [Try.params3] at hA hval
  obtain ⟨v0, vs0, d0, ds0, p0, q0, hargs, rfl, rfl, h0, r0⟩ := trodAll_cons hA
  obtain ⟨v1, vs1, d1, ds1, p1, q1, rfl, rfl, rfl, h1, r1⟩ := trodAll_cons r0
  obtain ⟨rfl, rfl, rfl⟩ := trodAll_nil r1
  obtain rfl : args = #[v0, v1] := by cases args; simp_all
  obtain ⟨rfl, rfl⟩ := trodVars_none hV
  obtain ⟨a0, len0, cap0, rfl⟩ := okWide_slice Try.underlying22 (hval 0 22 v0 rfl rfl)
  have k0 := h0
  have lt0 : ∀ x ∈ p0, x.block < W.heap.size := by obtain ⟨m, hm⟩ := k0; exact DataW.trod_lt m _ _ _ hm
  obtain ⟨z0, w0⟩ : ∃ zs, IsRow .u64 W a0 len0 cap0 zs := by
    obtain ⟨fuel, hf⟩ := h0
    rcases open_ints Try.underlying22 Try.underlying47 (by kernel_rfl) hf with ⟨hcs, _⟩ | ⟨x, l, c, zs, hcs, _, hl, hm, hz, _, hcell, hwz⟩
    · simp [Value.cells] at hcs
      obtain ⟨rfl, rfl, rfl⟩ := hcs
      exact ⟨[], .inl ⟨rfl, rfl, rfl, rfl⟩⟩
    · simp [Value.cells] at hcs
      obtain ⟨rfl, rfl, rfl⟩ := hcs
      exact ⟨zs, .inr ⟨_, rfl, hl, hm, by simpa using hz, hcell, hwz⟩⟩
  obtain ⟨a1, rfl, rfl, rfl, w1⟩ := open_int Try.underlying3 (hval 1 3 v1 rfl rfl) h1
  clear hA0 hval0
  refine (walk a0 len0 cap0 z0 a1 W w0 w1).mono fun e W' ⟨he, bel⟩ => ?_
  subst he
  exact ⟨_, rfl, _, _, _, [], _, [], hW', trodAll_mk1 (shut_bool Try.underlying4 _), (trodAll_cons_mk (Below.trod laidOut (by kernel_rfl) (of_decide_eq_true (by kernel_rfl)) k0 bel lt0) (trodAll_cons_mk (shut_int Try.underlying3 w1) trodAll_mk0)), rfl, bel.frame _, fun h => by cases h⟩

theorem over : Rows.natShiftsRow.holds Try.pinned (OpenSpec.ofChange Rows.natShiftsSpec) :=
  OpenClaim.holds_of_wide 3 Try.f3 rfl rfl rfl rfl rfl rfl rfl ⟨rfl, rfl, rfl, rfl, rfl⟩ rfl rfl rfl rfl rfl (by kernel_rfl) Try.func3 (by kernel_rfl)
    (of_decide_eq_true (by kernel_rfl)) (by unfold Func.isWrapper; first | (rw [if_pos (by decide +kernel)]; kernel_rfl) | (rw [if_neg (by decide +kernel)]; exact ⟨rfl, rfl⟩))
    (fun os started H enc _ => lifted os started H enc)

/-- ████ THE STATEMENT ████ -/
theorem proved : Rows.NatShiftsSaid := over
#print axioms proved
end Go.Proofs.Ythigofcbmgheeab.natShifts
