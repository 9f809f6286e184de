/- WideBits: shifts, lengths, zeros, order. -/
import Derived.Test.YtdlfffecijimlabRows
import Derived.WalkKit
import Derived.ProofKit
import Derived.OpenShut
import Derived.ShutString
import Derived.ChangeOld
import Derived.Below
import Derived.WalkLawsBesides
import Derived.WalkSpells
import Derived.Laws.StructEq
import Derived.ChangeKeysEq
import Derived.Deep.QuietTactic
import Derived.BigQuiet
import Derived.Test.YtdlfffecijimlabWide
import Derived.Test.YtdlfffecijimlabLens
import Derived.Test.YtdlfffecijimlabShifts
import Derived.Test.YtdlfffecijimlabRefBits
namespace Go.Proofs.Ytdlfffecijimlab.wideBits
open Go.ChangeShapes Go.WideShapes Go.ChangeAt Go.RowKit
open Ar
set_option linter.unusedVariables false

theorem own : ownKnob Try.prog.godebug = none := by kernel_rfl
theorem laidOut : laidOutB Try.prog = true := by kernel_rfl
theorem cells_st : Try.prog.cellsOf 42 = 4 := by kernel_rfl
theorem cells_u64 : Try.prog.cellsOf 22 = 1 := by kernel_rfl
theorem cells_i64 : Try.prog.cellsOf 3 = 1 := by kernel_rfl

theorem open_bits {H : Type} {enc : TypeId × Value → H} {w : World} {r : Reach} {base b0 : Nat} {spare : Nat → Bool} {held : Bool} {v : Value} {d : DataW H} {p : List MemPlace}
    (hv : Value.okWide Try.prog w r b0 42 v) (h : DataW.Trod enc Try.prog w base spare held 42 v d p) :
    ∃ hi lo n x : Int, v = .agg #[.int .u64 hi, .int .u64 lo, .int .i64 n, .int .u64 x] ∧ U hi ∧ U lo ∧ (Lit.int .i64 n).wf = true ∧ U x := by
  obtain ⟨cs, rfl, hsz⟩ := okWide_struct Try.underlying42 hv
  obtain ⟨fuel, hf⟩ := h
  obtain ⟨xs, m, _, _, hl, hx, hi⟩ := DataW.trod_struct Try.underlying42 hf
  rw [cells_st] at hsz
  obtain ⟨c0, c1, c2, c3, rfl⟩ : ∃ c0 c1 c2 c3, cs = #[c0, c1, c2, c3] := by
    match cs, hsz with
    | ⟨[c0, c1, c2, c3]⟩, _ => exact ⟨c0, c1, c2, c3, rfl⟩
  have i0 := hi 0 _ rfl
  have i1 := hi 1 _ rfl
  have i2 := hi 2 _ rfl
  have i3 := hi 3 _ rfl
  match xs, hx with
  | [x0, x1, x2, x3], _ =>
    simp [Value.cells, cells_u64, cells_i64] at i0 i1 i2 i3
    obtain ⟨n0, e0, _, w0⟩ := DataW.trod_int Try.underlying22 i0
    obtain ⟨n1, e1, _, w1⟩ := DataW.trod_int Try.underlying22 i1
    obtain ⟨n2, e2, _, w2⟩ := DataW.trod_int Try.underlying3 i2
    obtain ⟨n3, e3, _, w3⟩ := DataW.trod_int Try.underlying22 i3
    simp at e0 e1 e2 e3
    subst e0 e1 e2 e3
    exact ⟨n0, n1, n2, n3, rfl, U_of w0, U_of w1, w2, U_of w3⟩

theorem walk (hi lo n x : Int) (ha : U hi) (hb : U lo) (hx : U x) (w : World) :
    Calls Try.prog 7 #[.agg #[.int .u64 hi, .int .u64 lo, .int .i64 n, .int .u64 x]] w fun e w' => e = .returned (.bool true) ∧ Below w.heap.size w w' := by
  go_enter Try.func7, Try.ntmps7
  go_wp2
  go_quiet (fail)
  go_wp2_with (first | (go_at_call 17; refine (shl_any ha hb _ _).mono ?_; rintro e w' ⟨rfl, hg1⟩) | (go_at_call 21; refine (refShl_any ha hb _ _).mono ?_; rintro e w' ⟨rfl, rfl⟩) | (go_at_call 18; refine (shr_any ha hb _ _).mono ?_; rintro e w' ⟨rfl, hg2⟩) | (go_at_call 22; refine (refShr_any ha hb _ _).mono ?_; rintro e w' ⟨rfl, rfl⟩) | (go_at_call 23; refine (cmp_any _ _ _ _ _).mono ?_; rintro e w' ⟨_, rfl, rfl, rfl⟩) | (go_at_call 24; refine (refCmp_any _ _ _ _ _).mono ?_; rintro e w' ⟨rfl, rfl⟩) | (go_at_call 19; refine (len_any hx _).mono ?_; rintro e w' ⟨rfl, rfl⟩) | (go_at_call 25; refine (refLen_any hx _).mono ?_; rintro e w' ⟨rfl, rfl⟩) | (go_at_call 20; refine (zeros_any hx _).mono ?_; rintro e w' ⟨_, rfl, rfl, rfl⟩) | (go_at_call 26; refine (refZeros_any hx _).mono ?_; rintro e w' ⟨rfl, rfl⟩))
  go_ret
  exact ⟨rfl, (gr_trans (gr_trans (gr_drewN (gr_alloc (gr_refl _) _ _) _) hg1) hg2).2⟩

set_option maxRecDepth 100000 in
theorem lifted (os : Os) (started : os.Started) (H : Type) (enc : TypeId × Value → H) :
    ReturnsInHanded {} Try.checked os 7 .any (Rows.wideBitsSpec.pre6 enc Try.prog Try.f7 Rows.wideBitsRow.domain false) (Rows.wideBitsSpec.post enc Try.prog Try.f7 false true false false) := by
  refine returnsInHanded_of_change (C := Try.checked) own started (by kernel_rfl) Try.func7
    (ChangeSpec.witness6 (enc := enc) (C := Try.checked) false ⟨#[], #[.agg #[.int .u64 0, .int .u64 0, .int .i64 0, .int .u64 0]], []⟩ 8 (by kernel_rfl) (by kernel_rfl) (by kernel_rfl) (by kernel_rfl)) ?_
  intro W base args ds gs before hval0 hW hcnd _
  have hval : ∀ (j : Nat) t v, Try.f7.params[j]? = some t → args[j]? = some v → Value.okWide Try.prog W .any base t v := hval0
  have hW' := hW
  obtain ⟨p, q, hA0, hV, rfl, hfz, hnd⟩ := hW
  have hA : DataW.TrodAll enc Try.prog W 0 (fun _ => true) true Try.f7.params.toList args.toList ds p := hA0
  rw [Try.params7] at hA hval
  obtain ⟨v0, vs0, d0, ds0, p0, q0, hargs, rfl, rfl, h0, r0⟩ := trodAll_cons hA
  obtain ⟨rfl, rfl, rfl⟩ := trodAll_nil r0
  obtain rfl : args = #[v0] := by cases args; simp_all
  obtain ⟨rfl, rfl⟩ := trodVars_none hV
  have lt0 : ∀ x ∈ p0, x.block < W.heap.size := by obtain ⟨m, hm⟩ := h0; exact DataW.trod_lt m _ _ _ hm
  obtain ⟨hi, lo, n, x, rfl, ha, hb, hn, hx⟩ := open_bits (hval 0 42 v0 rfl rfl) h0
  clear hA0 hval0
  refine (walk hi lo n x ha hb hx W).mono fun e W' ⟨he, bel⟩ => ?_
  subst he
  exact ⟨_, rfl, _, _, _, [], _, [], hW', trodAll_mk1 (shut_bool Try.underlying4 _), (trodAll_cons_mk (Below.trod laidOut (by kernel_rfl) (of_decide_eq_true (by kernel_rfl)) h0 bel lt0) trodAll_mk0), rfl, bel.frame _, fun h => by cases h⟩

theorem over : Rows.wideBitsRow.holds Try.pinned (OpenSpec.ofChange Rows.wideBitsSpec) :=
  OpenClaim.holds_of_wide 7 Try.f7 rfl rfl rfl rfl rfl rfl rfl ⟨rfl, rfl, rfl, rfl, rfl⟩ rfl rfl rfl rfl rfl (by kernel_rfl) Try.func7 (by kernel_rfl)
    (of_decide_eq_true (by kernel_rfl)) (by unfold Func.isWrapper; first | (rw [if_pos (by decide +kernel)]; kernel_rfl) | (rw [if_neg (by decide +kernel)]; exact ⟨rfl, rfl⟩))
    (fun os started H enc _ => lifted os started H enc)

theorem proved : Rows.WideBitsSaid := over
#print axioms proved
end Go.Proofs.Ytdlfffecijimlab.wideBits
