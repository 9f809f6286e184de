/- RatDoes. -/
import Derived.Test.YtopcdpeepchgfacGreatRows
import Derived.WalkKit
import Derived.ProofKit
import Derived.OpenShut
import Derived.ShutString
import Derived.ChangeOld
import Derived.Below
import Derived.WalkLawsBesides
import Derived.Test.YtopcdpeepchgfacGreatRatDoeW
namespace Go.Proofs.YtopcdpeepchgfacGreat
open Go.ChangeShapes Go.WideShapes Go.ChangeAt Go.RowKit
open Na Ar
set_option linter.unusedVariables false
theorem cells_ratA : Tryz.prog.cellsOf 24 = 3 := by kernel_rfl
theorem cells_su : Tryz.prog.cellsOf 22 = 1 := by kernel_rfl
theorem cells_bool : Tryz.prog.cellsOf 4 = 1 := by kernel_rfl
set_option maxRecDepth 100000 in
theorem open_rat {H : Type} {enc : TypeId × Value → H} {w : World} {r : Reach} {base b0 : Nat} {spare : Nat → Bool} {held : Bool} {v : Value} {d : DataW H} {p : List MemPlace}
    (hv : Value.okWide Tryz.prog w r b0 24 v) (h : DataW.Trod enc Tryz.prog w base spare held 24 v d p) (hall : ∀ g, spare g = true) :
    ∃ s a n c b m e xs ys, v = .agg #[.bool s, .slice a n c, .slice b m e] ∧ RowAt .u64 w a n xs ∧ Ws xs ∧ n ≤ maxLen ∧ RowAt .u64 w b m ys ∧ Ws ys ∧ m ≤ maxLen := by
  obtain ⟨cs, rfl, hsz⟩ := okWide_struct Tryz.underlying24 hv
  obtain ⟨fuel, hf⟩ := h
  obtain ⟨xs, m, _, _, hl, hx, hi⟩ := DataW.trod_struct Tryz.underlying24 hf
  rw [cells_ratA] at hsz
  obtain ⟨c0, c1, c2, rfl⟩ : ∃ c0 c1 c2, cs = #[c0, c1, c2] := by
    match cs, hsz with
    | ⟨[c0, c1, c2]⟩, _ => exact ⟨c0, c1, c2, rfl⟩
  have i0 := hi 0 _ rfl
  have i1 := hi 1 _ rfl
  have i2 := hi 2 _ rfl
  match xs, hx with
  | [x0, x1, x2], _ =>
    simp [Value.cells, cells_su, cells_bool] at i0 i1 i2
    obtain ⟨s, e0, _⟩ := DataW.trod_bool Tryz.underlying4 i0
    simp at e0
    subst e0
    have sl : ∀ {cs : Value} {x : DataW H × List MemPlace}, DataW.trod enc Tryz.prog w base spare held m 22 [cs] = some x → (∀ g, spare g = true) → ∃ a n c xs, cs = .slice a n c ∧ RowAt .u64 w a n xs ∧ Ws xs ∧ n ≤ maxLen := by
      intro cs x hf hsp
      rcases open_ints Tryz.underlying22 Tryz.underlying53 (by kernel_rfl) hf with ⟨hcs, _⟩ | ⟨x, l, c, zs, hcs, _, hl, hm, hz, _, hcell, hwz⟩
      · simp at hcs
        subst hcs
        exact ⟨none, 0, 0, _, rfl, row_of (cap := 0) (zs := []) (.inl ⟨rfl, rfl, rfl, rfl⟩)⟩
      · simp at hcs
        subst hcs
        rw [if_pos (hsp _)] at hz
        exact ⟨some x, l, c, _, rfl, row_of (cap := c) (zs := zs) (.inr ⟨_, rfl, hl, hm, hz, hcell, hwz⟩)⟩
    obtain ⟨a, n, c, us, rfl, r1, r2, r3⟩ := sl i1 hall
    obtain ⟨b, k, e, vs, rfl, q1, q2, q3⟩ := sl i2 hall
    exact ⟨s, a, n, c, b, k, e, us, vs, rfl, r1, r2, r3, q1, q2, q3⟩
end Go.Proofs.YtopcdpeepchgfacGreat
namespace Go.Proofs.YtopcdpeepchgfacGreat.ratDoes
open Go.ChangeShapes Go.WideShapes Go.ChangeAt Go.RowKit
open Ar
set_option linter.unusedVariables false

theorem own : ownKnob Tryz.prog.godebug = none := by kernel_rfl
theorem laidOut : laidOutB Tryz.prog = true := by kernel_rfl

set_option maxRecDepth 100000 in
theorem lifted (os : Os) (started : os.Started) (H : Type) (enc : TypeId × Value → H) :
    ReturnsInHanded {} Tryz.checked os 3 .any (Rows.ratDoesSpec.pre6 enc Tryz.prog Tryz.f3 Rows.ratDoesRow.domain false) (Rows.ratDoesSpec.post enc Tryz.prog Tryz.f3 false true false false) := by
  refine returnsInHanded_of_change (C := Tryz.checked) own started (by kernel_rfl) Tryz.func3
    (ChangeSpec.witness6 (enc := enc) (C := Tryz.checked) false ⟨#[], #[.agg #[.bool false, .slice none 0 0, .slice none 0 0], .agg #[.bool false, .slice none 0 0, .slice none 0 0]], []⟩ 8 (by kernel_rfl) (by kernel_rfl) (by kernel_rfl) (by kernel_rfl)) ?_
  intro W base args ds gs before hval0 hW hcnd _
  have hval : ∀ (j : Nat) t v, Tryz.f3.params[j]? = some t → args[j]? = some v → Value.okWide Tryz.prog W .any base t v := hval0
  have hW' := hW
  obtain ⟨p, q, hA0, hV, rfl, hfz, hnd⟩ := hW
  have hA : DataW.TrodAll enc Tryz.prog W 0 (fun _ => true) true Tryz.f3.params.toList args.toList ds p := hA0
  rw [Tryz.params3] at hA hval
  obtain ⟨v0, vs0, d0, ds0, p0, q0, hargs, rfl, rfl, h0, r0⟩ := trodAll_cons hA
  obtain ⟨v1, vs1, d1, ds1, p1, q1, rfl, rfl, rfl, h1, r1⟩ := trodAll_cons r0
  obtain ⟨rfl, rfl, rfl⟩ := trodAll_nil r1
  obtain rfl : args = #[v0, v1] := by cases args; simp_all
  obtain ⟨rfl, rfl⟩ := trodVars_none hV
  have k0 := h0
  have lt0 : ∀ x ∈ p0, x.block < W.heap.size := by obtain ⟨m, hm⟩ := k0; exact DataW.trod_lt m _ _ _ hm
  obtain ⟨s0, a0, n0, c0, b0, m0, e0, xs0, ys0, rfl, ha0, hx0, hn0, hb0, hy0, hm0⟩ := open_rat (hval 0 24 v0 rfl rfl) h0 (fun _ => rfl)
  have k1 := h1
  have lt1 : ∀ x ∈ p1, x.block < W.heap.size := by obtain ⟨m, hm⟩ := k1; exact DataW.trod_lt m _ _ _ hm
  obtain ⟨s1, a1, n1, c1, b1, m1, e1, xs1, ys1, rfl, ha1, hx1, hn1, hb1, hy1, hm1⟩ := open_rat (hval 1 24 v1 rfl rfl) h1 (fun _ => rfl)
  clear hA0 hval0
  refine (does_walk ha0 hb0 hx0 hy0 hn0 hm0 ha1 hb1 hx1 hy1 hn1 hm1).mono fun e W' ⟨he, bel⟩ => ?_
  subst he
  exact ⟨_, rfl, _, _, _, [], _, [], hW', trodAll_mk1 (shut_bool Tryz.underlying4 _), (trodAll_cons_mk (Below.trod laidOut (by kernel_rfl) (of_decide_eq_true (by kernel_rfl)) k0 bel lt0) (trodAll_cons_mk (Below.trod laidOut (by kernel_rfl) (of_decide_eq_true (by kernel_rfl)) k1 bel lt1) trodAll_mk0)), rfl, bel.frame _, fun h => by cases h⟩

theorem over : Rows.ratDoesRow.holds Tryz.pinned (OpenSpec.ofChange Rows.ratDoesSpec) :=
  OpenClaim.holds_of_wide 3 Tryz.f3 rfl rfl rfl rfl rfl rfl rfl ⟨rfl, rfl, rfl, rfl, rfl⟩ rfl rfl rfl rfl rfl (by kernel_rfl) Tryz.func3 (by kernel_rfl)
    (of_decide_eq_true (by kernel_rfl)) (by unfold Func.isWrapper; first | (rw [if_pos (by decide +kernel)]; kernel_rfl) | (rw [if_neg (by decide +kernel)]; exact ⟨rfl, rfl⟩))
    (fun os started H enc _ => lifted os started H enc)

theorem proved : Rows.RatDoesSaid := over
#print axioms proved
end Go.Proofs.YtopcdpeepchgfacGreat.ratDoes
