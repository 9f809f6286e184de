/- NearSticky. -/
import Derived.Test.YtildkknpbpdnnaaDoorCards
import Derived.Test.YtildkknpbpdnnaaDoorTie
import Derived.Deep.DeepHandedRow
import Derived.Lay
import Derived.LaidSub
import Derived.LaidHandle
import Derived.LaidLaws
import Derived.Stop.Joined
import Derived.SevenTiedAt
import Derived.WalkKit
import Derived.ProofKit
import Derived.OpenShut
import Derived.ShutString
import Derived.ChangeOld
import Derived.Below
import Derived.WalkLawsBesides
import Derived.Test.YtildkknpbpdnnaaDoorNearStW
namespace Go.Proofs.YtildkknpbpdnnaaDoor.nearSticky
open Go.ChangeShapes Go.WideShapes Go.ChangeAt Go.RowKit
open Na Ar
set_option linter.unusedVariables false

theorem own : ownKnob Tryd.prog.godebug = none := by kernel_rfl
theorem laidOut : laidOutB Tryd.prog = true := by kernel_rfl
set_option maxRecDepth 100000
theorem bulk_one {H : Type} (d : DataW H) : 1 ≤ Rows.uptoBulk d := by
  cases d with
  | lit l => cases l <;> simp [Rows.uptoBulk]
  | nil => simp [Rows.uptoBulk]
  | ptr d => simp [Rows.uptoBulk]
  | slice elems spare => simp [Rows.uptoBulk]
  | agg parts => simp [Rows.uptoBulk]
  | iface t d => simp [Rows.uptoBulk]
  | map entries => simp [Rows.uptoBulk]
  | held h => simp [Rows.uptoBulk]
theorem bulk_length {H : Type} (l : List (DataW H)) : l.length ≤ Rows.uptoBulkAll l := by
  induction l with
  | nil => simp [Rows.uptoBulkAll]
  | cons x r ih => have := bulk_one x; simp only [Rows.uptoBulkAll, List.length_cons]; omega
theorem bulk_in {H : Type} {d : DataW H} {l : List (DataW H)} (h : d ∈ l) : Rows.uptoBulk d ≤ Rows.uptoBulkAll l := by
  induction l with
  | nil => cases h
  | cons x r ih =>
    simp only [Rows.uptoBulkAll]
    rcases List.mem_cons.1 h with rfl | h
    · omega
    · have := ih h; omega
theorem cells_su : Tryd.prog.cellsOf 22 = 1 := by kernel_rfl
theorem cells_bool : Tryd.prog.cellsOf 4 = 1 := by kernel_rfl
theorem cells_int : Tryd.prog.cellsOf 3 = 1 := by kernel_rfl
theorem open_list {H : Type} {enc : TypeId × Value → H} {w : World} {base fuel : Nat} {spare : Nat → Bool} {held : Bool} {cs : Value} {x : DataW H × List MemPlace} (hf : DataW.trod enc Tryd.prog w base spare held fuel 22 [cs] = some x) (hsp : ∀ g, spare g = true) :
    ∃ a n c xs, cs = .slice a n c ∧ RowC w a n c xs ∧ Ws xs ∧ n ≤ Rows.uptoBulk x.1 := by
  rcases open_ints Tryd.underlying22 Tryd.underlying26 (by kernel_rfl) hf with ⟨hcs, _⟩ | ⟨y, l, c, zs, hcs, _, hl, hm, hz, hdd, hcell, hwz⟩
  · simp at hcs
    subst hcs
    obtain ⟨r1, r2, r3⟩ := row_of (w := w) (a := none) (len := 0) (cap := 0) (zs := []) (.inl ⟨rfl, rfl, rfl, rfl⟩)
    exact ⟨none, 0, 0, _, rfl, ⟨r1, Nat.le_refl _, Nat.zero_le _⟩, r2, Nat.zero_le _⟩
  · simp at hcs
    subst hcs
    rw [if_pos (hsp _)] at hz
    obtain ⟨r1, r2, r3⟩ := row_of (cap := c) (zs := zs) (.inr ⟨_, rfl, hl, hm, hz, hcell, hwz⟩)
    refine ⟨some y, l, c, _, rfl, ⟨r1, hl, hm⟩, r2, ?_⟩
    rw [hdd]
    simp only [Rows.uptoBulk]
    have := bulk_length (H := H) (lits .u64 (zs.take l))
    simp [lits] at this ⊢
    omega
theorem cells_scale : Tryd.prog.cellsOf 24 = 4 := by kernel_rfl
theorem open_scale {H : Type} {enc : TypeId × Value → H} {w : World} {r : Reach} {base b0 : Nat} {spare : Nat → Bool} {held : Bool} {v : Value} {d : DataW H} {p : List MemPlace}
    (hv : Value.okWide Tryd.prog w r b0 24 v) (h : DataW.Trod enc Tryd.prog w base spare held 24 v d p) (hall : ∀ g, spare g = true) :
    ∃ s a n c, ∃ x : Int, ∃ k xs, v = .agg #[.bool s, .slice a n c, .int .i64 x, .bool k] ∧ RowC w a n c xs ∧ Ws xs ∧ n ≤ Rows.uptoBulk d ∧ (-9223372036854775808 ≤ x ∧ x ≤ 9223372036854775807) := by
  obtain ⟨cs, rfl, hsz⟩ := okWide_struct Tryd.underlying24 hv
  obtain ⟨fuel, hf⟩ := h
  obtain ⟨xs, m, _, hd, hl, hx, hi⟩ := DataW.trod_struct Tryd.underlying24 hf
  rw [cells_scale] at hsz
  obtain ⟨c0, c1, c2, c3, rfl⟩ : ∃ c0 c1 c2 c3, cs = #[c0, c1, c2, c3] := by
    match cs, hsz with
    | ⟨[c0, c1, c2, c3]⟩, _ => exact ⟨c0, c1, c2, c3, rfl⟩
  have i0 := hi 0 _ rfl
  have i1 := hi 1 _ rfl
  have i2 := hi 2 _ rfl
  have i3 := hi 3 _ rfl
  match xs, hx with
  | [x0, x1, x2, x3], _ =>
    simp [Value.cells, cells_su, cells_bool, cells_int] at i0 i1 i2 i3
    obtain ⟨s, e0, _⟩ := DataW.trod_bool Tryd.underlying4 i0
    simp at e0
    subst e0
    obtain ⟨k, e3, _⟩ := DataW.trod_bool Tryd.underlying4 i3
    simp at e3
    subst e3
    obtain ⟨x, e2, _, hw⟩ := DataW.trod_int Tryd.underlying3 i2
    simp at e2
    subst e2
    simp only [Lit.wf, Bool.and_eq_true, decide_eq_true_eq] at hw
    have h1 : IntKind.i64.min = -9223372036854775808 := rfl
    have h2 : IntKind.i64.max = 9223372036854775807 := rfl
    obtain ⟨a, n, c, us, rfl, r1, r2, r3⟩ := open_list i1 hall
    simp only [Prod.mk.injEq] at hd
    have hbk : Rows.uptoBulk d = Rows.uptoBulk x0.1 + (Rows.uptoBulk x1.1 + (Rows.uptoBulk x2.1 + (Rows.uptoBulk x3.1 + 0))) + 1 := by rw [hd.1]; simp only [List.map, Rows.uptoBulk, Rows.uptoBulkAll]
    exact ⟨s, a, n, c, x, k, us, rfl, r1, r2, by omega, by omega, by omega⟩
theorem gv : Tryd.prog.globalNamed "plumb/near.stayAtGreatest" = some 0 := by kernel_rfl
theorem gvt : (Tryd.prog.globals[0]?).map (·.type) = some 85 := by kernel_rfl
theorem cells_tab : Tryd.prog.cellsOf 85 = 10 := by kernel_rfl
theorem cells_tabs : Tryd.prog.cellsOf 84 = 2 := by kernel_rfl
theorem open_tabs {w : World} {base fuel : Nat} {spare : Nat → Bool} {held : Bool} {x y : Value} {s t : Bool} {p : List MemPlace} (hf : DataW.trod (H := Unit) (fun _ => ()) Tryd.prog w base spare held fuel 84 [x, y] = some (.agg [.lit (.bool s), .lit (.bool t)], p)) : x = .bool s ∧ y = .bool t := by
  obtain ⟨xs, m, _, hd, hl, hx, hi⟩ := DataW.trod_struct Tryd.underlying84 hf
  have i0 := hi 0 _ rfl
  have i1 := hi 1 _ rfl
  match xs, hx with
  | [x0, x1], _ =>
    simp [cells_bool] at i0 i1
    obtain ⟨b0, e0, f0⟩ := DataW.trod_bool Tryd.underlying4 i0
    obtain ⟨b1, e1, f1⟩ := DataW.trod_bool Tryd.underlying4 i1
    simp at e0 e1
    subst e0 e1 f0 f1
    simp at hd
    exact ⟨by rw [hd.1.1], by rw [hd.1.2]⟩
theorem grVar_of {W : World} (h : laidMetH Tryd.prog Rows.nearStickyRow.laid W) : GrVar W := by
  obtain ⟨ps, hl, _, _⟩ := (laidMetH_iff.1 h).1
  obtain ⟨g, t, cs, fuel, p, q, e1, e2, e3, e4, _, _⟩ : DataW.LaidVars Tryd.prog W [("plumb/near.stayAtGreatest", Rows.laid_plumb_near_stayAtGreatest)] ps := hl
  obtain rfl := Option.some.inj (gv.symm.trans e1)
  obtain rfl := Option.some.inj (gvt.symm.trans e2)
  obtain ⟨xs, m, _, hd, hlen, hx, hi⟩ := DataW.trod_array Tryd.underlying85 e4
  rw [cells_tab] at hlen
  obtain ⟨c0, c1, c2, c3, c4, c5, c6, c7, c8, c9, rfl⟩ : ∃ c0 c1 c2 c3 c4 c5 c6 c7 c8 c9, cs = #[c0, c1, c2, c3, c4, c5, c6, c7, c8, c9] := by
    match cs, hlen with
    | ⟨[c0, c1, c2, c3, c4, c5, c6, c7, c8, c9]⟩, _ => exact ⟨c0, c1, c2, c3, c4, c5, c6, c7, c8, c9, rfl⟩
  have i0 := hi 0 (by omega)
  have i1 := hi 1 (by omega)
  have i2 := hi 2 (by omega)
  have i3 := hi 3 (by omega)
  have i4 := hi 4 (by omega)
  match xs, hx with
  | [(d0, p0), (d1, p1), (d2, p2), (d3, p3), (d4, p4)], _ =>
    simp only [Rows.laid_plumb_near_stayAtGreatest, List.map, Prod.mk.injEq, DataW.agg.injEq, List.cons.injEq] at hd
    obtain ⟨⟨rfl, rfl, rfl, rfl, rfl, _⟩, _⟩ := hd
    simp only [cells_tabs] at i0 i1 i2 i3 i4
    obtain ⟨rfl, rfl⟩ := open_tabs (i0 : _ = some _)
    obtain ⟨rfl, rfl⟩ := open_tabs (i1 : _ = some _)
    obtain ⟨rfl, rfl⟩ := open_tabs (i2 : _ = some _)
    obtain ⟨rfl, rfl⟩ := open_tabs (i3 : _ = some _)
    obtain ⟨rfl, rfl⟩ := open_tabs (i4 : _ = some _)
    have hc := World.var?_cell gv e3
    exact ⟨⟨hc 0, hc 1⟩, ⟨hc 2, hc 3⟩, ⟨hc 4, hc 5⟩, ⟨hc 6, hc 7⟩, hc 8, hc 9⟩
theorem reads (os : Os) {H : Type} (enc : TypeId × Value → H) : ∃ places, DataW.whole enc Tryd.prog ((World.laidAll Tryd.prog os Rows.nearStickyRow.laid).forCall (fun _ _ => 0) ⟨#[], #[.agg #[.bool false, .slice none 0 0, .int .i64 0, .bool false]], []⟩).memory Tryd.f4.params.toList Rows.nearStickySpec.vars false (#[.agg #[.bool false, .slice none 0 0, .int .i64 0, .bool false]] : Array Value).toList 8 = some ([.agg [.lit (.bool false), .nil, .lit (.int .i64 0), .lit (.bool false)]], [], places) :=
  ⟨[], by kernel_rfl⟩
theorem lifted (os : Os) (started : os.Started) (H : Type) (enc : TypeId × Value → H) (F : Stop.Interp) :
    ReturnsInHanded {} Tryd.checked os 4 .any ((OpenSpec.ofChange Rows.nearStickySpec).preRow enc Tryd.prog Tryd.f4 Rows.nearStickyRow.domain false Rows.nearStickyRow.laid) (((OpenSpec.ofChange Rows.nearStickySpec).at F).post enc Tryd.prog Tryd.f4 false true false false) := by
  obtain ⟨places, hx⟩ := reads os enc
  refine returnsInHanded_of_row (C := Tryd.checked) (s := (OpenSpec.ofChange Rows.nearStickySpec)) own started (by kernel_rfl) Tryd.func4
    (witness_row_at (enc := enc) (C := Tryd.checked) false (World.laidAll Tryd.prog os Rows.nearStickyRow.laid) #[.agg #[.bool false, .slice none 0 0, .int .i64 0, .bool false]] (World.laidAll_os _ _ _) (by kernel_rfl) (by kernel_rfl) (by kernel_rfl)
      (OpenSpec.preRow_of_cond 8 hx (by kernel_rfl) (fun k hk => by cases hk) (by kernel_rfl) (laidMet_laidAll _ (by kernel_rfl) (by kernel_rfl)))) ?_
  intro W base args ds gs before hval0 hW _ hcond _ hL _ _
  have hval : ∀ (j : Nat) t v, Tryd.f4.params[j]? = some t → args[j]? = some v → Value.okWide Tryd.prog W .any base t v := hval0
  have hW' := hW
  obtain ⟨p, q, hA0, hV, rfl, hfz, hnd⟩ := hW
  have hA : DataW.TrodAll enc Tryd.prog W 0 (fun _ => true) true Tryd.f4.params.toList args.toList ds p := hA0
  rw [Tryd.params4] at hA hval
  obtain ⟨v0, vs0, d0, ds0, p0, q0, hargs, rfl, rfl, h0, r0⟩ := trodAll_cons hA
  obtain ⟨rfl, rfl, rfl⟩ := trodAll_nil r0
  obtain rfl : args = #[v0] := by cases args; simp_all
  obtain ⟨rfl, rfl⟩ := trodVars_none hV
  have k0 := h0
  have lt0 : ∀ x ∈ p0, x.block < W.heap.size := by obtain ⟨m, hm⟩ := k0; exact DataW.trod_lt m _ _ _ hm
  obtain ⟨s0, a0, n0, c0, x0, z0, xs0, rfl, ha0, hx0, sa0, G0⟩ := open_scale (hval 0 24 v0 rfl rfl) h0 (fun _ => rfl)
  clear hA0 hval0
  simp only [List.append_nil] at hW'
  refine (sticky_walk ha0 hx0 G0 (grVar_of hL)).mono fun e W' ⟨he, bel⟩ => ?_
  subst he
  exact ⟨_, rfl, _, _, _, [], _, [], hW', trodAll_mk1 (shut_bool Tryd.underlying4 _), (trodAll_cons_mk (Below.trod laidOut (by kernel_rfl) (of_decide_eq_true (by kernel_rfl)) k0 bel lt0) trodAll_mk0), rfl, bel.frame _, fun h => by cases h⟩
theorem over : Rows.nearStickyRow.holds Tryd.pinned (OpenSpec.ofChange Rows.nearStickySpec) :=
  OpenClaim.holds_of_cond 4 Tryd.f4 rfl rfl rfl rfl rfl rfl rfl ⟨rfl, rfl, rfl, rfl, rfl⟩ rfl rfl rfl rfl rfl (by kernel_rfl) Tryd.func4 (by kernel_rfl)
    (of_decide_eq_true (by kernel_rfl)) (by unfold Func.isWrapper; first | (rw [if_pos (by decide +kernel)]; kernel_rfl) | (rw [if_neg (by decide +kernel)]; exact ⟨rfl, rfl⟩))
    (fun os started H enc _ F => by rw [OpenClaim.pre_eq_preRow]; exact lifted os started H enc F)
theorem plain (f : FuncId) (fn : Func) (hf : Tryd.pinned.checked.prog.funcNamed "plumb/plumblaw07.NearSticky" = some f) (hfn : Tryd.pinned.checked.prog.funcs[f]? = some fn) :
    true = Tryd.pinned.checked.prog.looks [] ∧ ∀ (j : Nat) t, fn.params[j]? = some t → Tryd.pinned.checked.prog.wantsStandIn t = false := by
  obtain rfl : f = 4 := Option.some.inj ((show Tryd.prog.funcNamed "plumb/plumblaw07.NearSticky" = some 4 by kernel_rfl).symm.trans hf) |>.symm
  obtain rfl : fn = Tryd.f4 := (Option.some.inj (Tryd.func4.symm.trans hfn)).symm
  refine ⟨by kernel_rfl, fun j t ht => ?_⟩
  rw [Tryd.params4] at ht
  have hall : ∀ t ∈ (Tryd.f4.params).toList, Tryd.prog.wantsStandIn t = false := by
    rw [Tryd.params4]
    intro t ht
    simp only [List.mem_cons, List.mem_nil_iff, or_false] at ht
    rcases ht with rfl <;> kernel_rfl
  exact hall t (by rw [Tryd.params4]; exact Array.mem_toList_iff.mpr (Array.mem_of_getElem? ht))
/-- the statement -/
theorem proved : Rows.NearStickyCardSaid :=
  Claim7.holds_tied_plain_at .later [] _ _ _ _ over (fun _ h => by cases h) (by kernel_rfl) (fun _ h => by cases h) nearSticky_row_tie rfl ⟨rfl, rfl⟩ (by kernel_rfl) rfl plain (by kernel_rfl)
#print axioms proved
end Go.Proofs.YtildkknpbpdnnaaDoor.nearSticky
