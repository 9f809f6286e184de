/- NearMiddles. -/
import Derived.Test.YtildkknpbpdnnabGreatDoorCards
import Derived.Test.YtildkknpbpdnnabGreatDoorTie
import Derived.Deep.DeepHandedRow
import Derived.Lay
import Derived.LaidSub
import Derived.LaidHandle
import Derived.LaidLaws
import Derived.Stop.Joined
import Derived.SevenTiedAt
import Derived.WalkKit
import Derived.ProofKit
import Derived.OpenShut
import Derived.ShutString
import Derived.ChangeOld
import Derived.Below
import Derived.WalkLawsBesides
import Derived.Test.YtildkknpbpdnnabGreatDoorNearMdW
namespace Go.Proofs.YtildkknpbpdnnabGreatDoor.nearMiddles
open Go.ChangeShapes Go.WideShapes Go.ChangeAt Go.RowKit
open Na Ar
set_option linter.unusedVariables false

theorem own : ownKnob Tryz.prog.godebug = none := by kernel_rfl
theorem laidOut : laidOutB Tryz.prog = true := by kernel_rfl
set_option maxRecDepth 100000
theorem bulk_one {H : Type} (d : DataW H) : 1 ≤ Rows.uptoBulk d := by
  cases d with
  | lit l => cases l <;> simp [Rows.uptoBulk]
  | nil => simp [Rows.uptoBulk]
  | ptr d => simp [Rows.uptoBulk]
  | slice elems spare => simp [Rows.uptoBulk]
  | agg parts => simp [Rows.uptoBulk]
  | iface t d => simp [Rows.uptoBulk]
  | map entries => simp [Rows.uptoBulk]
  | held h => simp [Rows.uptoBulk]
theorem bulk_length {H : Type} (l : List (DataW H)) : l.length ≤ Rows.uptoBulkAll l := by
  induction l with
  | nil => simp [Rows.uptoBulkAll]
  | cons x r ih => have := bulk_one x; simp only [Rows.uptoBulkAll, List.length_cons]; omega
theorem bulk_in {H : Type} {d : DataW H} {l : List (DataW H)} (h : d ∈ l) : Rows.uptoBulk d ≤ Rows.uptoBulkAll l := by
  induction l with
  | nil => cases h
  | cons x r ih =>
    simp only [Rows.uptoBulkAll]
    rcases List.mem_cons.1 h with rfl | h
    · omega
    · have := ih h; omega
theorem cells_su : Tryz.prog.cellsOf 23 = 1 := by kernel_rfl
theorem cells_bool : Tryz.prog.cellsOf 4 = 1 := by kernel_rfl
theorem cells_int : Tryz.prog.cellsOf 3 = 1 := by kernel_rfl
theorem open_list {H : Type} {enc : TypeId × Value → H} {w : World} {base fuel : Nat} {spare : Nat → Bool} {held : Bool} {cs : Value} {x : DataW H × List MemPlace} (hf : DataW.trod enc Tryz.prog w base spare held fuel 23 [cs] = some x) (hsp : ∀ g, spare g = true) :
    ∃ a n c xs, cs = .slice a n c ∧ RowC w a n c xs ∧ Ws xs ∧ n ≤ Rows.uptoBulk x.1 := by
  rcases open_ints Tryz.underlying23 Tryz.underlying22 (by kernel_rfl) hf with ⟨hcs, _⟩ | ⟨y, l, c, zs, hcs, _, hl, hm, hz, hdd, hcell, hwz⟩
  · simp at hcs
    subst hcs
    obtain ⟨r1, r2, r3⟩ := row_of (w := w) (a := none) (len := 0) (cap := 0) (zs := []) (.inl ⟨rfl, rfl, rfl, rfl⟩)
    exact ⟨none, 0, 0, _, rfl, ⟨r1, Nat.le_refl _, Nat.zero_le _⟩, r2, Nat.zero_le _⟩
  · simp at hcs
    subst hcs
    rw [if_pos (hsp _)] at hz
    obtain ⟨r1, r2, r3⟩ := row_of (cap := c) (zs := zs) (.inr ⟨_, rfl, hl, hm, hz, hcell, hwz⟩)
    refine ⟨some y, l, c, _, rfl, ⟨r1, hl, hm⟩, r2, ?_⟩
    rw [hdd]
    simp only [Rows.uptoBulk]
    have := bulk_length (H := H) (lits .u64 (zs.take l))
    simp [lits] at this ⊢
    omega
theorem gv : Tryz.prog.globalNamed "plumb/near.stayAtGreatest" = some 0 := by kernel_rfl
theorem gvt : (Tryz.prog.globals[0]?).map (·.type) = some 135 := by kernel_rfl
theorem cells_tab : Tryz.prog.cellsOf 135 = 10 := by kernel_rfl
theorem cells_tabs : Tryz.prog.cellsOf 134 = 2 := by kernel_rfl
theorem open_tabs {w : World} {base fuel : Nat} {spare : Nat → Bool} {held : Bool} {x y : Value} {s t : Bool} {p : List MemPlace} (hf : DataW.trod (H := Unit) (fun _ => ()) Tryz.prog w base spare held fuel 134 [x, y] = some (.agg [.lit (.bool s), .lit (.bool t)], p)) : x = .bool s ∧ y = .bool t := by
  obtain ⟨xs, m, _, hd, hl, hx, hi⟩ := DataW.trod_struct Tryz.underlying134 hf
  have i0 := hi 0 _ rfl
  have i1 := hi 1 _ rfl
  match xs, hx with
  | [x0, x1], _ =>
    simp [cells_bool] at i0 i1
    obtain ⟨b0, e0, f0⟩ := DataW.trod_bool Tryz.underlying4 i0
    obtain ⟨b1, e1, f1⟩ := DataW.trod_bool Tryz.underlying4 i1
    simp at e0 e1
    subst e0 e1 f0 f1
    simp at hd
    exact ⟨by rw [hd.1.1], by rw [hd.1.2]⟩
theorem grVar_of {W : World} (h : laidMetH Tryz.prog Rows.nearMiddlesRow.laid W) : GrVar W := by
  obtain ⟨ps, hl, _, _⟩ := (laidMetH_iff.1 h).1
  obtain ⟨g, t, cs, fuel, p, q, e1, e2, e3, e4, _, _⟩ : DataW.LaidVars Tryz.prog W [("plumb/near.stayAtGreatest", Rows.laid_plumb_near_stayAtGreatest)] ps := hl
  obtain rfl := Option.some.inj (gv.symm.trans e1)
  obtain rfl := Option.some.inj (gvt.symm.trans e2)
  obtain ⟨xs, m, _, hd, hlen, hx, hi⟩ := DataW.trod_array Tryz.underlying135 e4
  rw [cells_tab] at hlen
  obtain ⟨c0, c1, c2, c3, c4, c5, c6, c7, c8, c9, rfl⟩ : ∃ c0 c1 c2 c3 c4 c5 c6 c7 c8 c9, cs = #[c0, c1, c2, c3, c4, c5, c6, c7, c8, c9] := by
    match cs, hlen with
    | ⟨[c0, c1, c2, c3, c4, c5, c6, c7, c8, c9]⟩, _ => exact ⟨c0, c1, c2, c3, c4, c5, c6, c7, c8, c9, rfl⟩
  have i0 := hi 0 (by omega)
  have i1 := hi 1 (by omega)
  have i2 := hi 2 (by omega)
  have i3 := hi 3 (by omega)
  have i4 := hi 4 (by omega)
  match xs, hx with
  | [(d0, p0), (d1, p1), (d2, p2), (d3, p3), (d4, p4)], _ =>
    simp only [Rows.laid_plumb_near_stayAtGreatest, List.map, Prod.mk.injEq, DataW.agg.injEq, List.cons.injEq] at hd
    obtain ⟨⟨rfl, rfl, rfl, rfl, rfl, _⟩, _⟩ := hd
    simp only [cells_tabs] at i0 i1 i2 i3 i4
    obtain ⟨rfl, rfl⟩ := open_tabs (i0 : _ = some _)
    obtain ⟨rfl, rfl⟩ := open_tabs (i1 : _ = some _)
    obtain ⟨rfl, rfl⟩ := open_tabs (i2 : _ = some _)
    obtain ⟨rfl, rfl⟩ := open_tabs (i3 : _ = some _)
    obtain ⟨rfl, rfl⟩ := open_tabs (i4 : _ = some _)
    have hc := World.var?_cell gv e3
    exact ⟨⟨hc 0, hc 1⟩, ⟨hc 2, hc 3⟩, ⟨hc 4, hc 5⟩, ⟨hc 6, hc 7⟩, hc 8, hc 9⟩
theorem reads (os : Os) {H : Type} (enc : TypeId × Value → H) : ∃ places, DataW.whole enc Tryz.prog ((World.laidAll Tryz.prog os Rows.nearMiddlesRow.laid).forCall (fun _ _ => 0) ⟨#[], #[.int .u64 0], []⟩).memory Tryz.f4.params.toList Rows.nearMiddlesSpec.vars false (#[.int .u64 0] : Array Value).toList 8 = some ([.lit (.int .u64 0)], [], places) :=
  ⟨[], by kernel_rfl⟩
theorem lifted (os : Os) (started : os.Started) (H : Type) (enc : TypeId × Value → H) (F : Stop.Interp) :
    ReturnsInHanded {} Tryz.checked os 4 .any ((OpenSpec.ofChange Rows.nearMiddlesSpec).preRow enc Tryz.prog Tryz.f4 Rows.nearMiddlesRow.domain false Rows.nearMiddlesRow.laid) (((OpenSpec.ofChange Rows.nearMiddlesSpec).at F).post enc Tryz.prog Tryz.f4 false true false false) := by
  obtain ⟨places, hx⟩ := reads os enc
  refine returnsInHanded_of_row (C := Tryz.checked) (s := (OpenSpec.ofChange Rows.nearMiddlesSpec)) own started (by kernel_rfl) Tryz.func4
    (witness_row_at (enc := enc) (C := Tryz.checked) false (World.laidAll Tryz.prog os Rows.nearMiddlesRow.laid) #[.int .u64 0] (World.laidAll_os _ _ _) (by kernel_rfl) (by kernel_rfl) (by kernel_rfl)
      (OpenSpec.preRow_of_cond 8 hx (by kernel_rfl) (fun k hk => by cases hk) (by kernel_rfl) (laidMet_laidAll _ (by kernel_rfl) (by kernel_rfl)))) ?_
  intro W base args ds gs before hval0 hW _ hcond _ hL _ _
  have hval : ∀ (j : Nat) t v, Tryz.f4.params[j]? = some t → args[j]? = some v → Value.okWide Tryz.prog W .any base t v := hval0
  have hW' := hW
  obtain ⟨p, q, hA0, hV, rfl, hfz, hnd⟩ := hW
  have hA : DataW.TrodAll enc Tryz.prog W 0 (fun _ => true) true Tryz.f4.params.toList args.toList ds p := hA0
  rw [Tryz.params4] at hA hval
  obtain ⟨v0, vs0, d0, ds0, p0, q0, hargs, rfl, rfl, h0, r0⟩ := trodAll_cons hA
  obtain ⟨rfl, rfl, rfl⟩ := trodAll_nil r0
  obtain rfl : args = #[v0] := by cases args; simp_all
  obtain ⟨rfl, rfl⟩ := trodVars_none hV
  have k0 := h0
  have lt0 : ∀ x ∈ p0, x.block < W.heap.size := by obtain ⟨m, hm⟩ := k0; exact DataW.trod_lt m _ _ _ hm
  obtain ⟨x0, rfl, g0⟩ : ∃ x : Int, v0 = .int .u64 x ∧ (Lit.int .u64 x).wf = true := by
    obtain ⟨fuel, hf⟩ := h0
    obtain ⟨x, hc, _, hw⟩ := DataW.trod_int Tryz.underlying22 hf
    obtain ⟨y, rfl⟩ := okWide_int Tryz.underlying22 (hval 0 22 v0 rfl rfl)
    simp [Value.cells] at hc
    subst hc
    exact ⟨_, rfl, hw⟩
  simp only [Lit.wf, Bool.and_eq_true, decide_eq_true_eq] at g0
  have G0 : 0 ≤ x0 ∧ x0 < 18446744073709551616 := by have h1 : IntKind.u64.min = 0 := rfl; have h2 : IntKind.u64.max = 18446744073709551615 := rfl; omega
  clear hA0 hval0
  simp only [List.append_nil] at hW'
  refine (middles_walk G0 (grVar_of hL)).mono fun e W' ⟨he, bel⟩ => ?_
  subst he
  exact ⟨_, rfl, _, _, _, [], _, [], hW', trodAll_mk1 (shut_bool Tryz.underlying4 _), (trodAll_cons_mk (Below.trod laidOut (by kernel_rfl) (of_decide_eq_true (by kernel_rfl)) k0 bel lt0) trodAll_mk0), rfl, bel.frame _, fun h => by cases h⟩
theorem over : Rows.nearMiddlesRow.holds Tryz.pinned (OpenSpec.ofChange Rows.nearMiddlesSpec) :=
  OpenClaim.holds_of_cond 4 Tryz.f4 rfl rfl rfl rfl rfl rfl rfl ⟨rfl, rfl, rfl, rfl, rfl⟩ rfl rfl rfl rfl rfl (by kernel_rfl) Tryz.func4 (by kernel_rfl)
    (of_decide_eq_true (by kernel_rfl)) (by unfold Func.isWrapper; first | (rw [if_pos (by decide +kernel)]; kernel_rfl) | (rw [if_neg (by decide +kernel)]; exact ⟨rfl, rfl⟩))
    (fun os started H enc _ F => by rw [OpenClaim.pre_eq_preRow]; exact lifted os started H enc F)
theorem plain (f : FuncId) (fn : Func) (hf : Tryz.pinned.checked.prog.funcNamed "plumb/plumblaw07.NearMiddles" = some f) (hfn : Tryz.pinned.checked.prog.funcs[f]? = some fn) :
    true = Tryz.pinned.checked.prog.looks [] ∧ ∀ (j : Nat) t, fn.params[j]? = some t → Tryz.pinned.checked.prog.wantsStandIn t = false := by
  obtain rfl : f = 4 := Option.some.inj ((show Tryz.prog.funcNamed "plumb/plumblaw07.NearMiddles" = some 4 by kernel_rfl).symm.trans hf) |>.symm
  obtain rfl : fn = Tryz.f4 := (Option.some.inj (Tryz.func4.symm.trans hfn)).symm
  refine ⟨by kernel_rfl, fun j t ht => ?_⟩
  rw [Tryz.params4] at ht
  have hall : ∀ t ∈ (Tryz.f4.params).toList, Tryz.prog.wantsStandIn t = false := by
    rw [Tryz.params4]
    intro t ht
    simp only [List.mem_cons, List.mem_nil_iff, or_false] at ht
    rcases ht with rfl <;> kernel_rfl
  exact hall t (by rw [Tryz.params4]; exact Array.mem_toList_iff.mpr (Array.mem_of_getElem? ht))
/-- the statement -/
theorem proved : Rows.NearMiddlesCardSaid :=
  Claim7.holds_tied_plain_at .later [] _ _ _ _ over (fun _ h => by cases h) (by kernel_rfl) (fun _ h => by cases h) nearMiddles_row_tie rfl ⟨rfl, rfl⟩ (by kernel_rfl) rfl plain (by kernel_rfl)
#print axioms proved
end Go.Proofs.YtildkknpbpdnnabGreatDoor.nearMiddles
