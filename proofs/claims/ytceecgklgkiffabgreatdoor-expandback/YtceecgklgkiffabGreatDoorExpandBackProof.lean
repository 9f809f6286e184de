/- ExpandBack. -/
import Derived.Test.YtceecgklgkiffabGreatDoorCards
import Derived.Test.YtceecgklgkiffabGreatDoorTie
import Derived.Deep.DeepHandedRow
import Derived.Lay
import Derived.LaidSub
import Derived.LaidHandle
import Derived.LaidLaws
import Derived.Stop.Joined
import Derived.SevenTiedAt
import Derived.WalkKit
import Derived.ProofKit
import Derived.OpenShut
import Derived.ShutString
import Derived.ChangeOld
import Derived.Below
import Derived.FnData
import Derived.WalkLawsBesides
import Derived.Test.YtceecgklgkiffabGreatDoorXb20
namespace Go.Proofs.YtceecgklgkiffabGreatDoor.expandBack
open Go.ChangeShapes Go.WideShapes Go.ChangeAt Go.RowKit
open Go.ChangeMaps (open_string shut_string)
open Na Ar
set_option linter.unusedVariables false

theorem own : ownKnob Tryz.prog.godebug = none := by kernel_rfl
theorem laidOut : laidOutB Tryz.prog = true := by kernel_rfl
set_option maxRecDepth 100000
theorem laid_mem {P : Program} {w : World} {L : List (String × DataW Unit)} {ps : List MemPlace} {n : String} {d : DataW Unit} (h : DataW.LaidVars P w L ps) (hm : (n, d) ∈ L) :
    ∃ g t cs fuel p, P.globalNamed n = some g ∧ (P.globals[g]?).map (·.type) = some t ∧ w.var? P n = some cs ∧ DataW.trod (fun _ => ()) P w 0 (fun _ => true) false fuel t cs.toList = some (d, p) := by
  induction L generalizing ps with
  | nil => cases hm
  | cons x r ih =>
    obtain ⟨m, e⟩ := x
    obtain ⟨g, t, cs, fuel, p, q, e1, e2, e3, e4, e5, _⟩ := h
    rcases List.mem_cons.1 hm with hx | hx
    · injection hx with h1 h2
      subst h1 h2
      exact ⟨g, t, cs, fuel, p, e1, e2, e3, e4⟩
    · exact ih e5 hx
theorem cells_bool : Tryz.prog.cellsOf 4 = 1 := by kernel_rfl
theorem gv : Tryz.prog.globalNamed "plumb/near.stayAtGreatest" = some 3 := by kernel_rfl
theorem gvt : (Tryz.prog.globals[3]?).map (·.type) = some 204 := by kernel_rfl
theorem cells_tab : Tryz.prog.cellsOf 204 = 10 := by kernel_rfl
theorem cells_tabs : Tryz.prog.cellsOf 203 = 2 := by kernel_rfl
theorem open_tabs {w : World} {base fuel : Nat} {spare : Nat → Bool} {held : Bool} {x y : Value} {s t : Bool} {p : List MemPlace} (hf : DataW.trod (H := Unit) (fun _ => ()) Tryz.prog w base spare held fuel 203 [x, y] = some (.agg [.lit (.bool s), .lit (.bool t)], p)) : x = .bool s ∧ y = .bool t := by
  obtain ⟨xs, m, _, hd, hl, hx, hi⟩ := DataW.trod_struct Tryz.underlying203 hf
  have i0 := hi 0 _ rfl
  have i1 := hi 1 _ rfl
  match xs, hx with
  | [x0, x1], _ =>
    simp [cells_bool] at i0 i1
    obtain ⟨b0, e0, f0⟩ := DataW.trod_bool Tryz.underlying4 i0
    obtain ⟨b1, e1, f1⟩ := DataW.trod_bool Tryz.underlying4 i1
    simp at e0 e1
    subst e0 e1 f0 f1
    simp at hd
    exact ⟨by rw [hd.1.1], by rw [hd.1.2]⟩
theorem grVar_of {W : World} (h : laidMetH Tryz.prog Rows.expandBackRow.laid W) : GrVar W := by
  obtain ⟨ps, hl, _, _⟩ := (laidMetH_iff.1 h).1
  obtain ⟨g, t, cs, fuel, p, e1, e2, e3, e4⟩ := laid_mem hl (n := "plumb/near.stayAtGreatest") (d := Rows.laid_plumb_near_stayAtGreatest) (List.mem_filter.2 ⟨by first | exact List.Mem.head _ | exact List.Mem.tail _ (List.Mem.head _) | exact List.Mem.tail _ (List.Mem.tail _ (List.Mem.head _)) | exact List.Mem.tail _ (List.Mem.tail _ (List.Mem.tail _ (List.Mem.head _))) | exact List.Mem.tail _ (List.Mem.tail _ (List.Mem.tail _ (List.Mem.tail _ (List.Mem.head _)))) | exact List.Mem.tail _ (List.Mem.tail _ (List.Mem.tail _ (List.Mem.tail _ (List.Mem.tail _ (List.Mem.head _))))), rfl⟩)
  obtain rfl := Option.some.inj (gv.symm.trans e1)
  obtain rfl := Option.some.inj (gvt.symm.trans e2)
  obtain ⟨xs, m, _, hd, hlen, hx, hi⟩ := DataW.trod_array Tryz.underlying204 e4
  rw [cells_tab] at hlen
  obtain ⟨c0, c1, c2, c3, c4, c5, c6, c7, c8, c9, rfl⟩ : ∃ c0 c1 c2 c3 c4 c5 c6 c7 c8 c9, cs = #[c0, c1, c2, c3, c4, c5, c6, c7, c8, c9] := by
    match cs, hlen with
    | ⟨[c0, c1, c2, c3, c4, c5, c6, c7, c8, c9]⟩, _ => exact ⟨c0, c1, c2, c3, c4, c5, c6, c7, c8, c9, rfl⟩
  have i0 := hi 0 (by omega)
  have i1 := hi 1 (by omega)
  have i2 := hi 2 (by omega)
  have i3 := hi 3 (by omega)
  have i4 := hi 4 (by omega)
  match xs, hx with
  | [(d0, p0), (d1, p1), (d2, p2), (d3, p3), (d4, p4)], _ =>
    simp only [Rows.laid_plumb_near_stayAtGreatest, List.map, Prod.mk.injEq, DataW.agg.injEq, List.cons.injEq] at hd
    obtain ⟨⟨rfl, rfl, rfl, rfl, rfl, _⟩, _⟩ := hd
    simp only [cells_tabs] at i0 i1 i2 i3 i4
    obtain ⟨rfl, rfl⟩ := open_tabs (i0 : _ = some _)
    obtain ⟨rfl, rfl⟩ := open_tabs (i1 : _ = some _)
    obtain ⟨rfl, rfl⟩ := open_tabs (i2 : _ = some _)
    obtain ⟨rfl, rfl⟩ := open_tabs (i3 : _ = some _)
    obtain ⟨rfl, rfl⟩ := open_tabs (i4 : _ = some _)
    have hc := World.var?_cell gv e3
    exact ⟨⟨hc 0, hc 1⟩, ⟨hc 2, hc 3⟩, ⟨hc 4, hc 5⟩, ⟨hc 6, hc 7⟩, hc 8, hc 9⟩
noncomputable def laidBase (os : Os) : World := World.holding Tryz.prog os ⟨#[], #[], []⟩
def plainLaid : List (String × DataW Unit) := Rows.expandBackRow.laid.filter fun x => x.2.handleName?.isNone
noncomputable def laidW (os : Os) : World := (laidBase os).layVars Tryz.prog plainLaid
theorem laidW_os (os : Os) : (laidW os).os = os := World.layVars_os _ _ _
theorem laidW_met (os : Os) (args : Array Value) : laidMetH Tryz.prog Rows.expandBackRow.laid ((laidW os).forCall (fun _ _ => 0) ⟨#[], args, []⟩).memory := by
  refine laidMetH_of_parts ?_ (by kernel_rfl)
  have e1 : (plainLaid.filter fun x => (plainLaid.map (·.1)).contains x.1) = plainLaid := List.filter_eq_self.2 fun x hx => List.contains_iff_mem.2 (List.mem_map.2 ⟨x, hx, rfl⟩)
  have e2 : (plainLaid.filter fun x => !(plainLaid.map (·.1)).contains x.1) = [] := List.filter_eq_nil_iff.2 fun x hx => by rw [List.contains_iff_mem.2 (List.mem_map.2 ⟨x, hx, rfl⟩)]; simp
  have h : laidMet Tryz.prog plainLaid (laidW os) := laidMet_layVars (w0 := laidBase os) (plainLaid.map (·.1)) [] (by rw [e1]; rfl) (by rw [e1]; kernel_rfl) (by rw [e1]; kernel_rfl) (by rw [e2]; exact LaidIn.none)
  exact h.of_heap (by simp [World.memory, World.forCall, Input.heap])
theorem reads (os : Os) {H : Type} (enc : TypeId × Value → H) : ∃ places, DataW.whole enc Tryz.prog ((laidW os).forCall (fun _ _ => 0) ⟨#[], #[.int .u64 0, .int .i64 0], []⟩).memory Tryz.f4.params.toList Rows.expandBackSpec.vars false (#[.int .u64 0, .int .i64 0] : Array Value).toList 8 = some ([.lit (.int .u64 0), .lit (.int .i64 0)], [], places) :=
  ⟨[], by kernel_rfl⟩
theorem lifted (os : Os) (started : os.Started) (H : Type) (enc : TypeId × Value → H) (F : Stop.Interp) :
    ReturnsInHanded {} Tryz.checked os 4 .any ((OpenSpec.ofChange Rows.expandBackSpec).preRow enc Tryz.prog Tryz.f4 Rows.expandBackRow.domain false Rows.expandBackRow.laid) (((OpenSpec.ofChange Rows.expandBackSpec).at F).post enc Tryz.prog Tryz.f4 false true false false) := by
  obtain ⟨places, hx⟩ := reads os enc
  refine returnsInHanded_of_row (C := Tryz.checked) (s := (OpenSpec.ofChange Rows.expandBackSpec)) own started (by kernel_rfl) Tryz.func4
    (witness_row_at (enc := enc) (C := Tryz.checked) false (laidW os) #[.int .u64 0, .int .i64 0] (laidW_os os) (by kernel_rfl) (by kernel_rfl) (by kernel_rfl)
      (OpenSpec.preRow_of_cond 8 hx (by kernel_rfl) (fun k hk => by cases hk) (by kernel_rfl) (laidW_met os _))) ?_
  intro W base args ds gs before hval0 hW _ hcond _ hL _ _
  have hval : ∀ (j : Nat) t v, Tryz.f4.params[j]? = some t → args[j]? = some v → Value.okWide Tryz.prog W .any base t v := hval0
  have hW' := hW
  obtain ⟨p, q, hA0, hV, rfl, hfz, hnd⟩ := hW
  have hA : DataW.TrodAll enc Tryz.prog W 0 (fun _ => true) true Tryz.f4.params.toList args.toList ds p := hA0
  rw [Tryz.params4] at hA hval
  obtain ⟨v0, vs0, d0, ds0, p0, q0, hargs, rfl, rfl, h0, r0⟩ := trodAll_cons hA
  obtain ⟨v1, vs1, d1, ds1, p1, q1, rfl, rfl, rfl, h1, r1⟩ := trodAll_cons r0
  obtain ⟨rfl, rfl, rfl⟩ := trodAll_nil r1
  obtain rfl : args = #[v0, v1] := by cases args; simp_all
  obtain ⟨rfl, rfl⟩ := trodVars_none hV
  have k0 := h0
  have lt0 : ∀ x ∈ p0, x.block < W.heap.size := by obtain ⟨m, hm⟩ := k0; exact DataW.trod_lt m _ _ _ hm
  obtain ⟨x0, rfl, g0⟩ : ∃ x : Int, v0 = .int .u64 x ∧ (Lit.int .u64 x).wf = true := by
    obtain ⟨fuel, hf⟩ := h0
    obtain ⟨x, hc, _, hw⟩ := DataW.trod_int Tryz.underlying22 hf
    obtain ⟨y, rfl⟩ := okWide_int Tryz.underlying22 (hval 0 22 v0 rfl rfl)
    simp [Value.cells] at hc
    subst hc
    exact ⟨_, rfl, hw⟩
  simp only [Lit.wf, Bool.and_eq_true, decide_eq_true_eq] at g0
  have G0 : 0 ≤ x0 ∧ x0 < 18446744073709551616 := by have h1 : IntKind.u64.min = 0 := rfl; have h2 : IntKind.u64.max = 18446744073709551615 := rfl; omega
  have k1 := h1
  have lt1 : ∀ x ∈ p1, x.block < W.heap.size := by obtain ⟨m, hm⟩ := k1; exact DataW.trod_lt m _ _ _ hm
  obtain ⟨x1, rfl, g1⟩ : ∃ x : Int, v1 = .int .i64 x ∧ (Lit.int .i64 x).wf = true := by
    obtain ⟨fuel, hf⟩ := h1
    obtain ⟨x, hc, _, hw⟩ := DataW.trod_int Tryz.underlying3 hf
    obtain ⟨y, rfl⟩ := okWide_int Tryz.underlying3 (hval 1 3 v1 rfl rfl)
    simp [Value.cells] at hc
    subst hc
    exact ⟨_, rfl, hw⟩
  simp only [Lit.wf, Bool.and_eq_true, decide_eq_true_eq] at g1
  have G1 : -9223372036854775808 ≤ x1 ∧ x1 ≤ 9223372036854775807 := by have h1 : IntKind.i64.min = -9223372036854775808 := rfl; have h2 : IntKind.i64.max = 9223372036854775807 := rfl; omega
  clear hA0 hval0
  simp only [List.append_nil] at hW'
  refine (back13_walk G0 G1.1 G1.2 (grVar_of hL)).mono fun e W' ⟨he, bel⟩ => ?_
  subst he
  exact ⟨_, rfl, _, _, _, [], _, [], hW', trodAll_mk1 (shut_bool Tryz.underlying4 _), (trodAll_cons_mk (Below.trod laidOut (by kernel_rfl) (of_decide_eq_true (by kernel_rfl)) k0 bel lt0) (trodAll_cons_mk (Below.trod laidOut (by kernel_rfl) (of_decide_eq_true (by kernel_rfl)) k1 bel lt1) trodAll_mk0)), rfl, bel.frame _, fun h => by cases h⟩
theorem fIn : (Rows.expandBackRow.inPlace == Tryz.prog.inPlace 4) = true := by kernel_rfl
theorem fUn : (Rows.expandBackRow.unfollowed == Tryz.prog.unfollowed 4) = true := by kernel_rfl
theorem fRe : (Rows.expandBackRow.recurses == Tryz.prog.recurses 4) = true := by kernel_rfl
theorem fNa : (Rows.expandBackRow.named == Tryz.prog.varsNamed 4) = true := by kernel_rfl
theorem facts : joinedFacts Tryz.prog 4 Tryz.f4 (OpenSpec.ofChange Rows.expandBackSpec).bare Rows.expandBackRow = true := by
  unfold joinedFacts
  rw [fIn, fUn, fRe, fNa]
  kernel_rfl
theorem over : Rows.expandBackRow.holds Tryz.pinned (OpenSpec.ofChange Rows.expandBackSpec) :=
  OpenClaim.holds_of_cond 4 Tryz.f4 rfl rfl rfl rfl rfl rfl rfl ⟨rfl, rfl, rfl, rfl, rfl⟩ rfl rfl rfl rfl rfl (by kernel_rfl) Tryz.func4 facts
    (of_decide_eq_true (by kernel_rfl)) (by unfold Func.isWrapper; first | (rw [if_pos (by decide +kernel)]; kernel_rfl) | (rw [if_neg (by decide +kernel)]; exact ⟨rfl, rfl⟩))
    (fun os started H enc _ F => by rw [OpenClaim.pre_eq_preRow]; exact lifted os started H enc F)
theorem plain (f : FuncId) (fn : Func) (hf : Tryz.pinned.checked.prog.funcNamed "plumb/plumblaw13.ExpandBack" = some f) (hfn : Tryz.pinned.checked.prog.funcs[f]? = some fn) :
    true = Tryz.pinned.checked.prog.looks [] ∧ ∀ (j : Nat) t, fn.params[j]? = some t → Tryz.pinned.checked.prog.wantsStandIn t = false := by
  obtain rfl : f = 4 := Option.some.inj ((show Tryz.prog.funcNamed "plumb/plumblaw13.ExpandBack" = some 4 by kernel_rfl).symm.trans hf) |>.symm
  obtain rfl : fn = Tryz.f4 := (Option.some.inj (Tryz.func4.symm.trans hfn)).symm
  refine ⟨by kernel_rfl, fun j t ht => ?_⟩
  rw [Tryz.params4] at ht
  have hall : ∀ t ∈ (Tryz.f4.params).toList, Tryz.prog.wantsStandIn t = false := by
    rw [Tryz.params4]
    intro t ht
    simp only [List.mem_cons, List.mem_nil_iff, or_false] at ht
    rcases ht with rfl | rfl <;> kernel_rfl
  exact hall t (by rw [Tryz.params4]; exact Array.mem_toList_iff.mpr (Array.mem_of_getElem? ht))
/-- the statement -/
theorem proved : Rows.ExpandBackCardSaid :=
  Claim7.holds_tied_plain_at .later [] _ _ _ _ over (fun _ h => by cases h) (by kernel_rfl) (fun _ h => by cases h) expandBack_row_tie rfl ⟨rfl, rfl⟩ (by kernel_rfl) rfl plain (by kernel_rfl)
#print axioms proved
end Go.Proofs.YtceecgklgkiffabGreatDoor.expandBack
