import Derived.Below
import Derived.BigQuiet
import Derived.ChangeOld
import Derived.Deep.CutRange
import Derived.Deep.QuietTactic
import Derived.Deep.RegionHeld3
import Derived.Deep.RegionLaw
import Derived.Laws.AppendOwn
import Derived.Laws.BitsAllLaws
import Derived.Laws.Rows
import Derived.LoopIn
import Derived.LoopNIn
import Derived.Maps.AppendAt
import Derived.OpenShut
import Derived.Orders
import Derived.OrdersIn
import Derived.OwnWalk
import Derived.OwnWalkIn
import Derived.ProofKit
import Derived.RangeFuncBound
import Derived.RangeFuncCalls
import Derived.RangeFuncLeaves
import Derived.RangeFuncNested
import Derived.Shelf.Abstract
import Derived.Shelf.RegionOpen
import Derived.ShutString
import Derived.StillTailTactics
import Derived.TacticsIn
import Derived.TacticsInMore
import Derived.WalkKit
import Derived.WalkLawsBesides
import Derived.WalkSpells
import Derived.Test.YtgobnjeankjkjaaGreatDoorPb4
import Derived.Test.YtgobnjeankjkjaaGreatDoorPb5
import Derived.Test.YtgobnjeankjkjaaGreatDoorPb17
import Derived.Test.YtgobnjeankjkjaaGreatDoorPb19
/- tree.flat: the node of one geometry. -/
namespace Go.Proofs.YtgobnjeankjkjaaGreatDoor
open Go.ChangeShapes Go.WideShapes Go.ChangeAt Go.RowKit Go.Shelf
open Tr Rf Wk Mk
set_option linter.unusedVariables false
attribute [local go_sem] Oper.semAt_some
namespace Tr
/-- a node's sizes and points -/
def szs (g : Gm) (ch : Nat) : List Nat := if g.kind = 1 ∨ g.kind = 2 then [g.line.length] else if g.kind = 3 then g.rings.map List.length else [ch]
def ptG (g : Gm) : List Pt := (g.line :: g.rings).flatten
def ptK (g : Gm) (k : Nat) : List Pt := ((g.line :: g.rings).take k).flatten
theorem ptK_succ {g : Gm} {k : Nat} {p : List Pt} (h : (g.line :: g.rings)[k]? = some p) : ptK g (k + 1) = ptK g k ++ p := by
  unfold ptK
  rw [List.take_add_one, h]
  simp
theorem ptK_len (g : Gm) (k : Nat) : ((ptK g k).length : Int) = ptot g k := by
  unfold ptK ptot
  rw [List.length_flatten]
theorem ptK_all (g : Gm) : ptK g (g.rings.length + 1) = ptG g := by
  unfold ptK ptG
  rw [List.take_of_length_le (by simp)]
theorem ptcs_app : ∀ (a b : List Pt), ptcs (a ++ b) = ptcs a ++ ptcs b
  | [], b => rfl
  | p :: r, b => by show _ :: _ :: ptcs (r ++ b) = _ :: _ :: (ptcs r ++ ptcs b); rw [ptcs_app r b]
theorem ptcs_len : ∀ (a : List Pt), (ptcs a).length = a.length * 2
  | [] => rfl
  | p :: r => by show (ptcs r).length + 1 + 1 = _; rw [ptcs_len r, List.length_cons]; omega
def zcs (l : List Nat) : List Value := l.map fun (z : Nat) => Value.int .i64 (z : Int)
theorem run_app_zero {P : Program} (w : World) (t ty e : TypeId) (i : TypeInfo) (ht : P.underlying t = some (.slice e)) (hi : P.info? e = some i) (base : Option Addr) (n cap : Nat) (h : n ≤ cap) (a : Option Addr) (c : Nat) :
    (Builtin.append_ #[t, t] ty #[.slice base n cap, .slice a 0 c]).run P w = .ok (.slice base n cap) w := by
  have hf : (Builtin.firstCells i.size 0 (.slice a 0 c)).run P w = .ok #[] w := by
    cases a with
    | none => exact run_firstCells_none (P := P) w _ _ _ _
    | some b => exact run_firstCells_some (P := P) w _ _ b _ _ [] (by simp) (fun j v h => by cases h)
  cases base with
  | none => simp [Builtin.append_, run_underlying ht, sizeOf, typeInfo, hi, Builtin.lenOf, hf, h]
  | some b => simp [Builtin.append_, run_underlying ht, sizeOf, typeInfo, hi, Builtin.lenOf, hf, h, storeCells]
/-- a list of points behind a row of the call's own -/
theorem app_pts {S : Nat → Prop} {W : World} {base : Nat} {rv : Value} {js p : List Pt} {a4 : Option Addr} {c4 : Nat} (hr : W.ownsRow base 39 2 rv js.length (ptcs js)) (hp : Pts S W (.slice a4 p.length c4) p) (hl : js.length + p.length ≤ 2097152) (hb : base ≤ W.heap.size) (ty : TypeId) :
    ∃ va vc W', (Builtin.append_ #[27, 27] ty #[rv, .slice a4 p.length c4]).run Tryz.prog W = .ok (.slice va (js ++ p).length vc) W' ∧ W'.ownsRow base 39 2 (.slice va (js ++ p).length vc) (js ++ p).length (ptcs (js ++ p)) ∧ W.grownBy W' rv.ownBlock := by
  obtain ⟨i, hi, hz0, hz1, hz2⟩ := info_partsT info_pt
  obtain ⟨ra, rc, rfl, hrc⟩ := own_slice hr
  cases p with
  | nil =>
    refine ⟨ra, rc, W, ?_, ?_, ⟨rfl, rfl, rfl, Nat.le_refl _, fun _ _ _ => rfl⟩⟩
    · rw [List.append_nil]
      exact run_app_zero W _ _ _ i Tryz.underlying27 hi _ _ _ hrc _ _
    · rw [List.append_nil]
      exact hr
  | cons q r =>
    obtain ⟨_, a0, c0, e, hc⟩ := hp
    injection e with e1 e2 e3
    subst e1 e3
    obtain ⟨b, o, rfl, _⟩ := hc 0 q rfl
    have hn : ∀ j u, (ptcs (q :: r))[j]? = some u → W.cell? (Addr.add ⟨b, o, none⟩ j) = some u := by
      intro j u hj
      have hadd : Addr.add ⟨b, o, none⟩ j = ⟨b, o + j, none⟩ := by unfold Addr.add; split <;> simp_all
      rw [hadd]
      have hlt : j < (q :: r).length * 2 := by
        have := (List.getElem?_eq_some_iff.1 hj).1
        rwa [ptcs_len] at this
      obtain ⟨m, hm⟩ : ∃ m, m = j / 2 := ⟨_, rfl⟩
      obtain ⟨x, hx⟩ : ∃ x, (q :: r)[m]? = some x := ⟨_, List.getElem?_eq_getElem (by omega)⟩
      obtain ⟨h1, h2⟩ := ptcs_at _ _ _ hx
      obtain ⟨b', o', e', _, _, _, y1, y2⟩ := hc _ _ hx
      cases e'
      rcases (by omega : j = 2 * m ∨ j = 2 * m + 1) with e | e
      · rw [e, h1] at hj
        cases hj
        rw [e]
        exact y1
      · rw [e, h2] at hj
        cases hj
        rw [e, ← Nat.add_assoc]
        exact y2
    obtain ⟨v', W', h1, h2, h3, _, _⟩ := run_append_own_at (P := Tryz.prog) W base 27 ty 39 i _ 2 16 Tryz.underlying27 hi hz0 hz1 hz2 rfl (by decide) _ js.length (ptcs js) hr ⟨b, o, none⟩ (q :: r).length c4 (ptcs (q :: r)) (ptcs_len _) hn (by
      intro u hu
      have : ∀ (l : List Pt), ∀ u ∈ ptcs l, u.oneCell' = true := by
        intro l
        induction l with
        | nil => intro u hu; cases hu
        | cons x t ih =>
          intro u hu
          rcases List.mem_cons.1 hu with rfl | hu
          · rfl
          · rcases List.mem_cons.1 hu with rfl | hu
            · rfl
            · exact ih u hu
      exact this _ u hu) (by unfold maxLen; omega) (by omega) hb
    obtain ⟨va, vc, e9, _⟩ := own_slice h2
    subst e9
    refine ⟨va, vc, W', ?_, ?_, h3⟩
    · rw [List.length_append]; exact h1
    · rw [List.length_append, ptcs_app]; exact h2
theorem wpListIn_appR {l n : Nat} {w : World} {ops : Array Oper} {rest : List Oper} {o : Oper} {a : Act} {Q : Exit → Act → World → Prop} (hgd : o.guard = none) (s x : Operand) (t : TypeId)
    (ho : o.op = .call { callee := .builtin .append, args := #[s, x], argTypes := #[t, t] }) (v u : Value) (hs : a.eval s = v) (hx : a.eval x = u) {v' : Value} {w' : World}
    (hr : (Builtin.append_ #[t, t] o.type #[v, u]).run Tryz.prog w = .ok v' w') (h : wpListIn (Fence.wide.inRound l) n Tryz.prog ops Q rest (a.put o.dst v') w') : wpListIn (Fence.wide.inRound l) n Tryz.prog ops Q (o :: rest) a w := by
  unfold wpListIn
  have hw : Region.wanted o (yielded ops a.tmps) = true := by simp [Region.wanted, hgd]
  rw [if_pos hw]
  refine Rg.oper_round (by unfold Rg.noDefer; rw [ho]) ?_
  unfold Oper.wp execOp
  simp only [ho, resolve, invoke, builtin, Sem.run_bind, Sem.run_pure, Result.andThen_ok, List.map_toArray, List.map_cons, List.map_nil, hs, hx, hr]
  exact h
theorem tc_later {w w' : World} {g : Nat} {t : TypeId} {x y z : Value} (h : Tc w g t x y z) (hb : Below w.heap.size w w') : Tc w' g t x y z := (hb.block g h.lt).trans h
theorem row_grown {B base n size : Nat} {e : TypeId} {v : Value} {xs : List Value} {W W' : World} {row : Option Nat} (h : W.ownsRow base e size v n xs) (hg : W.grownBy W' row) (hr : ∀ r, row = some r → B ≤ r ∧ ∃ o : Obj, W.heap[r]? = some o ∧ o.isCells = false) : W'.ownsRow base e size v n xs := by
  obtain ⟨h0, h⟩ := h
  refine ⟨h0, ?_⟩
  rcases h with h | ⟨g, cap, cur, rfl, hb, hc, h1⟩
  · exact Or.inl h
  · exact Or.inr ⟨g, cap, cur, rfl, hb, grown_cells hg hr hc rfl, h1⟩
theorem row_turn {l base n size : Nat} {e : TypeId} {v : Value} {xs : List Value} {W W' : World} (h : W.ownsRow base e size v n xs) (hT : Turn l W W') : W'.ownsRow base e size v n xs := by
  obtain ⟨h0, h⟩ := h
  refine ⟨h0, ?_⟩
  rcases h with h | ⟨g, cap, cur, rfl, hb, hc, h1⟩
  · exact Or.inl h
  · exact Or.inr ⟨g, cap, cur, rfl, hb, hT.cells hc rfl, h1⟩
theorem row_wide {base base' n size : Nat} {e : TypeId} {v : Value} {xs : List Value} {W : World} (h : W.ownsRow base e size v n xs) (hb : base' ≤ base) : W.ownsRow base' e size v n xs := by
  obtain ⟨h0, h⟩ := h
  refine ⟨h0, ?_⟩
  rcases h with h | ⟨g, cap, cur, rfl, hb', h1⟩
  · exact Or.inl h
  · exact Or.inr ⟨g, cap, cur, rfl, Nat.le_trans hb hb', h1⟩
theorem row_one (W : World) (base : Nat) (e : TypeId) (x : Value) (hb : base ≤ W.heap.size) : (W.alloc (.cells #[x] e)).ownsRow base e 1 (.slice (some ⟨W.heap.size, 0, none⟩) 1 1) 1 [x] :=
  ⟨rfl, .inr ⟨W.heap.size, 1, #[x], rfl, hb, World.alloc_heap_new W _, Nat.le_refl _, by unfold maxLen; omega, rfl, rfl⟩⟩
/-- a row of cells has grown: what is no cells stays -/
theorem keeps_row {B base n size : Nat} {e : TypeId} {v : Value} {xs : List Value} {W W' : World} (h : W.ownsRow base e size v n xs) (hg : W.grownBy W' v.ownBlock) : KeepsFrom B W W' := by
  refine ⟨hg.size, fun k o hk ho hc => (hg.block k (Array.getElem?_eq_some_iff.1 ho).1 (fun q => ?_)).trans ho⟩
  rcases h.2 with ⟨rfl, _⟩ | ⟨g, cap, cur, rfl, _, hc', _⟩
  · cases q
  · cases q
    rw [hc'] at ho
    cases ho
    cases hc
theorem wpListIn_appV {n : Nat} {w : World} {ops : Array Oper} {rest : List Oper} {o : Oper} {a : Act} {Q : Exit → Act → World → Prop} (hgd : o.guard = none) (s x : Operand) (t : TypeId)
    (ho : o.op = .call { callee := .builtin .append, args := #[s, x], argTypes := #[t, t] }) (v u : Value) (hs : a.eval s = v) (hx : a.eval x = u) {v' : Value} {w' : World}
    (hr : (Builtin.append_ #[t, t] o.type #[v, u]).run Tryz.prog w = .ok v' w') (h : wpListIn Fence.wide n Tryz.prog ops Q rest (a.put o.dst v') w') : wpListIn Fence.wide n Tryz.prog ops Q (o :: rest) a w := by
  unfold wpListIn
  have hw : Region.wanted o (yielded ops a.tmps) = true := by simp [Region.wanted, hgd]
  rw [if_pos hw]
  unfold Oper.wpIn
  refine ⟨fun _ _ => trivial, ?_⟩
  have e : Oper.semAt Fence.wide.round a.eval o = execOp a.eval o := by
    show Oper.semAt none a.eval o = _
    unfold Oper.semAt
    rw [ho]
  rw [e]
  unfold execOp
  simp only [ho, resolve, invoke, builtin, Sem.run_bind, Sem.run_pure, Result.andThen_ok, List.map_toArray, List.map_cons, List.map_nil, hs, hx, hr]
  exact h
theorem info_i64T : (Tryz.prog.info? 3).map (fun i => (i.zero, i.size, i.bytes)) = some (some (.int .i64 0), 1, 8) := by kernel_rfl
/-- a number behind a row of numbers -/
theorem app_int {wr : World} {base : Nat} {sv : Value} {l : List Nat} {z : Nat} (hr : wr.ownsRow base 3 1 sv l.length (zcs l)) (hl : l.length ≤ 1048576) (hb : base ≤ wr.heap.size) (ty : TypeId) :
    ∃ va vc W', (Builtin.append_ #[45, 45] ty #[sv, .slice (some ⟨wr.heap.size, 0, none⟩) 1 1]).run Tryz.prog (wr.alloc (.cells #[.int .i64 (z : Int)] 3)) = .ok (.slice va (l.length + 1) vc) W' ∧ W'.ownsRow base 3 1 (.slice va (l.length + 1) vc) (l.length + 1) (zcs (l ++ [z])) ∧ (wr.alloc (.cells #[.int .i64 (z : Int)] 3)).grownBy W' sv.ownBlock := by
  obtain ⟨i, hi, hz0, hz1, hz2⟩ := info_partsT info_i64T
  have hk := own_keep (w' := wr.alloc (.cells #[.int .i64 (z : Int)] 3)) hr (fun g hg => ((Below.refl wr.heap.size wr).alloc (Nat.le_refl _) _).block g (ownsRow_block hr hg).2)
  obtain ⟨v', W', h1, h2, h3, _, _⟩ := run_append_own_at (P := Tryz.prog) (wr.alloc (.cells #[.int .i64 (z : Int)] 3)) base 45 ty 3 i _ 1 8 Tryz.underlying45 hi hz0 hz1 hz2 rfl (by decide) _ l.length (zcs l) hk ⟨wr.heap.size, 0, none⟩ 1 1 [.int .i64 (z : Int)] rfl
    (fun k u h => by
      match k, h with
      | 0, h =>
        cases h
        simp [Addr.add]) (fun u h => by rw [List.mem_singleton.1 h]; rfl) (by unfold maxLen; omega) (by omega) (by simp; omega)
  obtain ⟨va, vc, e9, _⟩ := own_slice h2
  subst e9
  exact ⟨va, vc, W', h1, by unfold zcs at *; rw [List.map_append]; exact h2, h3⟩
/-- what flat answers -/
def Pft (w : World) (g : Gm) (ch : Nat) (e : Ending) (w' : World) : Prop :=
  ∃ sv lv, e = .returned (.agg #[.int .i64 g.kind, sv, lv]) ∧ w'.ownsRow w.heap.size 3 1 sv (szs g ch).length (zcs (szs g ch)) ∧ w'.ownsRow w.heap.size 39 2 lv (ptG g).length (ptcs (ptG g)) ∧ Below w.heap.size w w'
theorem flat_fin {w Y : World} {R D ch : Nat} {g : Gm} {sv lv z0 z1 z2 : Value} (hR : R = w.heap.size) (hY : Tc Y R 91 z0 z1 z2) (hs : Y.ownsRow (R + 2) 3 1 sv (szs g ch).length (zcs (szs g ch))) (hl : Y.ownsRow (R + 2) 39 2 lv (ptG g).length (ptcs (ptG g))) (hb : Below R w Y) (hD : R + 3 ≤ D) (hK : Y.heap[D]? = some (.deferred (some []))) :
    (((Y.setCell ⟨R, 0, none⟩ (.int .i64 g.kind)).setCell ⟨R, 1, none⟩ sv).setCell ⟨R, 2, none⟩ lv).heap[D]? = some (.deferred (some [])) ∧ Tc ((((Y.setCell ⟨R, 0, none⟩ (.int .i64 g.kind)).setCell ⟨R, 1, none⟩ sv).setCell ⟨R, 2, none⟩ lv).putObj D (.deferred none)) R 91 (.int .i64 g.kind) sv lv ∧ Pft w g ch (.returned (.agg #[.int .i64 g.kind, sv, lv])) ((((Y.setCell ⟨R, 0, none⟩ (.int .i64 g.kind)).setCell ⟨R, 1, none⟩ sv).setCell ⟨R, 2, none⟩ lv).putObj D (.deferred none)) := by
  have h1 : Tc (((Y.setCell ⟨R, 0, none⟩ (.int .i64 g.kind)).setCell ⟨R, 1, none⟩ sv).setCell ⟨R, 2, none⟩ lv) R 91 (.int .i64 g.kind) sv lv := set_blockT (set_blockT (set_blockT hY))
  have hbZ : Below R w (((Y.setCell ⟨R, 0, none⟩ (.int .i64 g.kind)).setCell ⟨R, 1, none⟩ sv).setCell ⟨R, 2, none⟩ lv) := ((hb.setCell (p := ⟨R, 0, none⟩) (Nat.le_refl _) _).setCell (p := ⟨R, 1, none⟩) (Nat.le_refl _) _).setCell (p := ⟨R, 2, none⟩) (Nat.le_refl _) _
  have hk : ∀ k, k ≠ R → (((Y.setCell ⟨R, 0, none⟩ (.int .i64 g.kind)).setCell ⟨R, 1, none⟩ sv).setCell ⟨R, 2, none⟩ lv).heap[k]? = Y.heap[k]? := fun k hk => (Below.heap_setCell _ _ _ _ hk).trans ((Below.heap_setCell _ _ _ _ hk).trans (Below.heap_setCell _ _ _ _ hk))
  generalize (((Y.setCell ⟨R, 0, none⟩ (.int .i64 g.kind)).setCell ⟨R, 1, none⟩ sv).setCell ⟨R, 2, none⟩ lv) = Z at *
  have hKZ : Z.heap[D]? = some (.deferred (some [])) := (hk D (by omega)).trans hK
  have hg := grownBy_putObj' Z D (.deferred none)
  have hr : ∀ r, some D = some r → R + 2 ≤ r ∧ ∃ o : Obj, Z.heap[r]? = some o ∧ o.isCells = false := fun r e => by cases e; exact ⟨by omega, _, hKZ, rfl⟩
  have hs2 := row_grown (own_keep hs (fun i hi => hk i (by have := (ownsRow_block hs hi).1; omega))) hg hr
  have hl2 := row_grown (own_keep hl (fun i hi => hk i (by have := (ownsRow_block hl hi).1; omega))) hg hr
  refine ⟨hKZ, grown_cells hg hr h1 rfl, sv, lv, rfl, row_wide hs2 (by omega), row_wide hl2 (by omega), ?_⟩
  rw [← hR]
  exact hbZ.trans ((Below.refl _ _).grown hg (by have := hbZ.size; omega) (fun r e => by cases e; omega))
end Tr
set_option maxRecDepth 100000 in
set_option maxHeartbeats 2000000 in
theorem flat_any {n : Nat} {w : World} {S : Nat → Prop} {b o : Nat} {g : Gm} {pa : Option Addr} {pc ch : Nat} (hS : ∀ k, S k → k < w.heap.size) (hG : GmAt S w b o g (.slice pa ch pc)) (hch : ch ≤ 1048576) (ht : tot g ≤ 1048576) :
    CallsIn Fence.wide n Tryz.prog 60 #[.pointer (some ⟨b, o, none⟩)] w (Pft w g ch) := by
  have HG := hidM hG
  obtain ⟨hSb, hkd, k0, ⟨v1, k1, p1⟩, ⟨v2, k2, p2⟩, k3⟩ := hG
  have hbw := hS b hSb
  have HS := hidM hS
  have hne0 : b ≠ w.heap.size := by omega
  have hne1 : b ≠ w.heap.size + 1 := by omega
  refine callsIn_of_wp_marks Tryz.func60 rfl trivial ?_ rfl
  simp only [Tryz.ntmps60, List.size_toArray, List.length_cons, List.length_nil, Nat.reduceAdd, Nat.reduceSub, Array.replicate_succ, Array.replicate_zero, List.push_toArray, List.append_toArray, List.nil_append, List.cons_append]
  gi_wp2
  refine ⟨trivial, fun h => (by cases h), (lists_any _ _).mono ?_⟩
  rintro e w' ⟨rfl, rfl⟩
  gi_wp2
  obtain ⟨W0, hW0⟩ : ∃ W0, W0 = ((w.alloc (.cells #[.int .i64 0, .slice none 0 0, .slice none 0 0] 91)).alloc (.cells #[.int .i64 g.kind, .slice none 0 0, .slice none 0 0] 91)).alloc (.cells #[.pointer (some ⟨b, o, none⟩)] 99) := ⟨_, rfl⟩
  have hz0 : W0.heap.size = w.heap.size + 3 := by rw [hW0]; simp
  have hb0 : Below w.heap.size w W0 := by rw [hW0]; exact (((Below.refl _ w).alloc (Nat.le_refl _) _).alloc (by simp) _).alloc (by simp; omega) _
  have g0 : Tc W0 w.heap.size 91 (.int .i64 0) (.slice none 0 0) (.slice none 0 0) := by
    rw [hW0]
    have h1 := tc_new w (.int .i64 0) (.slice none 0 0) (.slice none 0 0) 91
    have h2 := tc_later h1 ((Below.refl _ _).alloc (Nat.le_refl _) (.cells #[.int .i64 g.kind, .slice none 0 0, .slice none 0 0] 91))
    exact tc_later h2 ((Below.refl _ _).alloc (Nat.le_refl _) _)
  have g1 : Tc W0 (w.heap.size + 1) 91 (.int .i64 g.kind) (.slice none 0 0) (.slice none 0 0) := by
    rw [hW0]
    have h1 := tc_new (w.alloc (.cells #[.int .i64 0, .slice none 0 0, .slice none 0 0] 91)) (.int .i64 g.kind) (.slice none 0 0) (.slice none 0 0) 91
    have h2 := tc_later h1 ((Below.refl _ _).alloc (Nat.le_refl _) (.cells #[.pointer (some ⟨b, o, none⟩)] 99))
    simpa using h2
  have b2 : Boxed W0 (w.heap.size + 2) 99 (.pointer (some ⟨b, o, none⟩)) := by
    rw [hW0]
    have := Boxed.new ((w.alloc (.cells #[.int .i64 0, .slice none 0 0, .slice none 0 0] 91)).alloc (.cells #[.int .i64 g.kind, .slice none 0 0, .slice none 0 0] 91)) 99 (.pointer (some ⟨b, o, none⟩))
    simpa using this
  rw [← hW0]
  clear hW0 k0 k1 k2 k3 p1 p2 hne0 hne1
  have hkp : Kp S w W0 := Kp.of_below hb0 HS.out
  refine wpIn_lists (S := fun k => S k ∨ k = w.heap.size + 2) rfl (fun k hk => by rcases hk with hk | hk; have := HS.out k hk; omega; omega) b2.cell (.inr rfl) ((HG.out.below hkp).mono (fun k hk => .inl hk))
    (fun k W => (Tc W w.heap.size 91 (.int .i64 0) (.slice none 0 0) (.slice none 0 0) ∧ ∃ lv, Tc W (w.heap.size + 1) 91 (.int .i64 g.kind) (.slice none 0 0) lv ∧ W.ownsRow (w.heap.size + 3) 39 2 lv (ptK g k).length (ptcs (ptK g k))) ∧ Below w.heap.size w W)
    (fun c W => False) ?oI (fun _ _ _ _ h _ _ => h) ⟨⟨g0, _, g1, ⟨rfl, .inl ⟨rfl, rfl⟩⟩⟩, hb0⟩ ?round ?done ?stop
  case oI =>
    refine OwnFrom.and (fun s X Y row ⟨h1, lv, h2, h3⟩ hg hr => ⟨grown_cells hg hr h1 rfl, lv, grown_cells hg hr h2 rfl, row_grown h3 hg hr⟩) (ownFrom_below (Nat.le_refl _) (by omega))
  case round =>
    rintro l k p a4 c4 W hl hWz hp ⟨⟨t0, lv, t1, hrow⟩, hB⟩ hP
    simp only [List.setIfInBounds_toArray, List.set_cons_succ, List.set_cons_zero]
    gi_wp2
    refine ⟨KeepsFrom.refl _ _, fun W2 hT => ?_⟩
    have s0 : Tc W2 _ _ _ _ _ := hT.cells t0 rfl
    have s1 : Tc W2 _ _ _ _ _ := hT.cells t1 rfl
    have hr2 := row_turn hrow hT
    have hB2 : Below w.heap.size w W2 := hB.trans (hT.below (by omega))
    have hK2 : Kp (fun k => S k ∨ k = w.heap.size + 2) W W2 := Turn_kp hT (fun k hk => by rcases hk with hk | hk; have := HS.out k hk; omega; omega)
    have hsz2 : W.heap.size ≤ W2.heap.size := by rw [hT.size]; exact Nat.le_refl _
    have hkl := ptK_len g k
    have hks := ptK_succ hp
    have hkl2 := ptK_len g (k + 1)
    have hle := (ptot_le g (k + 1)).2
    have hln : (ptK g k).length + p.length ≤ 2097152 := by rw [hks, List.length_append] at hkl2; omega
    obtain ⟨va, vc, W3, hrun, ho3, hg3⟩ := app_pts hr2 (hP.below hK2) hln (by omega) 27
    have hown : ∀ i, lv.ownBlock = some i → w.heap.size + 3 ≤ i := fun i hi => (ownsRow_block hr2 hi).1
    have hKf := keeps_row (B := W0.heap.size) hr2 hg3
    have r0 : Tc W3 _ _ _ _ _ := (hg3.block _ s0.lt (fun e => by have := hown _ e.symm; omega)).trans s0
    have r1 : Tc W3 _ _ _ _ _ := (hg3.block _ s1.lt (fun e => by have := hown _ e.symm; omega)).trans s1
    have hB3 : Below w.heap.size w W3 := hB2.trans ((Below.refl _ _).grown hg3 hB2.size (fun r e => by have := hown r e; omega))
    have hK3 : Kp (fun k => S k ∨ k = w.heap.size + 2) W2 W3 := ⟨hg3.size, fun i hi => hg3.block i (by rcases hi with hi | hi; have := HS.out i hi; omega; omega) (fun e => by have := hown _ e.symm; rcases hi with hi | hi; have := HS.out i hi; omega; omega)⟩
    rw [← hks] at hrun ho3
    obtain ⟨x0, x1, x2⟩ := s1.cells
    obtain ⟨y0, y1, y2⟩ := r1.cells
    obtain ⟨f0, f1, f2⟩ := r1.frozen
    obtain ⟨m, hm⟩ : ∃ m, m = (ptK g (k + 1)).length := ⟨_, rfl⟩
    have Hm := hidM hm
    rw [← hm] at hrun ho3
    have Ho3 := hidM ho3
    have hsz3 := hg3.size
    clear hT t0 t1 hrow hP hp hkl hks hkl2 hle hln hr2 s0 s1 ho3 hm
    gi_wp2_with (gi_at_builtin; refine wpListIn_appR rfl _ _ _ rfl _ _ rfl rfl hrun ?_)
    refine ⟨hKf.trans (keeps_set _ _ _ _), ⟨⟨(Below.heap_setCell _ _ _ _ (by simp)).trans r0, _, set_blockT r1, ?_⟩, hB3.setCell (p := ⟨w.heap.size + 1, 2, none⟩) (by simp) _⟩, (hK2.trans hK3).setCell (by rintro (hk | hk); have := HS.out _ hk; simp at this; omega; simp at hk) _⟩
    rw [← Hm.out]
    exact own_keep Ho3.out (fun i hi => Below.heap_setCell _ _ _ _ (by have := (ownsRow_block Ho3.out hi).1; show i ≠ w.heap.size + 1; omega))
  case done =>
    rintro D W hD ⟨⟨t0, lv, t1, hrow⟩, hB⟩ hK
    rw [ptK_all] at hrow
    obtain ⟨_, _, k0, ⟨v1, k1, p1⟩, ⟨v2, k2, p2⟩, k3⟩ := HG.out.below (Kp.of_below hB HS.out)
    obtain ⟨a1, d1, rfl⟩ := p1.slice
    obtain ⟨hr9, a2, d2, rfl, hrg⟩ := p2
    have hl9 := p1.1
    have hzW := hB.size
    obtain ⟨la, lc, rfl, _⟩ := own_slice hrow
    obtain ⟨N, hN⟩ : ∃ N, N = (ptG g).length := ⟨_, rfl⟩
    have HN := hidM hN
    rw [← hN] at hrow t1
    clear hN
    have Hrow := hidM hrow
    have Hb := hidM hB
    have Ht0 := hidM t0
    have Ht1 := hidM t1
    obtain ⟨x0, x1, x2⟩ := t1.cells
    obtain ⟨f0, f1, f2⟩ := t1.frozen
    obtain ⟨y0, y1, y2⟩ := t0.cells
    obtain ⟨z0, z1, z2⟩ := t0.frozen
    have HK := hidM hK
    have hbW : b ≠ W.heap.size := by omega
    have hn1 : w.heap.size + 1 ≠ W.heap.size := by have := t1.lt; omega
    have hn0 : w.heap.size ≠ W.heap.size := by have := t0.lt; omega
    have hR1 : w.heap.size ≠ w.heap.size + 1 := by omega
    clear hrow hB t0 t1 hK hb0 g0 g1 b2 hkp
    obtain ⟨K, hK⟩ : ∃ K, K = g.kind := ⟨_, rfl⟩
    have HKd := hidM hK
    rw [← hK] at k0 x0 Ht1 hkd ⊢
    clear hK
    obtain ⟨R, hR⟩ : ∃ R, R = w.heap.size := ⟨_, rfl⟩
    have HR := hidM hR
    rw [← hR] at hbw hz0 Hrow Hb Ht0 Ht1 x0 x1 x2 f0 f1 f2 y0 y1 y2 z0 z1 z2 hn0 hn1 hR1 hzW ⊢
    clear hR hS
    have hA : ∀ ob : Obj, Tc (W.alloc ob) R 91 (.int .i64 0) (.slice none 0 0) (.slice none 0 0) ∧ Tc (W.alloc ob) (R + 1) 91 (.int .i64 K) (.slice none 0 0) (.slice la N lc) ∧ Below R w (W.alloc ob) := fun ob =>
      have hb := (Below.refl W.heap.size W).alloc (Nat.le_refl _) ob
      ⟨tc_later Ht0.out hb, tc_later Ht1.out hb, Hb.out.trans (hb.mono hzW)⟩
    have HA := hidM hA
    clear hA hrg p1 hbW
    by_cases e12 : K = 1 ∨ K = 2
    · obtain ⟨X, hX⟩ : ∃ X, X = W.alloc (.cells #[.int .i64 (g.line.length : Int)] 3) := ⟨_, rfl⟩
      have HX := hidM hX
      obtain ⟨q0, q1, q2⟩ := HA.out (.cells #[.int .i64 (g.line.length : Int)] 3)
      rw [← hX] at q0 q1 q2
      obtain ⟨c3, c4, c5⟩ := q0.cells
      obtain ⟨c0, c1, c2⟩ := q1.cells
      obtain ⟨e3, e4, e5⟩ := q0.frozen
      obtain ⟨e0, e1, e2⟩ := q1.frozen
      have Hq := hidM (show Tc X R 91 (.int .i64 0) (.slice none 0 0) (.slice none 0 0) ∧ Tc X (R + 1) 91 (.int .i64 K) (.slice none 0 0) (.slice la N lc) ∧ Below R w X from ⟨q0, q1, q2⟩)
      rw [hX] at c0 c1 c2 c3 c4 c5 e0 e1 e2 e3 e4 e5
      clear hX q0 q1 q2 x0 x1 x2 y0 y1 y2 f0 f1 f2 z0 z1 z2 k2 k3
      have Hsz : Hid (szs g ch = [g.line.length]) := by show _ = _; unfold szs; rw [if_pos (by rw [← HKd.out]; exact e12)]
      have Hfin : Hid (∃ Y, Y = X.setCell ⟨R + 1, 1, none⟩ (.slice (some ⟨W.heap.size, 0, none⟩) 1 1) ∧ Tc Y R 91 (.int .i64 0) (.slice none 0 0) (.slice none 0 0) ∧ Y.ownsRow (R + 2) 3 1 (.slice (some ⟨W.heap.size, 0, none⟩) 1 1) (szs g ch).length (zcs (szs g ch)) ∧ Y.ownsRow (R + 2) 39 2 (.slice la N lc) (ptG g).length (ptcs (ptG g)) ∧ Below R w Y ∧ Y.heap[D]? = some (.deferred (some []))) := by
        obtain ⟨q0, q1, q2⟩ := Hq.out
        have hlt := Ht1.out.lt
        have hD3 := lt_of_block HK.out
        refine ⟨_, rfl, (Below.heap_setCell _ _ _ _ (by simp)).trans q0, ?_, ?_, q2.setCell (p := ⟨R + 1, 1, none⟩) (by simp) _, ?_⟩
        · rw [Hsz.out, HX.out]
          exact own_keep (row_one W (R + 2) 3 _ (by omega)) (fun i hi => Below.heap_setCell _ _ _ _ (by cases hi; show W.heap.size ≠ R + 1; omega))
        · rw [HX.out, ← HN.out]
          exact row_wide (own_keep (own_keep Hrow.out (fun i hi => ((Below.refl W.heap.size W).alloc (Nat.le_refl _) _).block i (ownsRow_block Hrow.out hi).2)) (fun i hi => Below.heap_setCell _ _ _ _ (by have := (ownsRow_block Hrow.out hi).1; show i ≠ R + 1; omega))) (by omega)
        · rw [HX.out]
          exact (Below.heap_setCell _ _ _ _ (by show D ≠ R + 1; omega)).trans ((((Below.refl W.heap.size W).alloc (Nat.le_refl _) _).block D hD3).trans HK.out)
      rcases e12 with h1 | h2
      · subst h1
        gi_wp2
        rw [← HX.out]
        obtain ⟨Y, hY, t9, r9, l9, b9, d9⟩ := Hfin.out
        rw [← hY]
        obtain ⟨u1, u2, u3⟩ := flat_fin (ch := ch) HR.out t9 r9 l9 b9 (by omega) d9
        rw [← HKd.out] at u1 u2 u3
        refine ⟨by simp, .inl ⟨_, _, rfl, run_takeDeferred u1, ?_⟩⟩
        obtain ⟨m0, m1, m2⟩ := u2.cells
        exact ⟨_, by simp [results, Tryz.results60, go_sem, m0, m1, m2], u3⟩
      · subst h2
        gi_wp2
        rw [← HX.out]
        obtain ⟨Y, hY, t9, r9, l9, b9, d9⟩ := Hfin.out
        rw [← hY]
        obtain ⟨u1, u2, u3⟩ := flat_fin (ch := ch) HR.out t9 r9 l9 b9 (by omega) d9
        rw [← HKd.out] at u1 u2 u3
        refine ⟨by simp, .inl ⟨_, _, rfl, run_takeDeferred u1, ?_⟩⟩
        obtain ⟨m0, m1, m2⟩ := u2.cells
        exact ⟨_, by simp [results, Tryz.results60, go_sem, m0, m1, m2], u3⟩
    · by_cases en3 : K = 3
      · subst en3
        obtain ⟨rn, hrn⟩ : ∃ rn, rn = g.rings.length := ⟨_, rfl⟩
        have Hrn := hidM hrn
        rw [← hrn] at k2 hr9
        have Hst : Hid (Ex (R + 1) W W ∧ ∃ sv, Tc W (R + 1) 91 (.int .i64 3) sv (.slice la N lc) ∧ W.ownsRow W.heap.size 3 1 sv 0 (zcs ((g.rings.map List.length).take 0))) := ⟨Ex.refl _ _, _, Ht1.out, ⟨rfl, .inl ⟨rfl, rfl⟩⟩⟩
        have HG3 := hidM (HG.out.below (Kp.of_below (show Below w.heap.size w W by rw [← HR.out]; exact Hb.out) HS.out))
        clear x0 x1 x2 y0 y1 y2 f0 f1 f2 z0 z1 z2 k1 k3 hrn
        gi_wp2
        gi_loopw [48] (fun i W' => ∃ j : Nat, i = .int .i64 (j : Int) ∧ j ≤ rn ∧ Hid (Ex (R + 1) W W' ∧ ∃ sv, Tc W' (R + 1) 91 (.int .i64 3) sv (.slice la N lc) ∧ W'.ownsRow W.heap.size 3 1 sv j (zcs ((g.rings.map List.length).take j)))) (fun i _ => rn - (intOf i).toNat)
        case atStart => exact ⟨0, rfl, Nat.zero_le _, Hst⟩
        case round =>
          obtain ⟨j, rfl, hj, HX⟩ := hrel
          obtain ⟨hE, sv, t1, hrow⟩ := HX.out
          have hsE := hE.size
          have hltR := Ht1.out.lt
          by_cases hlt : j < rn
          · obtain ⟨p, hp⟩ : ∃ p, g.rings[j]? = some p := ⟨_, List.getElem?_eq_getElem (by rw [← Hrn.out]; exact hlt)⟩
            have hKp : Kp S W wr := ⟨hE.size, fun k hk => hE.block k (by have := HS.out k hk; have := HR.out; omega) (by have := HS.out k hk; have := HR.out; omega)⟩
            obtain ⟨_, _, _, _, ⟨v2', k2', p2'⟩, _⟩ := HG3.out
            rw [k2] at k2'
            cases k2'
            obtain ⟨b', o', u, rfl, hSb', cu, hPu⟩ := (p2'.below hKp).at_ hp
            obtain ⟨ua, uc, rfl⟩ := hPu.slice
            obtain ⟨L, hL⟩ : ∃ L, L = (g.rings.map List.length).take j := ⟨_, rfl⟩
            have hLj : L.length = j := by rw [hL, List.length_take, List.length_map, ← Hrn.out]; omega
            have HL1 : Hid ((g.rings.map List.length).take (j + 1) = L ++ [p.length]) := by
              show _ = _
              rw [List.take_add_one, ← hL, List.getElem?_map, hp]
              rfl
            rw [← hL, ← hLj] at hrow
            obtain ⟨va, vc, W3, hrun, ho3, hg3⟩ := app_int (z := p.length) hrow (by omega) hsE 45
            obtain ⟨sa, sc, rfl, _⟩ := own_slice hrow
            have hown : ∀ i, (Value.slice sa L.length sc).ownBlock = some i → W.heap.size ≤ i ∧ i < wr.heap.size := fun i hi => ownsRow_block hrow hi
            have hE3 : Ex (R + 1) W W3 := (hE.alloc (.cells #[.int .i64 (p.length : Int)] 3)).grown hg3 (fun r e => (hown r e).1) (Nat.le_refl _)
            have r1 : Tc W3 _ _ _ _ _ := (hg3.block _ (by have := t1.lt; simp; omega) (fun e => by have := (hown _ e.symm).1; omega)).trans (tc_later t1 ((Below.refl wr.heap.size wr).alloc (Nat.le_refl _) (.cells #[.int .i64 (p.length : Int)] 3)))
            rw [hLj] at hrun ho3 r1 t1
            obtain ⟨x0, x1, x2⟩ := t1.cells
            obtain ⟨y0, y1, y2⟩ := r1.cells
            obtain ⟨f0, f1, f2⟩ := r1.frozen
            have HO := hidM ho3
            have HE3 := hidM hE3
            have Hr1 := hidM r1
            have hnw : R + 1 ≠ wr.heap.size := by have := t1.lt; omega
            clear hE t1 hrow hp hKp p2' hPu hL ho3 hg3 hE3 r1 HX Hst hLj hsE
            gi_wp2_with (gi_at_builtin; refine wpListIn_appV rfl _ _ _ rfl _ _ rfl rfl hrun ?_)
            go_roundw
            case rel =>
              refine ⟨j + 1, by go_num, by omega, HE3.out.set _ _, _, set_blockT Hr1.out, ?_⟩
              rw [HL1.out]
              exact own_keep HO.out (fun i hi => Below.heap_setCell _ _ _ _ (by have := (ownsRow_block HO.out hi).1; show i ≠ R + 1; omega))
            case measure => simp [intOf]; omega
          · have hjn : j = rn := by omega
            have htk : (g.rings.map List.length).take j = szs g ch := by
              rw [List.take_of_length_le (by rw [List.length_map, ← Hrn.out]; omega)]
              unfold szs
              rw [← HKd.out]
              rfl
            have hjl : j = (szs g ch).length := by rw [← htk, List.length_take, List.length_map, ← Hrn.out]; omega
            rw [htk] at hrow
            have q0 : Tc wr R 91 (.int .i64 0) (.slice none 0 0) (.slice none 0 0) := (hE.block R (by omega) (by omega)).trans Ht0.out
            obtain ⟨sa, sc, rfl, _⟩ := own_slice hrow
            obtain ⟨c3, c4, c5⟩ := q0.cells
            obtain ⟨e3, e4, e5⟩ := q0.frozen
            obtain ⟨c0, c1, c2⟩ := t1.cells
            have hD3 := lt_of_block HK.out
            have HF := hidM (flat_fin (ch := ch) HR.out q0 (row_wide (by rw [← hjl]; exact hrow) (by omega)) (row_wide (by rw [← HN.out]; exact own_keep Hrow.out (fun i hi => hE.block i (ownsRow_block Hrow.out hi).2 (by have := (ownsRow_block Hrow.out hi).1; omega))) (by omega)) (Hb.out.trans (hE.toBelow (by omega) (by omega))) (by omega) ((hE.block D hD3 (by omega)).trans HK.out))
            have hnl : ¬ ((j : Int) < (rn : Int)) := by omega
            clear hE hrow t1 q0 hjl htk HX Hst hjn hlt
            gi_wp2
            obtain ⟨u1, u2, u3⟩ := HF.out
            rw [← HKd.out] at u1 u2 u3
            refine ⟨by simp, .inl ⟨_, _, rfl, run_takeDeferred u1, ?_⟩⟩
            obtain ⟨m0, m1, m2⟩ := u2.cells
            exact ⟨_, by simp [results, Tryz.results60, go_sem, m0, m1, m2], u3⟩
      · obtain ⟨X, hX⟩ : ∃ X, X = W.alloc (.cells #[.int .i64 (ch : Int)] 3) := ⟨_, rfl⟩
        have HX := hidM hX
        obtain ⟨q0, q1, q2⟩ := HA.out (.cells #[.int .i64 (ch : Int)] 3)
        rw [← hX] at q0 q1 q2
        obtain ⟨c3, c4, c5⟩ := q0.cells
        obtain ⟨c0, c1, c2⟩ := q1.cells
        obtain ⟨e3, e4, e5⟩ := q0.frozen
        obtain ⟨e0, e1, e2⟩ := q1.frozen
        have Hq := hidM (show Tc X R 91 (.int .i64 0) (.slice none 0 0) (.slice none 0 0) ∧ Tc X (R + 1) 91 (.int .i64 K) (.slice none 0 0) (.slice la N lc) ∧ Below R w X from ⟨q0, q1, q2⟩)
        rw [hX] at c0 c1 c2 c3 c4 c5 e0 e1 e2 e3 e4 e5
        clear hX q0 q1 q2 x0 x1 x2 y0 y1 y2 f0 f1 f2 z0 z1 z2 k2 k1
        have Hsz : Hid (szs g ch = [ch]) := by show _ = _; unfold szs; rw [if_neg (by rw [← HKd.out]; exact e12), if_neg (by rw [← HKd.out]; exact en3)]
        have Hfin : Hid (∃ Y, Y = X.setCell ⟨R + 1, 1, none⟩ (.slice (some ⟨W.heap.size, 0, none⟩) 1 1) ∧ Tc Y R 91 (.int .i64 0) (.slice none 0 0) (.slice none 0 0) ∧ Y.ownsRow (R + 2) 3 1 (.slice (some ⟨W.heap.size, 0, none⟩) 1 1) (szs g ch).length (zcs (szs g ch)) ∧ Y.ownsRow (R + 2) 39 2 (.slice la N lc) (ptG g).length (ptcs (ptG g)) ∧ Below R w Y ∧ Y.heap[D]? = some (.deferred (some []))) := by
          obtain ⟨q0, q1, q2⟩ := Hq.out
          have hlt := Ht1.out.lt
          have hD3 := lt_of_block HK.out
          refine ⟨_, rfl, (Below.heap_setCell _ _ _ _ (by simp)).trans q0, ?_, ?_, q2.setCell (p := ⟨R + 1, 1, none⟩) (by simp) _, ?_⟩
          · rw [Hsz.out, HX.out]
            exact own_keep (row_one W (R + 2) 3 _ (by omega)) (fun i hi => Below.heap_setCell _ _ _ _ (by cases hi; show W.heap.size ≠ R + 1; omega))
          · rw [HX.out, ← HN.out]
            exact row_wide (own_keep (own_keep Hrow.out (fun i hi => ((Below.refl W.heap.size W).alloc (Nat.le_refl _) _).block i (ownsRow_block Hrow.out hi).2)) (fun i hi => Below.heap_setCell _ _ _ _ (by have := (ownsRow_block Hrow.out hi).1; show i ≠ R + 1; omega))) (by omega)
          · rw [HX.out]
            exact (Below.heap_setCell _ _ _ _ (by show D ≠ R + 1; omega)).trans ((((Below.refl W.heap.size W).alloc (Nat.le_refl _) _).block D hD3).trans HK.out)
        have d1 : K ≠ 1 := fun e => e12 (Or.inl e)
        have d2 : K ≠ 2 := fun e => e12 (Or.inr e)
        gi_wp2
        rw [← HX.out]
        obtain ⟨Y, hY, t9, r9, l9, b9, d9⟩ := Hfin.out
        rw [← hY]
        obtain ⟨u1, u2, u3⟩ := flat_fin (ch := ch) HR.out t9 r9 l9 b9 (by omega) d9
        rw [← HKd.out] at u1 u2 u3
        refine ⟨by simp, .inl ⟨_, _, rfl, run_takeDeferred u1, ?_⟩⟩
        obtain ⟨m0, m1, m2⟩ := u2.cells
        exact ⟨_, by simp [results, Tryz.results60, go_sem, m0, m1, m2], u3⟩
  case stop =>
    rintro D c W hD h hK
    exact h.elim
end Go.Proofs.YtgobnjeankjkjaaGreatDoor

/- tree.Flat. -/
namespace Go.Proofs.YtgobnjeankjkjaaGreatDoor
open Go.ChangeShapes Go.WideShapes Go.ChangeAt Go.RowKit Go.Shelf
open Tr Rf Wk Mk
set_option linter.unusedVariables false
attribute [local go_sem] Oper.semAt_some
namespace Tr
/-- a node's lists: in blocks of S -/
structure Nls (S : Nat → Prop) (W : World) (sv lv : Value) (it : It) : Prop where
  sz : ∃ base, W.ownsRow base 3 1 sv (szs it.g it.ch).length (zcs (szs it.g it.ch))
  ln : ∃ base, W.ownsRow base 39 2 lv (ptG it.g).length (ptcs (ptG it.g))
  szS : ∀ i, sv.ownBlock = some i → S i
  lnS : ∀ i, lv.ownBlock = some i → S i
theorem Nls.below {S S' : Nat → Prop} {W W' : World} {sv lv : Value} {it : It} (h : Nls S W sv lv it) (hk : ∀ i, S i → W'.heap[i]? = W.heap[i]?) (hS : ∀ i, S i → S' i) : Nls S' W' sv lv it := by
  obtain ⟨⟨b1, h1⟩, ⟨b2, h2⟩, h3, h4⟩ := h
  exact ⟨⟨b1, own_keep h1 (fun g hg => hk g (h3 g hg))⟩, ⟨b2, own_keep h2 (fun g hg => hk g (h4 g hg))⟩, fun i hi => hS i (h3 i hi), fun i hi => hS i (h4 i hi)⟩
/-- a row of nodes -/
def Nrow (S : Nat → Prop) (W : World) : List Value → List It → Prop
  | xs, [] => xs = []
  | xs, it :: its => ∃ x1 x2 ys, xs = .int .i64 it.g.kind :: x1 :: x2 :: ys ∧ Nls S W x1 x2 it ∧ Nrow S W ys its
theorem Nrow.below {S S' : Nat → Prop} {W W' : World} (hk : ∀ i, S i → W'.heap[i]? = W.heap[i]?) (hS : ∀ i, S i → S' i) : ∀ {its : List It} {xs : List Value}, Nrow S W xs its → Nrow S' W' xs its
  | [], _, h => h
  | _ :: _, _, ⟨x1, x2, ys, e, h1, h2⟩ => ⟨x1, x2, ys, e, h1.below hk hS, Nrow.below hk hS h2⟩
theorem Nrow.snoc {S : Nat → Prop} {W : World} {x1 x2 : Value} {it : It} (hn : Nls S W x1 x2 it) : ∀ {its : List It} {xs : List Value}, Nrow S W xs its → Nrow S W (xs ++ [.int .i64 it.g.kind, x1, x2]) (its ++ [it])
  | [], _, h => ⟨x1, x2, [], by rw [show _ = [] from h]; rfl, hn, rfl⟩
  | _ :: _, _, ⟨y1, y2, ys, e, h1, h2⟩ => ⟨y1, y2, ys ++ [.int .i64 it.g.kind, x1, x2], by rw [e]; rfl, h1, Nrow.snoc hn h2⟩
theorem info_node : (Tryz.prog.info? 91).map (fun i => (i.zero, i.size, i.bytes)) = some (some (.agg #[.int .i64 0, .slice none 0 0, .slice none 0 0]), 3, 56) := by kernel_rfl
/-- nodes in memory: the row of them and what they hold -/
def Nst (B : Nat) (W : World) (ov : Value) (its : List It) : Prop :=
  ∃ xs, W.ownsRow B 91 3 ov its.length xs ∧ Nrow (fun i => B ≤ i ∧ i < W.heap.size ∧ ov.ownBlock ≠ some i) W xs its
theorem Nst.nil (B : Nat) (W : World) : Nst B W (.slice none 0 0) [] := ⟨[], ⟨rfl, .inl ⟨rfl, rfl⟩⟩, rfl⟩
theorem Nst.keep {B : Nat} {W W' : World} {ov : Value} {its : List It} (h : Nst B W ov its) (hs : W.heap.size ≤ W'.heap.size) (hk : ∀ i c t f, B ≤ i → t ≠ 142 → W.heap[i]? = some (.cells c t f) → W'.heap[i]? = some (.cells c t f)) : Nst B W' ov its := by
  obtain ⟨xs, h1, h2⟩ := h
  have hrow : ∀ {base n size : Nat} {e : TypeId} {v : Value} {ys : List Value}, e ≠ 142 → (∀ i, v.ownBlock = some i → B ≤ i) → W.ownsRow base e size v n ys → W'.ownsRow base e size v n ys := by
    intro base n size e v ys he hv h
    obtain ⟨h0, h⟩ := h
    refine ⟨h0, ?_⟩
    rcases h with h | ⟨g, cap, cur, rfl, hb, hc, h1⟩
    · exact Or.inl h
    · exact Or.inr ⟨g, cap, cur, rfl, hb, hk g _ _ _ (hv g rfl) he hc, h1⟩
  refine ⟨xs, hrow (by decide) (fun i hi => (ownsRow_block h1 hi).1) h1, ?_⟩
  have : ∀ {its : List It} {xs : List Value}, Nrow (fun i => B ≤ i ∧ i < W.heap.size ∧ ov.ownBlock ≠ some i) W xs its → Nrow (fun i => B ≤ i ∧ i < W'.heap.size ∧ ov.ownBlock ≠ some i) W' xs its := by
    intro its
    induction its with
    | nil => intro xs h; exact h
    | cons it its ih =>
      intro xs h
      obtain ⟨x1, x2, ys, e0, ⟨⟨b1, q1⟩, ⟨b2, q2⟩, q3, q4⟩, q5⟩ := h
      exact ⟨x1, x2, ys, e0, ⟨⟨b1, hrow (by decide) (fun i hi => (q3 i hi).1) q1⟩, ⟨b2, hrow (by decide) (fun i hi => (q4 i hi).1) q2⟩, fun i hi => ⟨(q3 i hi).1, by have := (q3 i hi).2.1; omega, (q3 i hi).2.2⟩, fun i hi => ⟨(q4 i hi).1, by have := (q4 i hi).2.1; omega, (q4 i hi).2.2⟩⟩, ih q5⟩
  exact this h2
theorem kr_row {ga base n size : Nat} {e t : TypeId} {v : Value} {xs : List Value} {W W' : World} (he : e ≠ t) (h : W.ownsRow base e size v n xs) (hb : ga < base) (hg : W.grownBy W' v.ownBlock) : Kr ga t W W' := by
  refine ⟨hg.size, fun o ho _ => (hg.block ga (Array.getElem?_eq_some_iff.1 ho).1 (fun q => ?_)).trans ho, fun k c f hk ho => (hg.block k (Array.getElem?_eq_some_iff.1 ho).1 (fun q => ?_)).trans ho⟩
  · have := (ownsRow_block h q.symm).1; omega
  · rcases h.2 with ⟨rfl, _⟩ | ⟨g, cap, cur, rfl, _, hc', _⟩
    · cases q
    · cases q
      rw [hc'] at ho
      cases ho
      exact he rfl
/-- a node more -/
theorem node_step {B : Nat} {W W3 : World} {ov sv lv : Value} {its : List It} {it : It} (hB : B ≤ W.heap.size) (h : Nst B W ov its) (hn : its.length ≤ 1048576) (hb : Below W.heap.size W W3) (hs : W3.ownsRow W.heap.size 3 1 sv (szs it.g it.ch).length (zcs (szs it.g it.ch))) (hl : W3.ownsRow W.heap.size 39 2 lv (ptG it.g).length (ptcs (ptG it.g))) (ty : TypeId) :
    ∃ va vc W4, (Builtin.append_ #[84, 84] ty #[ov, .slice (some ⟨W3.heap.size, 0, none⟩) 1 1]).run Tryz.prog (W3.alloc (.cells #[.int .i64 it.g.kind, sv, lv] 91)) = .ok (.slice va (its.length + 1) vc) W4 ∧ (W3.alloc (.cells #[.int .i64 it.g.kind, sv, lv] 91)).grownBy W4 ov.ownBlock ∧ (∀ i, ov.ownBlock = some i → B ≤ i ∧ i < W.heap.size) ∧
      (∀ B', KeepsFrom B' (W3.alloc (.cells #[.int .i64 it.g.kind, sv, lv] 91)) W4) ∧ (∀ ga, ga < B → Kr ga 142 (W3.alloc (.cells #[.int .i64 it.g.kind, sv, lv] 91)) W4) ∧ Nst B W4 (.slice va (its.length + 1) vc) (its ++ [it]) := by
  obtain ⟨i, hi, hz0, hz1, hz2⟩ := info_partsT info_node
  obtain ⟨xs, h1, h2⟩ := h
  have hs3 := hb.size
  have hov : ∀ i, ov.ownBlock = some i → B ≤ i ∧ i < W.heap.size := fun i hi => ownsRow_block h1 hi
  obtain ⟨sa, sc, rfl, _⟩ := own_slice hs
  obtain ⟨la, lc, rfl, _⟩ := own_slice hl
  have hbA : Below W3.heap.size W3 (W3.alloc (.cells #[.int .i64 it.g.kind, .slice sa (szs it.g it.ch).length sc, .slice la (ptG it.g).length lc] 91)) := (Below.refl W3.heap.size W3).alloc (Nat.le_refl _) _
  have hYc : (W3.alloc (.cells #[.int .i64 it.g.kind, .slice sa (szs it.g it.ch).length sc, .slice la (ptG it.g).length lc] 91)).heap[W3.heap.size]? = some (.cells #[.int .i64 it.g.kind, .slice sa (szs it.g it.ch).length sc, .slice la (ptG it.g).length lc] 91 (0, 0)) := World.alloc_heap_new W3 _
  obtain ⟨Y, hY⟩ : ∃ Y, Y = W3.alloc (.cells #[.int .i64 it.g.kind, .slice sa (szs it.g it.ch).length sc, .slice la (ptG it.g).length lc] 91) := ⟨_, rfl⟩
  have hYz : Y.heap.size = W3.heap.size + 1 := by rw [hY]; simp
  rw [← hY] at hbA hYc ⊢
  have hkY : ∀ i, i < W.heap.size → Y.heap[i]? = W.heap[i]? := fun i hi => (hbA.block i (by omega)).trans (hb.block i hi)
  have hrY := own_keep (w' := Y) h1 (fun g hg => hkY g (hov g hg).2)
  obtain ⟨v', W4, hr, ho, hg, _, hob⟩ := run_append_own_at (P := Tryz.prog) Y B 84 ty 91 i _ 3 56 Tryz.underlying84 hi hz0 hz1 hz2 rfl (by decide) ov its.length xs hrY ⟨W3.heap.size, 0, none⟩ 1 1 [.int .i64 it.g.kind, .slice sa (szs it.g it.ch).length sc, .slice la (ptG it.g).length lc] rfl
    (fun k u h => by
      have hadd : Addr.add ⟨W3.heap.size, 0, none⟩ k = ⟨W3.heap.size, k, none⟩ := by unfold Addr.add; split <;> simp_all
      rw [hadd, cell_of hYc k]
      simpa using h) (by simp [Value.oneCell']) (by unfold maxLen; omega) (by omega) (by omega)
  obtain ⟨va, vc, rfl, _⟩ := own_slice ho
  have hsz := hg.size
  have hnew : ∀ m, m < Y.heap.size → ov.ownBlock ≠ some m → (Value.slice va (its.length + 1) vc).ownBlock ≠ some m := fun m h3 h4 => by
    rcases hob with e | e
    · rw [e]; exact h4
    · rw [e]; intro h; cases h; omega
  have hk4 : ∀ i, i < Y.heap.size → ov.ownBlock ≠ some i → W4.heap[i]? = Y.heap[i]? := fun i h5 h6 => hg.block i h5 (fun e => h6 e.symm)
  refine ⟨va, vc, W4, hr, hg, hov, fun _ => keeps_row hrY hg, fun ga hga => kr_row (by decide) hrY hga hg, xs ++ [.int .i64 it.g.kind, .slice sa (szs it.g it.ch).length sc, .slice la (ptG it.g).length lc], by rw [List.length_append]; exact ho, ?_⟩
  have ha : ∀ {v : Value} {n size : Nat} {e : TypeId} {ys : List Value}, W3.ownsRow W.heap.size e size v n ys → W4.ownsRow W.heap.size e size v n ys ∧ ∀ i, v.ownBlock = some i → B ≤ i ∧ i < W4.heap.size ∧ (Value.slice va (its.length + 1) vc).ownBlock ≠ some i := by
    intro v n size e ys hv
    have hb9 : ∀ i, v.ownBlock = some i → W.heap.size ≤ i ∧ i < W3.heap.size := fun i hi => ownsRow_block hv hi
    have hno : ∀ i, v.ownBlock = some i → ov.ownBlock ≠ some i := fun i hi e => by have := (hov i e).2; have := (hb9 i hi).1; omega
    refine ⟨own_keep hv (fun g hg => (hk4 g (by have := (hb9 g hg).2; omega) (hno g hg)).trans (hbA.block g (hb9 g hg).2)), fun i hi => ⟨by have := (hb9 i hi).1; omega, by have := (hb9 i hi).2; omega, hnew i (by have := (hb9 i hi).2; omega) (hno i hi)⟩⟩
  obtain ⟨a1, a2⟩ := ha hs
  obtain ⟨a3, a4⟩ := ha hl
  refine Nrow.snoc ⟨⟨_, a1⟩, ⟨_, a3⟩, a2, a4⟩ (Nrow.below (fun i q => (hk4 i (by have := q.2.1; omega) q.2.2).trans (hkY i q.2.1)) (fun i q => ⟨q.1, by have := q.2.1; omega, hnew i (by have := q.2.1; omega) q.2.2⟩) h2)
theorem Nst.wider {B B' : Nat} {W : World} {ov : Value} {its : List It} (h : Nst B W ov its) (hB : B' ≤ B) : Nst B' W ov its := by
  obtain ⟨xs, h1, h2⟩ := h
  exact ⟨xs, row_wide h1 hB, h2.below (fun _ _ => rfl) (fun i q => ⟨by have := q.1; omega, q.2⟩)⟩
/-- what Flat answers of a right tree -/
def Pfn (w : World) (its : List It) (e : Ending) (w' : World) : Prop :=
  ∃ ov, e = .returned (.tuple #[ov, .nilIface]) ∧ Nst w.heap.size w' ov its ∧ Below w.heap.size w w'
end Tr
set_option maxRecDepth 100000 in
set_option maxHeartbeats 2000000 in
theorem flatIn_ok {n : Nat} {w : World} {v : Value} {T : Tree} (hT : TV (fun k => k < w.heap.size) w v T) (ho : OkT T) :
    CallsIn Fence.wide n Tryz.prog 35 #[v] w (Pfn w ((fo1 T).pre 1 0)) := by
  have HT := hidM hT
  have hs := ho.sum
  have hc1 := cnt_fsum (fo1 T)
  have hcnt : (fo1 T).cnt ≤ 549755813888 := by omega
  have htot : Hid (∀ it ∈ (fo1 T).pre 1 0, tot it.g ≤ 65536) := fun it hi => by have := tot_fsum _ _ _ it hi; omega
  obtain ⟨g, ch, v1, v2, pa, pc, rfl, hfo, hk, p1, p2, p3, p4⟩ := hT
  obtain ⟨f, hfd⟩ : ∃ f, f = fo1 T := ⟨_, rfl⟩
  have hf : f.len = 1 := by rw [hfd]; rfl
  have HG : Hid (GeoV (fun k => k < w.heap.size) w (.agg #[.int .i64 g.kind, v1, v2, .slice pa ch.len pc]) f) := by rw [hfd]; exact HT.out
  obtain ⟨_, a1, d1, rfl, _⟩ := p1
  obtain ⟨_, a2, d2, rfl, _⟩ := p2
  have hbox := HG.out.box (t := 31) (fun k hk => hk)
  obtain ⟨V0, hV0⟩ : ∃ V0, V0 = w.alloc (.cells #[.int .i64 g.kind, .slice a1 g.line.length d1, .slice a2 g.rings.length d2, .slice pa ch.len pc] 31) := ⟨_, rfl⟩
  have hz0 : V0.heap.size = w.heap.size + 1 := by rw [hV0]; simp
  have hbV : Below w.heap.size w V0 := by rw [hV0]; exact (Below.refl _ w).alloc (Nat.le_refl _) _
  have hCk := check_ok (w := V0) ((HT.out.below (Kp.of_below hbV (fun k hk => hk))).mono (S' := fun k => k < V0.heap.size) (fun k hk => by omega)) ho
  rw [← hV0] at hbox
  rw [← hfd] at hcnt htot hc1 hs ⊢
  clear hfo hk p3 p4 hfd
  refine callsIn_of_wp_marks Tryz.func35 rfl trivial ?_ rfl
  simp only [Tryz.ntmps35, List.size_toArray, List.length_cons, List.length_nil, Nat.reduceAdd, Nat.reduceSub, Array.replicate_succ, Array.replicate_zero, List.push_toArray, List.append_toArray, List.nil_append, List.cons_append]
  gi_wp2
  rw [← hV0]
  refine ⟨trivial, fun h => (by cases h), (callsIn_wide.2 hCk).mono ?_⟩
  rintro e W1 ⟨rfl, hb1⟩
  clear hCk
  gi_wp2
  refine ⟨trivial, fun h => (by cases h), (all_any _ _).mono ?_⟩
  rintro e W ⟨rfl, rfl⟩
  gi_wp2
  have hs1 := hb1.size
  have b1 := (Boxed.new W1 84 (.slice none 0 0)).alloc (.cells #[.pointer (some ⟨w.heap.size, 0, none⟩)] 99)
  have b2 := Boxed.new (W1.alloc (.cells #[.slice none 0 0] 84)) 99 (.pointer (some ⟨w.heap.size, 0, none⟩))
  have hb0 : Below W1.heap.size W1 ((W1.alloc (.cells #[.slice none 0 0] 84)).alloc (.cells #[.pointer (some ⟨w.heap.size, 0, none⟩)] 99)) := ((Below.refl _ W1).alloc (Nat.le_refl _) _).alloc (by simp) _
  obtain ⟨W0, hW0⟩ : ∃ W0, W0 = (W1.alloc (.cells #[.slice none 0 0] 84)).alloc (.cells #[.pointer (some ⟨w.heap.size, 0, none⟩)] 99) := ⟨_, rfl⟩
  have hz : W0.heap.size = W1.heap.size + 2 := by rw [hW0]; simp
  simp only [World.size_alloc] at b2
  rw [← hW0] at b1 b2 hb0 ⊢
  have hF := (hbox.below (Kp.of_below (hb1.trans (hb0.mono hs1)) (fun k hk => by rcases hk with hk | hk <;> omega))).mono (S' := (· < w.heap.size + 1)) (fun k hk => by rcases hk with hk | hk <;> omega)
  have hBw : Below w.heap.size w W0 := hbV.trans ((hb1.mono (by omega)).trans (hb0.mono (by omega)))
  obtain ⟨L, hL⟩ : ∃ L, L = f.pre 1 0 := ⟨_, rfl⟩
  have hcL : f.cnt = L.length := by rw [hL, Fo.pre_length]
  have HL : Hid (L = f.pre 1 0) := hL
  have hLn : L.length ≤ 1048576 := by omega
  rw [← hL] at htot ⊢
  obtain ⟨BO, hBO⟩ : ∃ BO, BO = W1.heap.size := ⟨_, rfl⟩
  rw [← hBO] at b1 b2 hz hs1 ⊢
  clear hW0 hV0 hbox hb0 hbV hL hb1 hBO
  refine wpIn_all (S := fun k => k < w.heap.size + 1 ∨ k = BO + 1) rfl (fun k hk => by rcases hk with hk | hk <;> omega) b2.cell (.inr rfl) (hF.mono (fun k hk => .inl hk)) hf hcnt
    (fun ga k W => (∃ ov, Boxed W BO 84 ov ∧ Nst (ga + 1) W ov (L.take k)) ∧ Below w.heap.size w W)
    (fun c W => False)
    (fun ga => OwnFrom.and (fun s X Y row ⟨ov, h1, h2⟩ hg hr => ⟨ov, grown_cells hg hr h1 rfl, h2.keep hg.size (fun i c t f _ _ hi => grown_cells hg hr hi rfl)⟩) (ownFrom_below (Nat.le_refl _) (by omega)))
    (fun _ _ _ _ h _ _ => h)
    (fun ga k W W' hga ho ⟨⟨ov, h1, h2⟩, h3⟩ => ⟨⟨ov, ho.boxed h1 (by omega), h2.keep ho.size (fun i c t f hi ht hc => ho.block i _ hc (.inl (by omega)) (.inr (fun c' f' e => by cases e; exact ht rfl)))⟩, ho.low h3 (by omega) (Nat.le_refl _)⟩)
    (fun ga hga => ⟨⟨_, b1, Nst.nil _ _⟩, hBw⟩) ?round ?done ?stop
  case round =>
    rintro l ga k it b o qa qc W hl hga hgW hWz hit hpc ⟨⟨ov, c1, hN⟩, hB⟩ hG
    rw [← HL.out] at hit
    simp only [List.setIfInBounds_toArray, List.set_cons_succ, List.set_cons_zero]
    gi_wp2
    refine ⟨(KeepsOthers.alloc _ _).from _, fun W2 hT => ?_⟩
    have hR := round_start (B := W0.heap.size) hl hWz hT
    have hSb : ∀ k, (k < w.heap.size + 1 ∨ k = BO + 1) → k < W0.heap.size := fun k hk => by rcases hk with hk | hk <;> omega
    have hK2 := hR.kp hSb
    have hKr2 := hR.kr ga 142
    have e1 := hR.boxed c1
    have hB2 : Below w.heap.size w W2 := hB.trans (hR.below.mono (by omega))
    have hsp := hR.new rfl
    have hz2 := hR.size
    have hN2 : Nst (ga + 1) W2 ov (L.take k) := hN.keep (by omega) (fun i c t f _ _ hi => hR.cells _ _ hi rfl)
    have hkL : k < L.length := (List.getElem?_eq_some_iff.1 hit).1
    have htk : L.take (k + 1) = L.take k ++ [it] := by rw [List.take_add_one, hit]; rfl
    have hmem := htot.out it (List.mem_of_getElem? hit)
    have hFl := flat_any (n := 0) (w := W2.drew) (S := fun k => k < w.heap.size + 1 ∨ k = BO + 1) (fun k hk => by show k < W2.heap.size; have := hSb k hk; omega) ((hG.below hK2).below ⟨Nat.le_refl _, fun _ _ => rfl⟩) hpc.1 (by omega)
    have hFl := callsIn_wide.1 hFl
    have x1 : W2.drew.cell? ⟨BO, 0, none⟩ = some ov := e1.cell
    have sp0 : W2.drew.cell? ⟨W.heap.size, 0, none⟩ = some (.pointer (some ⟨b, o, none⟩)) := cell_of hsp 0
    gi_wp2
    refine Rg.wpIn_round_orders (by rintro ⟨_, _, h⟩; exact h) (by kernel_rfl) (by kernel_rfl) [[0, 1, 2, 3, 4, 5, 6], [1, 0, 2, 3, 4, 5, 6], [1, 2, 0, 3, 4, 5, 6], [1, 2, 3, 0, 4, 5, 6], [1, 2, 3, 4, 0, 5, 6]] (by kernel_rfl) (by kernel_rfl) ?_
    intro s hs
    have hlen : (L.take k).length = k := by rw [List.length_take]; omega
    obtain ⟨oa, oc, rfl⟩ : ∃ oa oc, ov = .slice oa k oc := by
      obtain ⟨_, h1, _⟩ := hN2
      obtain ⟨oa, oc, e, _⟩ := own_slice h1
      exact ⟨oa, oc, by rw [e, hlen]⟩
    have HN2 := hidM hN2
    have Hlen := hidM hlen
    have HR2 := hidM (show Below w.heap.size w W2 ∧ Boxed W2 BO 84 (.slice oa k oc) ∧ Kp (fun k => k < w.heap.size + 1 ∨ k = BO + 1) W W2 ∧ Kr ga 142 W W2 ∧ L.take (k + 1) = L.take k ++ [it] from ⟨hB2, e1, hK2, hKr2, htk⟩)
    have HSb := hidM hSb
    clear hN2 hlen hB2 e1 hK2 hKr2 htk hSb hsp hR hT hB hN hG c1 hmem hit hF HT HG
    simp only [List.mem_cons, List.not_mem_nil, or_false] at hs
    rcases hs with rfl | rfl | rfl | rfl | rfl
    all_goals simp only [Rg.pick, Rg.pick.nthD]
    all_goals
      go_wp2_with fail
      refine hFl.mono ?_
      rintro e W3 ⟨sv, lv, rfl, hs3, hl3, hb3⟩
      clear hFl
      obtain ⟨n1, hn1⟩ : ∃ n1, n1 = (szs it.g it.ch).length := ⟨_, rfl⟩
      obtain ⟨n2, hn2⟩ : ∃ n2, n2 = (ptG it.g).length := ⟨_, rfl⟩
      obtain ⟨sa, sc, ea, _⟩ := own_slice hs3
      obtain ⟨la, lc, eb, _⟩ := own_slice hl3
      rw [← hn1] at ea
      rw [← hn2] at eb
      subst ea eb
      obtain ⟨q1, q2, q3, q4, q5⟩ := HR2.out
      obtain ⟨va, vc, W4, hrun, hg4, hov, hkf, hkr, hN4⟩ := node_step (B := ga + 1) (W := W2.drew) (it := it) (by show ga + 1 ≤ W2.heap.size; omega) (HN2.out.keep (W' := W2.drew) (Nat.le_refl _) (fun i c t f _ _ h => h)) (by rw [Hlen.out]; omega) hb3 hs3 hl3 84
      rw [Hlen.out] at hrun
      rw [Hlen.out, ← q5] at hN4
      have z3 : W2.heap.size ≤ W3.heap.size := hb3.size
      have r3 : Boxed W3 BO 84 (.slice oa k oc) := (hb3.block BO (by show BO < W2.heap.size; omega)).trans q2
      have r4 := r3.alloc (.cells #[.int .i64 it.g.kind, .slice sa n1 sc, .slice la n2 lc] 91)
      have r5 : Boxed W4 BO 84 (.slice oa k oc) := (hg4.block BO (by simp; omega) (fun e => by have := (hov BO e.symm).1; omega)).trans r4
      have y3 := r3.cell
      have y4 := r4.cell
      have y5 := r5.cell
      have f5 := r5.frozen
      have hb4 : Below w.heap.size w W4 := (q1.trans ((⟨hb3.os, hb3.tape, hb3.output, hb3.size, hb3.block⟩ : Below W2.heap.size W2 W3).mono q1.size)).trans ((((Below.refl _ W3).alloc (Nat.le_refl _) _).mono (by have := q1.size; omega)).trans ((Below.refl _ _).grown hg4 (by have := q1.size; simp; omega) (fun r e => by have := (hov r e).1; omega)))
      have hkp4 : Kp (fun k => k < w.heap.size + 1 ∨ k = BO + 1) W2 W4 := by
        refine ⟨by have := hg4.size; simp at this; omega, fun i hi => ?_⟩
        have hi0 := HSb.out i hi
        exact (hg4.block i (by simp; omega) (fun e => by have := (hov i e.symm).1; omega)).trans ((Below.heap_alloc W3 _ i (by omega)).trans (hb3.block i (by show i < W2.heap.size; omega)))
      have hkr4 : Kr ga 142 W2 W4 := by
        have h3 : Kr ga 142 W2 W3 := ⟨z3, fun o ho _ => (hb3.block ga (Array.getElem?_eq_some_iff.1 ho).1).trans ho, fun i c f _ ho => (hb3.block i (Array.getElem?_eq_some_iff.1 ho).1).trans ho⟩
        exact h3.trans ((Kr.alloc ga _ W3 _).trans (hkr ga (by omega)))
      have hkf4 : KeepsFrom W0.heap.size W2 W4 := by
        have h3 : KeepsFrom W0.heap.size W2 W3 := ⟨z3, fun i o _ ho _ => (hb3.block i (Array.getElem?_eq_some_iff.1 ho).1).trans ho⟩
        exact h3.trans (((KeepsOthers.alloc _ _).from _).trans (hkf _))
      have HF := hidM (show Below w.heap.size w W4 ∧ Kp (fun k => k < w.heap.size + 1 ∨ k = BO + 1) W2 W4 ∧ Kr ga 142 W2 W4 ∧ KeepsFrom W0.heap.size W2 W4 ∧ Boxed W4 BO 84 (.slice oa k oc) ∧ Nst (ga + 1) W4 (.slice va (k + 1) vc) (L.take (k + 1)) from ⟨hb4, hkp4, hkr4, hkf4, r5, hN4⟩)
      clear hb4 hkp4 hkr4 hkf4 r3 r4 r5 hN4 hs3 hl3 hb3 hg4 hov hkf hkr q1 q2 q3 q4 q5 hn1 hn2
      go_wp2_with (at_builtin; refine wpList_appendT rfl _ _ _ rfl _ _ rfl rfl hrun ?_)
      obtain ⟨u1, u2, u3, u4, u5, u6⟩ := HF.out
      obtain ⟨q1, q2, q3, q4, q5⟩ := HR2.out
      refine ⟨u4.trans (keeps_set _ _ _ _), ⟨⟨_, u5.set _, u6.keep (by simp [World.setCell]) (fun i c t f hi _ hc => (Below.heap_setCell _ _ _ _ (by show i ≠ BO; omega)).trans hc)⟩, u1.setCell (p := ⟨BO, 0, none⟩) (by show w.heap.size ≤ BO; omega) _⟩, (q3.trans u2).setCell (by rintro (hk | hk); have : BO < w.heap.size + 1 := hk; omega; have : BO = BO + 1 := hk; omega) _, (q4.trans u3).trans (Kr.set _ (by omega))⟩
  case done =>
    rintro D ga W hD hga ⟨⟨ov, c1, hN⟩, hB⟩ hK
    rw [hcL, List.take_length] at hN
    obtain ⟨oa, oc, rfl⟩ : ∃ oa oc, ov = .slice oa L.length oc := by
      obtain ⟨_, h1, _⟩ := hN
      obtain ⟨oa, oc, e, _⟩ := own_slice h1
      exact ⟨oa, oc, e⟩
    have x1 := c1.cell
    have HN := hidM hN
    clear hN hF HT HG
    gi_wp2
    refine ⟨by simp, .inl ⟨_, _, rfl, run_takeDeferred hK, ?_⟩⟩
    have hg := grownBy_putObj' W D (.deferred none)
    refine ⟨.tuple #[.slice oa L.length oc, .nilIface], by simp [results, Tryz.results35, go_sem], _, rfl, by rw [← HL.out]; exact (HN.out.keep hg.size (fun i c t f _ _ hc => grown_cells (B := 0) hg (fun r e => by cases e; exact ⟨Nat.zero_le _, _, hK, rfl⟩) hc rfl)).wider (B' := w.heap.size) (by have := hB.size; omega), ?_⟩
    exact hB.trans ((Below.refl _ _).grown hg hB.size (fun r e => by cases e; omega))
  case stop =>
    rintro D c W hD h hK
    exact h.elim
end Go.Proofs.YtgobnjeankjkjaaGreatDoor

/- tree.Equal of two that are one tree: the geometries collected. -/
namespace Go.Proofs.YtgobnjeankjkjaaGreatDoor
open Go.ChangeShapes Go.WideShapes Go.ChangeAt Go.RowKit Go.Shelf
open Tr Rf Wk Mk
set_option linter.unusedVariables false
attribute [local go_sem] Oper.semAt_some
namespace Tr
section
variable {S : Nat → Prop} {W W' : World} (h : ∀ k, S k → W'.heap[k]? = W.heap[k]?)
include h
theorem cell_same {p : Addr} (hp : S p.block) : W'.cell? p = W.cell? p := World.cell?_of_block (w := W) (h p.block hp)
theorem Pts.same {v : Value} {l : List Pt} (hp : Pts S W v l) : Pts S W' v l := by
  obtain ⟨hl, a, c, rfl, hc⟩ := hp
  refine ⟨hl, a, c, rfl, fun i p hi => ?_⟩
  obtain ⟨b, o, rfl, hb, u1, u2, c1, c2⟩ := hc i p hi
  exact ⟨b, o, rfl, hb, u1, u2, (cell_same h (by exact hb)).trans c1, (cell_same h (by exact hb)).trans c2⟩
theorem Rgs.same {v : Value} {l : List (List Pt)} (hp : Rgs S W v l) : Rgs S W' v l := by
  obtain ⟨hl, a, c, rfl, hc⟩ := hp
  refine ⟨hl, a, c, rfl, fun i p hi => ?_⟩
  obtain ⟨b, o, u, rfl, hb, c1, hu⟩ := hc i p hi
  exact ⟨b, o, u, rfl, hb, (cell_same h (by exact hb)).trans c1, hu.same h⟩
theorem GmAt.same {b o : Nat} {g : Gm} {v : Value} (hg : GmAt S W b o g v) : GmAt S W' b o g v := by
  obtain ⟨hb, hk, c0, ⟨v1, c1, p1⟩, ⟨v2, c2, p2⟩, c3⟩ := hg
  exact ⟨hb, hk, (cell_same h (by exact hb)).trans c0, ⟨v1, (cell_same h (by exact hb)).trans c1, p1.same h⟩, ⟨v2, (cell_same h (by exact hb)).trans c2, p2.same h⟩, (cell_same h (by exact hb)).trans c3⟩
end
/-- spots: each with its geometry, in the world w -/
def Srow (S : Nat → Prop) (w : World) : List Value → List It → Prop
  | xs, [] => xs = []
  | xs, it :: its => ∃ b o pa pc x1 x2 x3 ys, xs = .pointer (some ⟨b, o, none⟩) :: .int .i64 x1 :: .int .i64 x2 :: .int .i64 x3 :: ys ∧ (it.ch ≤ 1048576 ∧ GmAt S w b o it.g (.slice pa it.ch pc)) ∧ Srow S w ys its
theorem Srow.snoc {S : Nat → Prop} {w : World} {it : It} {b o : Nat} {pa : Option Addr} {pc : Nat} {x1 x2 x3 : Int} (hn : it.ch ≤ 1048576 ∧ GmAt S w b o it.g (.slice pa it.ch pc)) : ∀ {its : List It} {xs : List Value}, Srow S w xs its → Srow S w (xs ++ [.pointer (some ⟨b, o, none⟩), .int .i64 x1, .int .i64 x2, .int .i64 x3]) (its ++ [it])
  | [], _, h => ⟨b, o, pa, pc, x1, x2, x3, [], by rw [show _ = [] from h]; rfl, hn, rfl⟩
  | _ :: _, _, ⟨b', o', qa, qc, z1, z2, z3, ys, e, h1, h2⟩ => ⟨b', o', qa, qc, z1, z2, z3, ys ++ [.pointer (some ⟨b, o, none⟩), .int .i64 x1, .int .i64 x2, .int .i64 x3], by rw [e]; rfl, h1, Srow.snoc hn h2⟩
theorem Srow.at_ {S : Nat → Prop} {w : World} : ∀ {its : List It} {xs : List Value} {k : Nat} {it : It}, Srow S w xs its → its[k]? = some it → ∃ b o pa pc x1 x2 x3, xs[4 * k]? = some (.pointer (some ⟨b, o, none⟩)) ∧ xs[4 * k + 1]? = some (.int .i64 x1) ∧ xs[4 * k + 2]? = some (.int .i64 x2) ∧ xs[4 * k + 3]? = some (.int .i64 x3) ∧ it.ch ≤ 1048576 ∧ GmAt S w b o it.g (.slice pa it.ch pc)
  | [], _, k, it, _, h => by cases h
  | jt :: its, _, 0, it, ⟨b, o, pa, pc, x1, x2, x3, ys, e, h1, h2⟩, h => by
    cases h
    subst e
    exact ⟨b, o, pa, pc, x1, x2, x3, rfl, rfl, rfl, rfl, h1⟩
  | jt :: its, _, k + 1, it, ⟨b, o, pa, pc, x1, x2, x3, ys, e, h1, h2⟩, h => by
    subst e
    obtain ⟨b', o', qa, qc, z1, z2, z3, y1, y2, y3, y4, y5⟩ := Srow.at_ (k := k) (it := it) h2 (by simpa using h)
    refine ⟨b', o', qa, qc, z1, z2, z3, ?_, ?_, ?_, ?_, y5⟩
    · rw [show 4 * (k + 1) = 4 * k + 1 + 1 + 1 + 1 by omega]; simpa using y1
    · rw [show 4 * (k + 1) + 1 = 4 * k + 1 + 1 + 1 + 1 + 1 by omega]; simpa using y2
    · rw [show 4 * (k + 1) + 2 = 4 * k + 2 + 1 + 1 + 1 + 1 by omega]; simpa using y3
    · rw [show 4 * (k + 1) + 3 = 4 * k + 3 + 1 + 1 + 1 + 1 by omega]; simpa using y4
theorem info_spot : (Tryz.prog.info? 101).map (fun i => (i.zero, i.size, i.bytes)) = some (some (.agg #[.pointer none, .int .i64 0, .int .i64 0, .int .i64 0]), 4, 32) := by kernel_rfl
/-- a spot more -/
theorem spot_step {B n : Nat} {W : World} {ov : Value} {xs : List Value} {b o : Nat} {x1 x2 x3 : Int} (hB : B ≤ W.heap.size) (h : W.ownsRow B 101 4 ov n xs) (hn : n ≤ 1048576) (ty : TypeId) :
    ∃ va vc W4, (Builtin.append_ #[109, 109] ty #[ov, .slice (some ⟨W.heap.size, 0, none⟩) 1 1]).run Tryz.prog (W.alloc (.cells #[.pointer (some ⟨b, o, none⟩), .int .i64 x1, .int .i64 x2, .int .i64 x3] 101)) = .ok (.slice va (n + 1) vc) W4 ∧ (W.alloc (.cells #[.pointer (some ⟨b, o, none⟩), .int .i64 x1, .int .i64 x2, .int .i64 x3] 101)).grownBy W4 ov.ownBlock ∧ (∀ i, ov.ownBlock = some i → B ≤ i ∧ i < W.heap.size) ∧
      (∀ B', KeepsFrom B' W W4) ∧ (∀ ga, ga < B → Kr ga 142 W W4) ∧ W4.ownsRow B 101 4 (.slice va (n + 1) vc) (n + 1) (xs ++ [.pointer (some ⟨b, o, none⟩), .int .i64 x1, .int .i64 x2, .int .i64 x3]) := by
  obtain ⟨i, hi, hz0, hz1, hz2⟩ := info_partsT info_spot
  have hov : ∀ i, ov.ownBlock = some i → B ≤ i ∧ i < W.heap.size := fun i hi => ownsRow_block h hi
  have hYc : (W.alloc (.cells #[.pointer (some ⟨b, o, none⟩), .int .i64 x1, .int .i64 x2, .int .i64 x3] 101)).heap[W.heap.size]? = some (.cells #[.pointer (some ⟨b, o, none⟩), .int .i64 x1, .int .i64 x2, .int .i64 x3] 101 (0, 0)) := World.alloc_heap_new W _
  have hkf0 : ∀ B', KeepsFrom B' W (W.alloc (.cells #[.pointer (some ⟨b, o, none⟩), .int .i64 x1, .int .i64 x2, .int .i64 x3] 101)) := fun B' => (KeepsOthers.alloc _ _).from _
  have hkr0 : ∀ ga, Kr ga 142 W (W.alloc (.cells #[.pointer (some ⟨b, o, none⟩), .int .i64 x1, .int .i64 x2, .int .i64 x3] 101)) := fun ga => Kr.alloc ga _ W _
  have hbA : Below W.heap.size W (W.alloc (.cells #[.pointer (some ⟨b, o, none⟩), .int .i64 x1, .int .i64 x2, .int .i64 x3] 101)) := (Below.refl W.heap.size W).alloc (Nat.le_refl _) _
  obtain ⟨Y, hY⟩ : ∃ Y, Y = W.alloc (.cells #[.pointer (some ⟨b, o, none⟩), .int .i64 x1, .int .i64 x2, .int .i64 x3] 101) := ⟨_, rfl⟩
  have hYz : Y.heap.size = W.heap.size + 1 := by rw [hY]; simp
  rw [← hY] at hYc hkf0 hkr0 hbA ⊢
  have hrY := own_keep (w' := Y) h (fun g hg => hbA.block g (hov g hg).2)
  obtain ⟨v', W4, hr, ho, hg, _, hob⟩ := run_append_own_at (P := Tryz.prog) Y B 109 ty 101 i _ 4 32 Tryz.underlying109 hi hz0 hz1 hz2 rfl (by decide) ov n xs hrY ⟨W.heap.size, 0, none⟩ 1 1 [.pointer (some ⟨b, o, none⟩), .int .i64 x1, .int .i64 x2, .int .i64 x3] rfl
    (fun k u h => by
      have hadd : Addr.add ⟨W.heap.size, 0, none⟩ k = ⟨W.heap.size, k, none⟩ := by unfold Addr.add; split <;> simp_all
      rw [hadd, cell_of hYc k]
      simpa using h) (by simp [Value.oneCell']) (by unfold maxLen; omega) (by omega) (by omega)
  obtain ⟨va, vc, rfl, _⟩ := own_slice ho
  exact ⟨va, vc, W4, hr, hg, hov, fun B' => (hkf0 B').trans (keeps_row hrY hg), fun ga hga => (hkr0 ga).trans (kr_row (by decide) hrY hga hg), ho⟩
end Tr
set_option maxRecDepth 100000 in
set_option maxHeartbeats 2000000 in
theorem appSeq_any {n : Nat} {w : World} {S : Nat → Prop} {f : Fo} {Bn b0 o0 : Nat} (hS : ∀ k, S k → k < w.heap.size) (hBn : w.cell? ⟨Bn, 0, none⟩ = some (.pointer (some ⟨b0, o0, none⟩))) (hSB : S Bn) (hF : FoAt S w f (some ⟨b0, o0, none⟩)) (hf : f.len = 1) (hc : f.cnt ≤ 1048576) :
    CallsIn Fence.wide n Tryz.prog 73 #[.slice none 0 0, .func (.func 66) #[] #[.pointer (some ⟨Bn, 0, none⟩)]] w fun e w' => ∃ v xs, e = .returned v ∧ w'.ownsRow w.heap.size 101 4 v f.cnt xs ∧ Srow S w xs (f.pre 1 0) ∧ Below w.heap.size w w' := by
  refine callsIn_of_wp_marks Tryz.func73 rfl trivial ?_ rfl
  simp only [Tryz.ntmps73, List.size_toArray, List.length_cons, List.length_nil, Nat.reduceAdd, Nat.reduceSub, Array.replicate_succ, Array.replicate_zero, List.push_toArray, List.append_toArray, List.nil_append, List.cons_append]
  gi_wp2
  have b1 := Boxed.new w 109 (.slice none 0 0)
  have hb0 : Below w.heap.size w (w.alloc (.cells #[.slice none 0 0] 109)) := (Below.refl _ w).alloc (Nat.le_refl _) _
  obtain ⟨W0, hW0⟩ : ∃ W0, W0 = w.alloc (.cells #[.slice none 0 0] 109) := ⟨_, rfl⟩
  have hz : W0.heap.size = w.heap.size + 1 := by rw [hW0]; simp
  rw [← hW0] at b1 hb0 ⊢
  have hF0 := hF.below (Kp.of_below hb0 hS)
  have hBn0 : W0.cell? ⟨Bn, 0, none⟩ = some (.pointer (some ⟨b0, o0, none⟩)) := (hb0.cell (p := ⟨Bn, 0, none⟩) (hS _ hSB)).trans hBn
  obtain ⟨L, hL⟩ : ∃ L, L = f.pre 1 0 := ⟨_, rfl⟩
  have hcL : f.cnt = L.length := by rw [hL, Fo.pre_length]
  have HL : Hid (L = f.pre 1 0) := hL
  obtain ⟨BO, hBO⟩ : ∃ BO, BO = w.heap.size := ⟨_, rfl⟩
  have HBO := hidM hBO
  have hB1 : w.heap.size ≤ BO := by omega
  have hB9 : BO ≤ w.heap.size := by omega
  rw [← hBO] at b1 hz ⊢
  clear hW0 hL hF hBO
  refine wpIn_all (S := S) rfl (fun k hk => by have := hS k hk; omega) hBn0 hSB hF0 hf (by omega)
    (fun ga k W => (∃ ov xs, Boxed W BO 109 ov ∧ W.ownsRow (ga + 1) 101 4 ov k xs ∧ Srow S w xs (L.take k)) ∧ Below w.heap.size w W)
    (fun c W => False)
    (fun ga => OwnFrom.and (fun s X Y row ⟨ov, xs, h1, h2, h3⟩ hg hr => ⟨ov, xs, grown_cells hg hr h1 rfl, row_grown h2 hg hr, h3⟩) (ownFrom_below (Nat.le_refl _) (by omega)))
    (fun _ _ _ _ h _ _ => h)
    (fun ga k W W' hga ho ⟨⟨ov, xs, h1, h2, h3⟩, h4⟩ => ⟨⟨ov, xs, ho.boxed h1 (by omega), ?own, h3⟩, ho.low h4 (by have := HBO.out; omega) (Nat.le_refl _)⟩)
    (fun ga hga => ⟨⟨_, [], b1, ⟨rfl, .inl ⟨rfl, rfl⟩⟩, rfl⟩, hb0⟩) ?round ?done ?stop
  case own =>
    obtain ⟨q0, q⟩ := h2
    refine ⟨q0, ?_⟩
    rcases q with q | ⟨g, cap, cur, rfl, hb, hcc, q1⟩
    · exact Or.inl q
    · exact Or.inr ⟨g, cap, cur, rfl, hb, ho.block g _ hcc (.inl (by omega)) (.inr (fun c' f' e => by cases e)), q1⟩
  case round =>
    rintro l ga k it b o qa qc W hl hga hgW hWz hit hpc ⟨⟨ov, xs, c1, hrow, hsr⟩, hB⟩ hG
    rw [← HL.out] at hit
    have hGw : GmAt S w b o it.g (.slice qa it.ch qc) := hG.same (fun k hk => (hB.block k (hS k hk)).symm)
    simp only [List.setIfInBounds_toArray, List.set_cons_succ, List.set_cons_zero]
    have HBB := hidM (And.intro hB1 hB9)
    clear hB1 hB9
    gi_wp2
    obtain ⟨hB1, hB9⟩ := HBB.out
    refine ⟨(KeepsOthers.alloc _ _).from _, fun W2 hT => ?_⟩
    have hR := round_start (B := W0.heap.size) hl hWz hT
    have hK2 := hR.kp (S := S) (fun k hk => by have := hS k hk; omega)
    have hKr2 := hR.kr ga 142
    have e1 := hR.boxed c1
    have hB2 : Below w.heap.size w W2 := hB.trans (hR.below.mono (by omega))
    have hsp := hR.new rfl
    have hz2 := hR.size
    have hkL : k < L.length := (List.getElem?_eq_some_iff.1 hit).1
    have htk : L.take (k + 1) = L.take k ++ [it] := by rw [List.take_add_one, hit]; rfl
    have hrow2 : W2.ownsRow (ga + 1) 101 4 ov k xs := by
      obtain ⟨q0, q⟩ := hrow
      refine ⟨q0, ?_⟩
      rcases q with q | ⟨g, cap, cur, rfl, hb, hcc, q1⟩
      · exact Or.inl q
      · exact Or.inr ⟨g, cap, cur, rfl, hb, hR.cells _ _ hcc rfl, q1⟩
    obtain ⟨va, vc, W4, hrun, hg4, hov, hkf, hkr, hrow4⟩ := spot_step (b := b) (o := o) (x1 := (k : Int)) (x2 := (it.level : Int)) (x3 := it.home) (by omega) hrow2 (by omega) 109
    have hsr4 := Srow.snoc (x1 := (k : Int)) (x2 := (it.level : Int)) (x3 := it.home) ⟨hpc.1, hGw⟩ hsr
    rw [← htk] at hsr4
    obtain ⟨oa, oc, rfl, _⟩ := own_slice hrow2
    have x1 := e1.cell
    have sp0 : W2.cell? ⟨W.heap.size, 0, none⟩ = some (.pointer (some ⟨b, o, none⟩)) := cell_of hsp 0
    have sp1 : W2.cell? ⟨W.heap.size, 1, none⟩ = some (.int .i64 k) := cell_of hsp 1
    have sp2 : W2.cell? ⟨W.heap.size, 2, none⟩ = some (.int .i64 it.level) := cell_of hsp 2
    have sp3 : W2.cell? ⟨W.heap.size, 3, none⟩ = some (.int .i64 it.home) := cell_of hsp 3
    have r4 := e1.alloc (.cells #[.pointer (some ⟨b, o, none⟩), .int .i64 (k : Int), .int .i64 (it.level : Int), .int .i64 it.home] 101)
    have r5 : Boxed W4 BO 109 (.slice oa k oc) := (hg4.block BO (by simp; omega) (fun e => by have := (hov BO e.symm).1; omega)).trans r4
    have y5 := r5.cell
    have f5 := r5.frozen
    have hb4 : Below w.heap.size w W4 := hB2.trans ((((Below.refl _ W2).alloc (Nat.le_refl _) _).mono (by have := hB2.size; omega)).trans ((Below.refl _ _).grown hg4 (by have := hB2.size; simp; omega) (fun r e => by have := (hov r e).1; omega)))
    have hkp4 : Kp S W2 W4 := by
      refine ⟨by have := hg4.size; simp at this; omega, fun i hi => ?_⟩
      have hi0 := hS i hi
      exact (hg4.block i (by simp; omega) (fun e => by have := (hov i e.symm).1; omega)).trans (Below.heap_alloc W2 _ i (by omega))
    have HF := hidM (show Below w.heap.size w W4 ∧ Kp S W W4 ∧ Kr ga 142 W W4 ∧ KeepsFrom W0.heap.size W2 W4 ∧ Boxed W4 BO 109 (.slice oa k oc) ∧ W4.ownsRow (ga + 1) 101 4 (.slice va (k + 1) vc) (k + 1) (xs ++ [.pointer (some ⟨b, o, none⟩), .int .i64 (k : Int), .int .i64 (it.level : Int), .int .i64 it.home]) ∧ Srow S w (xs ++ [.pointer (some ⟨b, o, none⟩), .int .i64 (k : Int), .int .i64 (it.level : Int), .int .i64 it.home]) (L.take (k + 1)) from ⟨hb4, hK2.trans hkp4, hKr2.trans (hkr ga (by omega)), hkf _, r5, hrow4, hsr4⟩)
    clear hb4 hkp4 r4 r5 hrow4 hsr4 hg4 hov hkf hkr hK2 hKr2 e1 hB2 hsp hrow2 hrow hsr hB hG hGw c1 hR hT htk hit hB1 hB9 hz2
    gi_wp2_with (gi_at_builtin; refine wpListIn_appR rfl _ _ _ rfl _ _ rfl rfl hrun ?_)
    obtain ⟨u1, u2, u3, u4, u5, u6, u7⟩ := HF.out
    obtain ⟨hB1, hB9⟩ := HBB.out
    have hSB2 : ∀ i, S i → i ≠ BO := fun i hi => by have := hS i hi; have := HBO.out; omega
    refine ⟨u4.trans (keeps_set _ _ _ _), ⟨⟨_, _, u5.set _, own_keep u6 (fun i hi => Below.heap_setCell _ _ _ _ (by have := (ownsRow_block u6 hi).1; show i ≠ BO; omega)), u7⟩, u1.setCell (p := ⟨BO, 0, none⟩) (by show w.heap.size ≤ BO; have := HBO.out; omega) _⟩, u2.setCell (fun hk => hSB2 BO hk rfl) _, u3.trans (Kr.set _ (by omega))⟩
  case done =>
    rintro D ga W hD hga ⟨⟨ov, xs, c1, hrow, hsr⟩, hB⟩ hK
    rw [hcL, List.take_length] at hsr
    rw [hcL] at hrow
    obtain ⟨oa, oc, rfl, _⟩ := own_slice hrow
    have x1 := c1.cell
    have HN := hidM hrow
    have HS := hidM hsr
    have HC := hidM hcL
    clear hrow hsr hF0 hB1 hB9
    gi_wp2
    refine ⟨by simp, .inl ⟨_, _, rfl, run_takeDeferred hK, ?_⟩⟩
    have hg := grownBy_putObj' W D (.deferred none)
    have hz9 := hB.size
    refine ⟨.slice oa L.length oc, by simp [results, Tryz.results73, go_sem], _, _, rfl, ?_, by rw [← HL.out]; exact HS.out, ?_⟩
    · rw [HC.out]
      exact row_wide (row_grown (B := 0) HN.out hg (fun r e => by cases e; exact ⟨Nat.zero_le _, _, hK, rfl⟩)) (by have := HBO.out; omega)
    · exact hB.trans ((Below.refl _ _).grown hg hB.size (fun r e => by cases e; have := HBO.out; omega))
  case stop =>
    rintro D c W hD h hK
    exact h.elim
end Go.Proofs.YtgobnjeankjkjaaGreatDoor

/- tree.Equal of two that are one tree. -/
namespace Go.Proofs.YtgobnjeankjkjaaGreatDoor
open Go.ChangeShapes Go.WideShapes Go.ChangeAt Go.RowKit
open Tr Rf Wk Mk
set_option linter.unusedVariables false
namespace Tr
/-- spots in memory -/
def SpR (w : World) (v : Value) (S : Nat → Prop) (L : List It) : Prop :=
  ∃ base xs, w.ownsRow base 101 4 v L.length xs ∧ Srow S w xs L
theorem Srow.same {S : Nat → Prop} {w w' : World} (hk : ∀ k, S k → w'.heap[k]? = w.heap[k]?) : ∀ {L : List It} {xs : List Value}, Srow S w xs L → Srow S w' xs L
  | [], _, h => h
  | _ :: _, _, ⟨b, o, pa, pc, x1, x2, x3, ys, e, h1, h2⟩ => ⟨b, o, pa, pc, x1, x2, x3, ys, e, ⟨h1.1, h1.2.same hk⟩, h2.same hk⟩
end Tr
set_option maxRecDepth 100000 in
set_option maxHeartbeats 2000000 in
theorem collect_any {w : World} {S : Nat → Prop} {f : Fo} {Bn b0 o0 : Nat} (hS : ∀ k, S k → k < w.heap.size) (hBn : w.cell? ⟨Bn, 0, none⟩ = some (.pointer (some ⟨b0, o0, none⟩))) (hSB : S Bn) (hF : FoAt S w f (some ⟨b0, o0, none⟩)) (hf : f.len = 1) (hc : f.cnt ≤ 1048576) :
    Calls Tryz.prog 47 #[.func (.func 66) #[] #[.pointer (some ⟨Bn, 0, none⟩)]] w fun e w' => ∃ a c, e = .returned (.slice a f.cnt c) ∧ (∃ xs, w'.ownsRow w.heap.size 101 4 (.slice a f.cnt c) f.cnt xs ∧ Srow S w xs (f.pre 1 0)) ∧ Below w.heap.size w w' := by
  have hA := callsIn_wide.1 (appSeq_any (n := 0) hS hBn hSB hF hf hc)
  clear hS hBn hSB hF hf hc
  go_enter Tryz.func47, Tryz.ntmps47
  go_wp2_with fail
  refine hA.mono ?_
  rintro e W ⟨v, xs, rfl, h1, h2, h3⟩
  obtain ⟨a, c, rfl, _⟩ := own_slice h1
  have H := hidM (show (∃ xs, W.ownsRow w.heap.size 101 4 (.slice a f.cnt c) f.cnt xs ∧ Srow S w xs (f.pre 1 0)) ∧ Below w.heap.size w W from ⟨⟨xs, h1, h2⟩, h3⟩)
  clear hA h1 h2 h3
  go_wp2
  go_ret
  exact ⟨a, c, rfl, H.out⟩
set_option maxHeartbeats 3200000 in
set_option maxRecDepth 100000 in
theorem eqSpots_same {w : World} {S1 S2 : Nat → Prop} {a1 a2 : Option Addr} {n c1 c2 : Nat} {L : List It} (hn : n = L.length) (hS1 : ∀ k, S1 k → k < w.heap.size) (hS2 : ∀ k, S2 k → k < w.heap.size) (h1 : SpR w (.slice a1 n c1) S1 L) (h2 : SpR w (.slice a2 n c2) S2 L) (hl : n ≤ 1048576) :
    Calls Tryz.prog 46 #[.slice a1 n c1, .slice a2 n c2, .func (.func 48) #[] #[]] w fun e w' => e = .returned (.bool true) ∧ Below w.heap.size w w' := by
  have H1 := hidM h1
  have H2 := hidM h2
  have HS1 := hidM hS1
  have HS2 := hidM hS2
  have HN := hidM hn
  clear h1 h2 hS1 hS2 hn
  go_enter Tryz.func46, Tryz.ntmps46
  go_wp2
  go_loopw [17] (fun i wr => ∃ j : Nat, i = .int .i64 (j : Int) ∧ j ≤ n ∧ Hid (Below w.heap.size w wr)) (fun i _ => n - (intOf i).toNat)
  case atStart => exact ⟨0, rfl, Nat.zero_le _, Below.refl _ _⟩
  case round =>
    obtain ⟨j, rfl, hj, HB⟩ := hrel
    by_cases hlt : j < n
    · obtain ⟨it, hit⟩ : ∃ it, L[j]? = some it := ⟨_, List.getElem?_eq_getElem (by rw [← HN.out]; exact hlt)⟩
      obtain ⟨_, xs1, r1, s1⟩ := H1.out
      obtain ⟨_, xs2, r2, s2⟩ := H2.out
      obtain ⟨b1, o1, p1, q1, x1, x2, x3, e0, e1, e2, e3, hch, g1⟩ := s1.at_ hit
      obtain ⟨b2, o2, p2, q2, y1, y2, y3, f0, f1, f2, f3, _, g2⟩ := s2.at_ hit
      have hcell : ∀ {base : Nat} {a : Option Addr} {c k : Nat} {xs : List Value} {u : Value}, w.ownsRow base 101 4 (.slice a n c) L.length xs → xs[k]? = some u → ∃ g, a = some ⟨g, 0, none⟩ ∧ g < wr.heap.size ∧ wr.cell? ⟨g, k, none⟩ = some u := by
        intro base a c k xs u hr hk
        obtain ⟨g, _, hc, c', e⟩ := own_cell hr hk
        injection e with e1 e2 e3
        have hg : g < w.heap.size := cell_lt hc
        exact ⟨g, e1, by have := HB.out.size; omega, (HB.out.cell (p := ⟨g, k, none⟩) hg).trans hc⟩
      obtain ⟨g, rfl, hg, k0⟩ := hcell r1 e0
      obtain ⟨_, q, _, k1⟩ := hcell r1 e1
      cases q
      obtain ⟨_, q, _, k2⟩ := hcell r1 e2
      cases q
      obtain ⟨_, q, _, k3⟩ := hcell r1 e3
      cases q
      obtain ⟨g', rfl, hg', l0⟩ := hcell r2 f0
      obtain ⟨_, q, _, l1⟩ := hcell r2 f1
      cases q
      obtain ⟨_, q, _, l2⟩ := hcell r2 f2
      cases q
      obtain ⟨_, q, _, l3⟩ := hcell r2 f3
      cases q
      rw [Nat.mul_comm 4 j] at k0 k1 k2 k3 l0 l1 l2 l3
      obtain ⟨X, hX⟩ : ∃ X, X = (wr.alloc (.cells #[.pointer (some ⟨b1, o1, none⟩), .int .i64 x1, .int .i64 x2, .int .i64 x3] 101)).alloc (.cells #[.pointer (some ⟨b2, o2, none⟩), .int .i64 y1, .int .i64 y2, .int .i64 y3] 101) := ⟨_, rfl⟩
      have hbX : Below wr.heap.size wr X := by rw [hX]; exact ((Below.refl _ wr).alloc (Nat.le_refl _) _).alloc (by simp) _
      have hwX : Below w.heap.size w X := HB.out.trans (hbX.mono HB.out.size)
      have hAl := alikeT_same (g1.below (Kp.of_below hwX HS1.out)) (g2.below (Kp.of_below hwX HS2.out)) x1 x2 x3 y1 y2 y3 hch
      have HX : Hid ((wr.alloc (.cells #[.pointer (some ⟨b1, o1, none⟩), .int .i64 x1, .int .i64 x2, .int .i64 x3] 101)).alloc (.cells #[.pointer (some ⟨b2, o2, none⟩), .int .i64 y1, .int .i64 y2, .int .i64 y3] 101) = X) := hX.symm
      have HwX := hidM hwX
      have hne : g ≠ wr.heap.size := by omega
      have hne' : g' ≠ wr.heap.size := by omega
      clear hX hbX hwX hcell r1 r2 s1 s2 g1 g2 hit e0 e1 e2 e3 f0 f1 f2 f3 H1 H2
      go_wp2_with (go_at_call 48; rw [HX.out]; refine hAl.mono ?_; rintro e wZ ⟨rfl, hbZ⟩)
      have HZ : Hid (Below w.heap.size w wZ) := HwX.out.trans (hbZ.mono HwX.out.size)
      go_roundw
      case rel => exact ⟨j + 1, by go_num, by omega, HZ⟩
      case measure => simp [intOf]; omega
    · go_wp2
      go_ret
      exact ⟨rfl, HB.out⟩
set_option maxHeartbeats 3200000 in
set_option maxRecDepth 100000 in
theorem treeEq_same {w : World} {S1 S2 : Nat → Prop} {u1 u2 : Value} {T : Tree} (hS1 : ∀ k, S1 k → k < w.heap.size) (hS2 : ∀ k, S2 k → k < w.heap.size) (h1 : TV S1 w u1 T) (h2 : TV S2 w u2 T) (ho : OkT T) :
    Calls Tryz.prog 26 #[u1, u2] w fun e w' => e = .returned (.bool true) ∧ Below w.heap.size w w' := by
  have hs := ho.sum
  have hc1 := cnt_fsum (fo1 T)
  have htot : ∀ it ∈ (fo1 T).pre 1 0, tot it.g ≤ 1099511627776 := fun it hi => by have := tot_fsum _ _ _ it hi; omega
  have hdec : decide (lsum ((fo1 T).pre 1 0) ≤ 131072) = true := by rw [fsum_pre]; simp; omega
  obtain ⟨f, hfd⟩ : ∃ f, f = fo1 T := ⟨_, rfl⟩
  have hf : f.len = 1 := by rw [hfd]; rfl
  have HG1 : Hid (GeoV (fun k => k < w.heap.size) w u1 f) := by rw [hfd]; exact h1.mono hS1
  have HG2 : Hid (GeoV (fun k => k < w.heap.size) w u2 f) := by rw [hfd]; exact h2.mono hS2
  rw [← hfd] at hs hc1 htot hdec
  clear hfd h1 h2 ho hS1 hS2
  obtain ⟨g, ch, v1, v2, pa, pc, rfl, _, _, p1, p2, _, _⟩ := HG1.out
  obtain ⟨_, a1, d1, rfl, _⟩ := p1
  obtain ⟨_, a2, d2, rfl, _⟩ := p2
  obtain ⟨g', ch', v3, v4, qa, qc, rfl, _, _, q1, q2, _, _⟩ := HG2.out
  obtain ⟨_, a3, d3, rfl, _⟩ := q1
  obtain ⟨_, a4, d4, rfl, _⟩ := q2
  obtain ⟨V1, hV1⟩ : ∃ V1, V1 = w.alloc (.cells #[.int .i64 g.kind, .slice a1 g.line.length d1, .slice a2 g.rings.length d2, .slice pa ch.len pc] 31) := ⟨_, rfl⟩
  obtain ⟨V, hV⟩ : ∃ V, V = V1.alloc (.cells #[.int .i64 g'.kind, .slice a3 g'.line.length d3, .slice a4 g'.rings.length d4, .slice qa ch'.len qc] 31) := ⟨_, rfl⟩
  have hz1 : V1.heap.size = w.heap.size + 1 := by rw [hV1]; simp
  have hz2 : V.heap.size = w.heap.size + 2 := by rw [hV]; simp; omega
  have hb1 : Below w.heap.size w V1 := by rw [hV1]; exact (Below.refl _ w).alloc (Nat.le_refl _) _
  have hb2 : Below V1.heap.size V1 V := by rw [hV]; exact (Below.refl _ V1).alloc (Nat.le_refl _) _
  have hF1 : FoAt (fun k => k < V.heap.size) V f (some ⟨w.heap.size, 0, none⟩) := by
    have h := HG1.out.box (t := 31) (fun k hk => hk)
    rw [← hV1] at h
    exact (h.below (Kp.of_below hb2 (fun k hk => by rcases hk with hk | hk <;> omega))).mono (fun k hk => by rcases hk with hk | hk <;> omega)
  have hF2 : FoAt (fun k => k < V.heap.size) V f (some ⟨w.heap.size + 1, 0, none⟩) := by
    have h := GeoV.box (t := 31) (S := fun k => k < w.heap.size) (HG2.out.below (Kp.of_below hb1 (fun k hk => hk))) (fun k hk => by omega)
    rw [← hV, hz1] at h
    exact h.mono (fun k hk => by rcases hk with hk | hk <;> omega)
  have hbV : Below w.heap.size w V := hb1.trans (hb2.mono (by omega))
  have hTo : ∀ (A : Nat) (W : World), FoAt (fun k => k < V.heap.size) V f (some ⟨A, 0, none⟩) → Below V.heap.size V W → Calls Tryz.prog 45 #[.pointer (some ⟨A, 0, none⟩)] W fun e w' => e = .returned (.bool true) ∧ Below W.heap.size W w' := fun A W hF hb => by
    have := callsIn_wide.1 (told_any (n := 0) ((hF.below (Kp.of_below hb (fun k hk => hk))).mono (S' := (· < W.heap.size)) (fun k hk => by have := hb.size; omega)) hf (by omega) htot)
    rwa [hdec] at this
  have hCo : ∀ (A : Nat) (W : World), FoAt (fun k => k < V.heap.size) V f (some ⟨A, 0, none⟩) → Below V.heap.size V W → Calls Tryz.prog 47 #[.func (.func 66) #[] #[.pointer (some ⟨W.heap.size, 0, none⟩)]] (W.alloc (.cells #[.pointer (some ⟨A, 0, none⟩)] 99)) fun e w' => ∃ a c, e = .returned (.slice a f.cnt c) ∧ SpR w' (.slice a f.cnt c) (fun k => k < V.heap.size ∨ k = W.heap.size) (f.pre 1 0) ∧ Below W.heap.size W w' ∧ W.heap.size < w'.heap.size := fun A W hF hb => by
    have hbA : Below W.heap.size W (W.alloc (.cells #[.pointer (some ⟨A, 0, none⟩)] 99)) := (Below.refl _ W).alloc (Nat.le_refl _) _
    have hsz := hb.size
    refine (collect_any (S := fun k => k < V.heap.size ∨ k = W.heap.size) (b0 := A) (o0 := 0) (fun k hk => by simp; omega) (by simp) (.inr rfl) ((hF.below (Kp.of_below (hb.trans (hbA.mono hsz)) (fun k hk => hk))).mono (fun k hk => .inl hk)) hf (by omega)).mono ?_
    rintro e w' ⟨a, c, rfl, ⟨xs, r1, r2⟩, r3⟩
    refine ⟨a, c, rfl, ⟨_, xs, by rw [Fo.pre_length]; exact r1, r2.same (fun k hk => r3.block k (by simp; omega))⟩, hbA.trans (r3.mono (by simp)), by have := r3.size; simp at this; omega⟩
  have HF1 := hidM hF1
  have HF2 := hidM hF2
  have HTo := hidM hTo
  have HCo := hidM hCo
  have HbV := hidM hbV
  have HV : Hid ((w.alloc (.cells #[.int .i64 g.kind, .slice a1 g.line.length d1, .slice a2 g.rings.length d2, .slice pa ch.len pc] 31)).alloc (.cells #[.int .i64 g'.kind, .slice a3 g'.line.length d3, .slice a4 g'.rings.length d4, .slice qa ch'.len qc] 31) = V) := by show _ = _; rw [hV, hV1]
  have HL : Hid (f.cnt = (f.pre 1 0).length ∧ f.cnt ≤ 1048576) := ⟨(Fo.pre_length f 1 0).symm, by omega⟩
  obtain ⟨n, hn⟩ : ∃ n, n = f.cnt := ⟨_, rfl⟩
  have Hn := hidM hn
  clear hF1 hF2 hTo hCo hbV hV hV1 hb1 hb2 hz1 hz2 hs hc1 htot hdec hf hn
  go_enter Tryz.func26, Tryz.ntmps26
  go_wp2_with fail
  rw [HV.out]
  refine (HTo.out _ _ HF1.out (Below.refl _ _)).mono ?_
  rintro e W1 ⟨rfl, hb1⟩
  have Hb1 := hidM hb1
  clear hb1
  go_wp2_with fail
  refine (HTo.out _ _ HF2.out Hb1.out).mono ?_
  rintro e W2 ⟨rfl, hb2⟩
  have Hb2 : Hid (Below V.heap.size V W2) := Hb1.out.trans (hb2.mono Hb1.out.size)
  clear hb2
  go_wp2_with fail
  refine (callsIn_wide.1 (all_any (n := 0) _ _)).mono ?_
  rintro e W3 ⟨rfl, rfl⟩
  go_wp2_with fail
  refine (HCo.out _ _ HF1.out Hb2.out).mono ?_
  rintro e W4 ⟨a, c, rfl, hR1, hb4, hlt4⟩
  have Hb4 : Hid (Below V.heap.size V W4) := Hb2.out.trans (hb4.mono Hb2.out.size)
  have Hs4 : Hid (W2.heap.size < W4.heap.size) := hlt4
  have HR1 := hidM hR1
  clear hb4 hR1 hlt4
  rw [← Hn.out] at HR1 ⊢
  go_wp2_with fail
  refine (callsIn_wide.1 (all_any (n := 0) _ _)).mono ?_
  rintro e W5 ⟨rfl, rfl⟩
  go_wp2_with fail
  refine (HCo.out _ _ HF2.out Hb4.out).mono ?_
  rintro e W6 ⟨a', c', rfl, hR2, hb6, hlt6⟩
  have Hb6 : Hid (Below V.heap.size V W6) := Hb4.out.trans (hb6.mono Hb4.out.size)
  rw [← Hn.out] at hR2 ⊢
  have hs6 := hb6.size
  have hs4 := Hs4.out
  have hsV := Hb4.out.size
  have hEq := eqSpots_same (w := W6) (S1 := fun k => k < V.heap.size ∨ k = W2.heap.size) (S2 := fun k => k < V.heap.size ∨ k = W4.heap.size) (L := f.pre 1 0) (by rw [Hn.out]; exact HL.out.1) (fun k hk => by omega) (fun k hk => by omega) (by
    obtain ⟨bs, xs, r1, r2⟩ := HR1.out
    exact ⟨bs, xs, own_keep r1 (fun i hi => hb6.block i (ownsRow_block r1 hi).2), r2.same (fun k hk => hb6.block k (by omega))⟩) hR2 (by rw [Hn.out]; exact HL.out.2)
  clear hs6 hs4 hsV hb6 hR2 hlt6
  go_wp2_with fail
  refine hEq.mono ?_
  rintro e W7 ⟨rfl, hb7⟩
  have Hb7 : Hid (Below w.heap.size w W7) := HbV.out.trans ((Hb6.out.trans (hb7.mono Hb6.out.size)).mono HbV.out.size)
  clear hEq hb7
  go_wp2
  go_ret
  exact ⟨rfl, Hb7.out⟩
end Go.Proofs.YtgobnjeankjkjaaGreatDoor

