import Derived.Deep.RegionHeld3
import Derived.Deep.RegionLaw
import Derived.Maps.AppendAt
import Derived.Deep.CutRange
import Derived.Deep.QuietTactic
import Derived.BigQuiet
import Derived.Below
import Derived.ChangeOld
import Derived.Laws.BitsAllLaws
import Derived.Laws.Rows
import Derived.LoopIn
import Derived.LoopNIn
import Derived.OpenShut
import Derived.OwnWalk
import Derived.OwnWalkIn
import Derived.ProofKit
import Derived.RangeFuncBound
import Derived.RangeFuncLeaves
import Derived.RangeFuncNested
import Derived.Shelf.Abstract
import Derived.Shelf.RegionOpen
import Derived.ShutString
import Derived.StillTailTactics
import Derived.TacticsInMore
import Derived.WalkKit
import Derived.WalkLawsBesides
import Derived.WalkSpells
import Derived.Test.YtgobnjeankjkjaaGreatDoorPb13
/- A geometry's four cells in memory, and a row that grows in one of them. -/
namespace Go.Proofs.YtgobnjeankjkjaaGreatDoor
open Go.ChangeShapes Go.WideShapes Go.ChangeAt Go.RowKit Go.Shelf
open Tr Rf
set_option linter.unusedVariables false
attribute [local go_sem] Oper.semAt_some
namespace Tr
theorem info_spt : (Tryz.prog.info? 27).map (fun i => (i.zero, i.size, i.bytes)) = some (some (.slice none 0 0), 1, 24) := by kernel_rfl
theorem step_appG {ops : Array Oper} {o : Oper} {a : Act} {w : World} {K : Act → World → Prop} {Q : Exit → Act → World → Prop} {E : Prop} (hgd : o.guard = none) (s x : Operand) (t : TypeId)
    (ho : o.op = .call { callee := .builtin .append, args := #[s, x], argTypes := #[t, t] }) (v u : Value) (hs : a.eval s = v) (hx : a.eval x = u) {v' : Value} {w' : World}
    (hr : (Builtin.append_ #[t, t] o.type #[v, u]).run Tryz.prog w = .ok v' w') (h : K (a.put o.dst v') w') : if Region.wanted o (yielded ops a.tmps) = true then Oper.wp Tryz.prog o a w K Q else E := by
  have hw : Region.wanted o (yielded ops a.tmps) = true := by simp [Region.wanted, hgd]
  rw [if_pos hw]
  unfold Oper.wp execOp
  simp only [ho, resolve, invoke, builtin, Sem.run_bind, Sem.run_pure, Result.andThen_ok, List.map_toArray, List.map_cons, List.map_nil, hs, hx, hr]
  exact h
/-- the rings that are laid: the row of them and what they hold -/
structure Rw5 (V wr : World) (r : Nat) (te : TypeId) (rv : Value) (j : Nat) (rings : List (List Pt)) : Prop where
  ex : Ex r V wr
  row : ∃ vals, wr.ownsRow V.heap.size te 1 rv j vals ∧ ∀ (i : Nat) (u : Value) (p : List Pt), vals[i]? = some u → rings[i]? = some p → Pts (fun k => V.heap.size ≤ k ∧ rv.ownBlock ≠ some k) wr u p
theorem below_drewT {B : Nat} {w w' : World} (h : Below B w w') : Below B w w'.drew := ⟨h.os, h.tape, h.output, h.size, h.block⟩
theorem below_drewNT {B : Nat} {w w' : World} (h : Below B w w') (n : Nat) : Below B w (w'.drewN n) := ⟨h.os, h.tape, h.output, h.size, h.block⟩
theorem cell_lt {w : World} {b o : Nat} {v : Value} (h : w.cell? ⟨b, o, none⟩ = some v) : b < w.heap.size := by
  cases ho : w.heap[b]? with
  | none => simp [World.cell?, ho] at h
  | some x => exact (Array.getElem?_eq_some_iff.1 ho).1
theorem set_blockT {w : World} {g i : Nat} {c : Array Value} {t : TypeId} {v : Value} (h : w.heap[g]? = some (.cells c t (0, 0))) : (w.setCell ⟨g, i, none⟩ v).heap[g]? = some (.cells (c.setIfInBounds i v) t (0, 0)) := by
  simp [World.setCell, Array.getElem?_modify, h]
theorem Pts.lt {S : Nat → Prop} {W : World} {v : Value} {l : List Pt} (h : Pts S W v l) : Pts (fun k => S k ∧ k < W.heap.size) W v l := by
  obtain ⟨hl, a, c, rfl, hc⟩ := h
  refine ⟨hl, a, c, rfl, fun i p hi => ?_⟩
  obtain ⟨b, o, rfl, hb, u1, u2, y1, y2⟩ := hc i p hi
  exact ⟨b, o, rfl, ⟨hb, cell_lt y1⟩, u1, u2, y1, y2⟩
/-- a block with the four cells of a geometry -/
def Gc (w : World) (g : Nat) (t : TypeId) (x y z u : Value) : Prop := w.heap[g]? = some (.cells #[x, y, z, u] t (0, 0))
section
variable {w w' : World} {g : Nat} {t : TypeId} {x y z u : Value}
theorem Gc.lt (h : Gc w g t x y z u) : g < w.heap.size := (Array.getElem?_eq_some_iff.1 h).1
theorem Gc.later (h : Gc w g t x y z u) (hb : Below w.heap.size w w') : Gc w' g t x y z u := (hb.block g h.lt).trans h
theorem Gc.drew (h : Gc w g t x y z u) : Gc w.drew g t x y z u := h
theorem Gc.cells (h : Gc w g t x y z u) : w.cell? ⟨g, 0, none⟩ = some x ∧ w.cell? ⟨g, 1, none⟩ = some y ∧ w.cell? ⟨g, 2, none⟩ = some z ∧ w.cell? ⟨g, 3, none⟩ = some u := ⟨cell_of h 0, cell_of h 1, cell_of h 2, cell_of h 3⟩
theorem Gc.frozen (h : Gc w g t x y z u) : w.frozen? ⟨g, 0, none⟩ = false ∧ w.frozen? ⟨g, 1, none⟩ = false ∧ w.frozen? ⟨g, 2, none⟩ = false ∧ w.frozen? ⟨g, 3, none⟩ = false := by
  unfold Gc at h
  simp [World.frozen?, h]
theorem Gc.set (h : Gc w g t x y z u) (x' y' z' u' : Value) : Gc ((((w.setCell ⟨g, 0, none⟩ x').setCell ⟨g, 1, none⟩ y').setCell ⟨g, 2, none⟩ z').setCell ⟨g, 3, none⟩ u') g t x' y' z' u' := set_blockT (set_blockT (set_blockT (set_blockT h)))
theorem set4_keep (w : World) (x' y' z' u' : Value) : ∀ k, k ≠ g → ((((w.setCell ⟨g, 0, none⟩ x').setCell ⟨g, 1, none⟩ y').setCell ⟨g, 2, none⟩ z').setCell ⟨g, 3, none⟩ u').heap[k]? = w.heap[k]? := fun k hk =>
  (Below.heap_setCell _ _ _ _ hk).trans ((Below.heap_setCell _ _ _ _ hk).trans ((Below.heap_setCell _ _ _ _ hk).trans (Below.heap_setCell _ _ _ _ hk)))
theorem gc_new (w : World) (x y z u : Value) (t : TypeId) : Gc (w.alloc (.cells #[x, y, z, u] t)) w.heap.size t x y z u := World.alloc_heap_new w _
end
theorem Rgs.at_ {S : Nat → Prop} {W : World} {a : Option Addr} {n c i : Nat} {l : List (List Pt)} {p : List Pt} (h : Rgs S W (.slice a n c) l) (hi : l[i]? = some p) : ∃ b o u, a = some ⟨b, o, none⟩ ∧ S b ∧ W.cell? ⟨b, o + i, none⟩ = some u ∧ Pts S W u p := by
  obtain ⟨_, a', c', e, hc⟩ := h
  injection e with e1 e2 e3
  subst e1
  exact hc i p hi
theorem Pts.slice {S : Nat → Prop} {W : World} {v : Value} {l : List Pt} (h : Pts S W v l) : ∃ a c, v = .slice a l.length c := by
  obtain ⟨_, a, c, e, _⟩ := h
  exact ⟨a, c, e⟩
theorem ownsRow_slice {W : World} {base : Nat} {e : TypeId} {sz : Nat} {v : Value} {n : Nat} {xs : List Value} (h : W.ownsRow base e sz v n xs) : ∃ a c, v = .slice a n c := by
  obtain ⟨h1, ⟨h2, h3⟩ | ⟨g', cap, cur, h2, h3, h4, h5⟩⟩ := h
  · exact ⟨none, 0, by rw [h2, h3]⟩
  · exact ⟨_, _, h2⟩
theorem ownsRow_keep {W W' : World} {base : Nat} {e : TypeId} {sz : Nat} {v : Value} {n : Nat} {xs : List Value} (h : W.ownsRow base e sz v n xs) (hk : ∀ g, base ≤ g → g < W.heap.size → W'.heap[g]? = W.heap[g]?) : W'.ownsRow base e sz v n xs := by
  obtain ⟨h1, h2 | ⟨g, cap, cur, h2, h3, h4, h5⟩⟩ := h
  · exact ⟨h1, .inl h2⟩
  · exact ⟨h1, .inr ⟨g, cap, cur, h2, h3, (hk g h3 (Array.getElem?_eq_some_iff.1 h4).1).trans h4, h5⟩⟩
theorem ownsRow_block {W : World} {base : Nat} {e : TypeId} {sz : Nat} {v : Value} {n g : Nat} {xs : List Value} (h : W.ownsRow base e sz v n xs) (hv : v.ownBlock = some g) : base ≤ g ∧ g < W.heap.size := by
  obtain ⟨h1, ⟨h2, _⟩ | ⟨g', cap, cur, h2, h3, h4, h5⟩⟩ := h
  · rw [h2] at hv; cases hv
  · rw [h2] at hv
    cases hv
    exact ⟨h3, (Array.getElem?_eq_some_iff.1 h4).1⟩
end Tr
end Go.Proofs.YtgobnjeankjkjaaGreatDoor

/- tree.Equal of two that are one tree: the lists. -/
namespace Go.Proofs.YtgobnjeankjkjaaGreatDoor
open Go.ChangeShapes Go.WideShapes Go.ChangeAt Go.RowKit
open Tr
set_option linter.unusedVariables false
theorem Tr.pt_sameT (w : World) (x y : Int) : (Op.equalIn 10000 39 (.agg #[.int .u64 x, .int .u64 y]) (.agg #[.int .u64 x, .int .u64 y])).run Tryz.prog w = .ok true w := by
  rw [show (10000 : Nat) = 9999 + 1 from rfl, run_equalIn_struct w 9999 39 _ _ (by kernel_rfl) (by kernel_rfl)]
  simp [Program.fieldsOf, Tryz.underlying39, Op.eqFields, part, go_sem]
theorem Tr.Rgs.lt {S : Nat → Prop} {W : World} {v : Value} {l : List (List Pt)} (h : Rgs S W v l) : Rgs (fun k => S k ∧ k < W.heap.size) W v l := by
  obtain ⟨hl, a, c, rfl, hc⟩ := h
  refine ⟨hl, a, c, rfl, fun i p hi => ?_⟩
  obtain ⟨b, o, u, rfl, hb, y1, y2⟩ := hc i p hi
  exact ⟨b, o, u, rfl, ⟨hb, cell_lt y1⟩, y1, y2.lt⟩
theorem Tr.hidE {p : Prop} (h : p) : Hid p := h
set_option maxHeartbeats 3200000 in
set_option maxRecDepth 100000 in
theorem slEq_same {w : World} {S1 S2 : Nat → Prop} {u1 u2 : Value} {ps : List Pt} (h1 : Pts S1 w u1 ps) (h2 : Pts S2 w u2 ps) :
    Calls Tryz.prog 74 #[u1, u2] w fun e w' => e = .returned (.bool true) ∧ ∃ d, w' = w.drewN d := by
  obtain ⟨hl, a1, c1, rfl, hc1⟩ := h1
  obtain ⟨_, a2, c2, rfl, hc2⟩ := h2
  obtain ⟨L, hL⟩ : ∃ L, L = ps.length := ⟨_, rfl⟩
  have HL : Hid (L = ps.length) := hL
  rw [← hL] at hl ⊢
  have HC1 := hidE hc1
  have HC2 := hidE hc2
  clear hL hc1 hc2
  go_enter Tryz.func74, Tryz.ntmps74
  go_wp2
  go_loopw [13] (fun i wr => ∃ (j d : Nat), i = .int .i64 (j : Int) ∧ j ≤ L ∧ wr = w.drewN d) (fun i _ => L - (intOf i).toNat)
  case atStart => exact ⟨0, 0, rfl, Nat.zero_le _, rfl⟩
  case round =>
    obtain ⟨j, d, rfl, hj, rfl⟩ := hrel
    by_cases hlt : j < L
    · obtain ⟨p, hp⟩ : ∃ p, ps[j]? = some p := ⟨_, List.getElem?_eq_getElem (by rw [← HL.out]; exact hlt)⟩
      obtain ⟨b1, o1, rfl, _, _, _, k1, k2⟩ := HC1.out j p hp
      obtain ⟨b2, o2, rfl, _, _, _, k3, k4⟩ := HC2.out j p hp
      obtain ⟨x, y⟩ := p
      simp only at k1 k2 k3 k4
      rw [Nat.mul_comm 2 j] at k1 k2 k3 k4
      have hq : ∀ w, (binOp .neq 39 (.agg #[.int .u64 x, .int .u64 y]) (.agg #[.int .u64 x, .int .u64 y])).run Tryz.prog w = .ok (.bool false) w := fun w => by
        rw [run_neq_struct, pt_sameT]
        rfl
      clear hp HC1 HC2
      go_wp2
      go_quiet (fail)
      go_wp2
      go_roundw
      case rel => exact ⟨j + 1, d + nq, by go_num, by omega, by simp [World.drewN]⟩
      case measure => simp [intOf]; omega
    · go_wp2
      go_ret
      exact ⟨rfl, d, rfl⟩
set_option maxHeartbeats 3200000 in
set_option maxRecDepth 100000 in
theorem slEqF_same {w : World} {S1 S2 : Nat → Prop} {u1 u2 : Value} {rs : List (List Pt)} (h1 : Rgs S1 w u1 rs) (h2 : Rgs S2 w u2 rs) :
    Calls Tryz.prog 75 #[u1, u2, .func (.func 74) #[] #[]] w fun e w' => e = .returned (.bool true) ∧ ∃ d, w' = w.drewN d := by
  obtain ⟨hl, a1, c1, rfl, hc1⟩ := h1
  obtain ⟨_, a2, c2, rfl, hc2⟩ := h2
  obtain ⟨L, hL⟩ : ∃ L, L = rs.length := ⟨_, rfl⟩
  have HL : Hid (L = rs.length) := hL
  rw [← hL] at hl ⊢
  have HC1 := hidE hc1
  have HC2 := hidE hc2
  clear hL hc1 hc2
  go_enter Tryz.func75, Tryz.ntmps75
  go_wp2
  go_loopw [17] (fun i wr => ∃ (j d : Nat), i = .int .i64 (j : Int) ∧ j ≤ L ∧ wr = w.drewN d) (fun i _ => L - (intOf i).toNat)
  case atStart => exact ⟨0, 0, rfl, Nat.zero_le _, rfl⟩
  case round =>
    obtain ⟨j, d, rfl, hj, rfl⟩ := hrel
    by_cases hlt : j < L
    · obtain ⟨p, hp⟩ : ∃ p, rs[j]? = some p := ⟨_, List.getElem?_eq_getElem (by rw [← HL.out]; exact hlt)⟩
      obtain ⟨b1, o1, v1, rfl, _, k1, q1⟩ := HC1.out j p hp
      obtain ⟨b2, o2, v2, rfl, _, k2, q2⟩ := HC2.out j p hp
      have hE := slEq_same (q1.below (W' := w.drewN d) ⟨Nat.le_refl _, fun _ _ => rfl⟩) (q2.below (W' := w.drewN d) ⟨Nat.le_refl _, fun _ _ => rfl⟩)
      obtain ⟨x1, y1, rfl⟩ := q1.slice
      obtain ⟨x2, y2, rfl⟩ := q2.slice
      clear hp HC1 HC2 q1 q2
      go_wp2_with (go_at_call 74; refine hE.mono ?_; rintro e wX ⟨rfl, m, rfl⟩)
      go_roundw
      case rel => exact ⟨j + 1, d + m, by go_num, by omega, by simp [World.drewN]⟩
      case measure => simp [intOf]; omega
    · go_wp2
      go_ret
      exact ⟨rfl, d, rfl⟩
set_option maxHeartbeats 3200000 in
set_option maxRecDepth 100000 in
theorem alikeT_same {w : World} {S1 S2 : Nat → Prop} {b1 o1 b2 o2 m p1 p2 : Nat} {g : Gm} {a1 a2 : Option Addr} (h1 : GmAt S1 w b1 o1 g (.slice a1 m p1)) (h2 : GmAt S2 w b2 o2 g (.slice a2 m p2)) (x1 x2 x3 y1 y2 y3 : Int) (hm : m ≤ 1048576) :
    Calls Tryz.prog 48 #[.agg #[.pointer (some ⟨b1, o1, none⟩), .int .i64 x1, .int .i64 x2, .int .i64 x3], .agg #[.pointer (some ⟨b2, o2, none⟩), .int .i64 y1, .int .i64 y2, .int .i64 y3]] w fun e w' => e = .returned (.bool true) ∧ Below w.heap.size w w' := by
  obtain ⟨W, hW⟩ : ∃ W, W = (w.alloc (.cells #[.pointer (some ⟨b1, o1, none⟩), .int .i64 x1, .int .i64 x2, .int .i64 x3] 101)).alloc (.cells #[.pointer (some ⟨b2, o2, none⟩), .int .i64 y1, .int .i64 y2, .int .i64 y3] 101) := ⟨_, rfl⟩
  have HW : Hid ((w.alloc (.cells #[.pointer (some ⟨b1, o1, none⟩), .int .i64 x1, .int .i64 x2, .int .i64 x3] 101)).alloc (.cells #[.pointer (some ⟨b2, o2, none⟩), .int .i64 y1, .int .i64 y2, .int .i64 y3] 101) = W) := hW.symm
  have hbW : Below w.heap.size w W := by rw [hW]; exact ((Below.refl _ w).alloc (Nat.le_refl _) _).alloc (by simp) _
  have c1 : W.cell? ⟨w.heap.size, 0, none⟩ = some (.pointer (some ⟨b1, o1, none⟩)) := by
    rw [hW]
    have := cell_of ((Below.heap_alloc (w.alloc (.cells #[.pointer (some ⟨b1, o1, none⟩), .int .i64 x1, .int .i64 x2, .int .i64 x3] 101)) (.cells #[.pointer (some ⟨b2, o2, none⟩), .int .i64 y1, .int .i64 y2, .int .i64 y3] 101) w.heap.size (by simp)).trans (World.alloc_heap_new w _)) 0
    exact this
  have c2 : W.cell? ⟨w.heap.size + 1, 0, none⟩ = some (.pointer (some ⟨b2, o2, none⟩)) := by
    rw [hW]
    simp
  have hk : ∀ {b o : Nat} {v : Value}, w.cell? ⟨b, o, none⟩ = some v → W.cell? ⟨b, o, none⟩ = some v := fun hc => (hbW.cell (p := ⟨_, _, none⟩) (cell_lt hc)).trans hc
  obtain ⟨s1, _, k0, ⟨v1, k1, q1⟩, ⟨v2, k2, q2⟩, k3⟩ := h1
  obtain ⟨s2, _, l0, ⟨v3, l1, r1⟩, ⟨v4, l2, r2⟩, l3⟩ := h2
  obtain ⟨ha1, hc1, rfl⟩ := q1.slice
  obtain ⟨ha3, hc3, rfl⟩ := r1.slice
  have q2' := q2
  have r2' := r2
  obtain ⟨_, ha2, hc2, rfl, _⟩ := q2'
  obtain ⟨_, ha4, hc4, rfl, _⟩ := r2'
  have e0 := hk k0
  have e1 := hk k1
  have e2 := hk k2
  have e3 := hk k3
  have f0 := hk l0
  have f1 := hk l1
  have f2 := hk l2
  have f3 := hk l3
  have hKp : ∀ {S : Nat → Prop} (n : Nat), (∀ k, S k → k < w.heap.size) → Kp S w (W.drewN n) := fun n h => ⟨hbW.size, fun k hk => hbW.block k (h k hk)⟩
  have hE1 : ∀ n, Calls Tryz.prog 74 #[.slice ha1 g.line.length hc1, .slice ha3 g.line.length hc3] (W.drewN n) fun e w' => e = .returned (.bool true) ∧ ∃ d, w' = (W.drewN n).drewN d := fun n => slEq_same (q1.lt.below (hKp n (fun k h => h.2))) (r1.lt.below (hKp n (fun k h => h.2)))
  have hE2 : ∀ n, Calls Tryz.prog 75 #[.slice ha2 g.rings.length hc2, .slice ha4 g.rings.length hc4, .func (.func 74) #[] #[]] (W.drewN n) fun e w' => e = .returned (.bool true) ∧ ∃ d, w' = (W.drewN n).drewN d := fun n => slEqF_same (q2.lt.below (hKp n (fun k h => h.2))) (r2.lt.below (hKp n (fun k h => h.2)))
  have hkk : (g.kind == g.kind) = true := by simp
  have hmm : ((m : Int) == (m : Int)) = true := by simp
  clear hW k0 k1 k2 k3 l0 l1 l2 l3 q1 q2 r1 r2 hk hKp
  go_enter Tryz.func48, Tryz.ntmps48
  go_upto_region 1 with (fail)
  rw [HW.out]
  go_quiet ((first | (go_at_call 74; exact Calls.quiet_of (hE1 _)) | (go_at_call 75; exact Calls.quiet_of (hE2 _))))
  go_wp2
  go_ret
  exact ⟨rfl, ⟨hbW.os, hbW.tape, hbW.output, hbW.size, hbW.block⟩⟩
end Go.Proofs.YtgobnjeankjkjaaGreatDoor

