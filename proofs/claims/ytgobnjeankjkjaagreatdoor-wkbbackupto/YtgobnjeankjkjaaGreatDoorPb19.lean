import Derived.BigQuiet
import Derived.Deep.QuietTactic
import Derived.WalkKit
import Derived.ProofKit
import Derived.OpenShut
import Derived.ShutString
import Derived.ChangeOld
import Derived.Below
import Derived.Deep.CutRange
import Derived.Deep.RegionHeld3
import Derived.Deep.RegionLaw
import Derived.Laws.AppendOwn
import Derived.Laws.BitsAllLaws
import Derived.Laws.Rows
import Derived.LoopIn
import Derived.LoopNIn
import Derived.Maps.AppendAt
import Derived.OwnWalk
import Derived.OwnWalkIn
import Derived.RangeFuncBound
import Derived.RangeFuncLeaves
import Derived.RangeFuncNested
import Derived.Shelf.Abstract
import Derived.Shelf.RegionOpen
import Derived.StillTailTactics
import Derived.TacticsInMore
import Derived.WalkLawsBesides
import Derived.WalkSpells
import Derived.Test.YtgobnjeankjkjaaGreatDoorPb4
import Derived.Test.YtgobnjeankjkjaaGreatDoorPb13
import Derived.Test.YtgobnjeankjkjaaGreatDoorPb17
/- The makers of trees: nodes in memory; into, finite, take, points. -/
namespace Go.Proofs.YtgobnjeankjkjaaGreatDoor
open Go.ChangeShapes Go.WideShapes Go.ChangeAt Go.RowKit
open Tr Wk Ar Mk
set_option linter.unusedVariables false
theorem hidM {p : Prop} (h : p) : Hid p := h
namespace Mk
/-- patterns in memory -/
def XyAt (S : Nat → Prop) (W : World) (v : Value) (l : List Int) : Prop :=
  l.length ≤ 9223372036854775807 ∧ ∃ (a : Option Addr) (c : Nat), v = .slice a l.length c ∧ ∀ i x, l[i]? = some x → ∃ b o, a = some ⟨b, o, none⟩ ∧ S b ∧ U x ∧ W.cell? ⟨b, o + i, none⟩ = some (.int .u64 x)
theorem XyAt.below {S : Nat → Prop} {W W' : World} {v : Value} {l : List Int} (h : XyAt S W v l) (hk : Kp S W W') : XyAt S W' v l := by
  obtain ⟨hl, a, c, rfl, hc⟩ := h
  refine ⟨hl, a, c, rfl, fun i x hi => ?_⟩
  obtain ⟨b, o, rfl, hb, u, k⟩ := hc i x hi
  exact ⟨b, o, rfl, hb, u, (hk.cell (p := ⟨b, o + i, none⟩) hb).trans k⟩
/-- nodes in memory -/
def NdsAt (S : Nat → Prop) (W : World) (v : Value) (l : List Nde) : Prop :=
  l.length ≤ 9223372036854775807 ∧ ∃ (a : Option Addr) (c : Nat), v = .slice a l.length c ∧ ∀ i d, l[i]? = some d → ∃ b o u, a = some ⟨b, o, none⟩ ∧ S b ∧ W.cell? ⟨b, o + i * 3, none⟩ = some (.int .i64 d.kind) ∧ W.cell? ⟨b, o + i * 3 + 1, none⟩ = some (.int .i64 d.size) ∧ W.cell? ⟨b, o + i * 3 + 2, none⟩ = some u ∧ XyAt S W u d.xy
theorem NdsAt.below {S : Nat → Prop} {W W' : World} {v : Value} {l : List Nde} (h : NdsAt S W v l) (hk : Kp S W W') : NdsAt S W' v l := by
  obtain ⟨hl, a, c, rfl, hc⟩ := h
  refine ⟨hl, a, c, rfl, fun i d hi => ?_⟩
  obtain ⟨b, o, u, rfl, hb, k1, k2, k3, k4⟩ := hc i d hi
  exact ⟨b, o, u, rfl, hb, (hk.cell (p := ⟨b, o + i * 3, none⟩) hb).trans k1, (hk.cell (p := ⟨b, o + i * 3 + 1, none⟩) hb).trans k2, (hk.cell (p := ⟨b, o + i * 3 + 2, none⟩) hb).trans k3, k4.below hk⟩
theorem NdsAt.oks {S : Nat → Prop} {W : World} {v : Value} {l : List Nde} (h : NdsAt S W v l) : ∀ x ∈ l, NdeOk x := by
  obtain ⟨_, a, c, rfl, hc⟩ := h
  intro x hx b hb
  obtain ⟨i, hi, rfl⟩ := List.getElem_of_mem hx
  obtain ⟨_, _, u, _, _, _, _, _, _, a', c', _, hy⟩ := hc i _ (List.getElem?_eq_getElem hi)
  obtain ⟨j, hj, rfl⟩ := List.getElem_of_mem hb
  obtain ⟨_, _, _, _, q, _⟩ := hy j _ (List.getElem?_eq_getElem hj)
  exact q
/-- a maker in memory -/
structure MkS (w0 w : World) (gm : Nat) (v : Value) (l : List Nde) (nx : Nat) : Prop where
  bel : Below w0.heap.size w0 w
  blk : w.heap[gm]? = some (.cells #[v, .int .i64 (nx : Int)] 82 (0, 0))
  lo : w0.heap.size ≤ gm
  nds : NdsAt (· < w0.heap.size) w0 v l
  nx : nx ≤ 60
section
variable {w0 w w' : World} {gm : Nat} {v : Value} {l : List Nde} {nx : Nat}
theorem MkS.lt (h : MkS w0 w gm v l nx) : gm < w.heap.size := (Array.getElem?_eq_some_iff.1 h.blk).1
theorem MkS.later (h : MkS w0 w gm v l nx) (hb : Below w.heap.size w w') : MkS w0 w' gm v l nx := ⟨h.bel.trans (hb.mono h.bel.size), (hb.block gm h.lt).trans h.blk, h.lo, h.nds, h.nx⟩
/-- what stands behind a change of the maker's block alone -/
theorem MkS.keep (h : MkS w0 w gm v l nx) (hb : Below w0.heap.size w w') (hg : w'.heap[gm]? = w.heap[gm]?) : MkS w0 w' gm v l nx := ⟨h.bel.trans hb, hg.trans h.blk, h.lo, h.nds, h.nx⟩
end
/-- a block of three cells -/
def Tc (w : World) (g : Nat) (t : TypeId) (x y z : Value) : Prop := w.heap[g]? = some (.cells #[x, y, z] t (0, 0))
theorem Tc.lt {w : World} {g : Nat} {t : TypeId} {x y z : Value} (h : Tc w g t x y z) : g < w.heap.size := (Array.getElem?_eq_some_iff.1 h).1
theorem Tc.cells {w : World} {g : Nat} {t : TypeId} {x y z : Value} (h : Tc w g t x y z) : w.cell? ⟨g, 0, none⟩ = some x ∧ w.cell? ⟨g, 1, none⟩ = some y ∧ w.cell? ⟨g, 2, none⟩ = some z := ⟨cell_of h 0, cell_of h 1, cell_of h 2⟩
theorem Tc.frozen {w : World} {g : Nat} {t : TypeId} {x y z : Value} (h : Tc w g t x y z) : w.frozen? ⟨g, 0, none⟩ = false ∧ w.frozen? ⟨g, 1, none⟩ = false ∧ w.frozen? ⟨g, 2, none⟩ = false := by
  unfold Tc at h
  simp [World.frozen?, h]
theorem tc_new (w : World) (x y z : Value) (t : TypeId) : Tc (w.alloc (.cells #[x, y, z] t)) w.heap.size t x y z := World.alloc_heap_new w _
end Mk
theorem into17_any {n top : Int} (h0 : 0 < top) (h1 : top ≤ 1000000000) (w : World) :
    Calls Tryz.prog 14 #[.int .i64 n, .int .i64 top] w fun e w' => e = .returned (.int .i64 (n % top)) ∧ w' = w := by
  have z : (top == 0) = false := by simp; omega
  have hne : ¬ top = -1 := by omega
  have hz0 : ¬ top = 0 := by omega
  have e1 : n.tmod top < top := Int.tmod_lt_of_pos n h0
  have e2 : -top < n.tmod top := Int.lt_tmod_of_pos n h0
  have hm : n % top = if n.tmod top < 0 then n.tmod top + top else n.tmod top := by
    have q1 := Int.emod_nonneg n hz0
    have q2 := Int.emod_lt_of_pos n h0
    have hN : (top.natAbs : Int) = top := by omega
    rw [Int.tmod_eq_emod]
    split
    · split <;> omega
    · rw [hN]; split <;> omega
  rw [hm]
  clear hm
  generalize hq : n.tmod top = q at *
  by_cases h : q < 0
  · rw [if_pos h]
    have d : decide (q < 0) = true := by simp; omega
    go_enter Tryz.func14, Tryz.ntmps14
    go_wp2
    go_ret
    exact ⟨rfl, rfl⟩
  · rw [if_neg h]
    have d : decide (q < 0) = false := by simp; omega
    go_enter Tryz.func14, Tryz.ntmps14
    go_wp2
    go_ret
    exact ⟨rfl, rfl⟩
theorem finite17_any {b : Int} (hu : U b) (w : World) : Calls Tryz.prog 92 #[.int .u64 b] w fun r w' => r = .returned (.int .u64 (finM b)) ∧ w' = w := by
  have h := field_and hu
  unfold finM
  by_cases q : ef b = 2047
  · rw [if_pos q]
    have d : (ef b == 2047) = true := beq_of q
    go_enter Tryz.func92, Tryz.ntmps92
    go_wp2
    go_ret
    exact ⟨rfl, rfl⟩
  · rw [if_neg q]
    have d : (ef b == 2047) = false := beq_no q
    go_enter Tryz.func92, Tryz.ntmps92
    go_wp2
    go_ret
    exact ⟨rfl, rfl⟩
end Go.Proofs.YtgobnjeankjkjaaGreatDoor

/- The makers of trees: take. -/
namespace Go.Proofs.YtgobnjeankjkjaaGreatDoor
open Go.ChangeShapes Go.WideShapes Go.ChangeAt Go.RowKit
open Tr Wk Ar Mk
set_option linter.unusedVariables false
set_option maxHeartbeats 3200000 in
set_option maxRecDepth 100000 in
theorem take17_any {w0 w : World} {gm : Nat} {v : Value} {l : List Nde} {nx : Nat} (h : MkS w0 w gm v l nx) :
    Calls Tryz.prog 58 #[.pointer (some ⟨gm, 0, none⟩)] w (fun e w' => ∃ u, e = .returned (.agg #[.int .i64 (takeS l nx).1.kind, .int .i64 (takeS l nx).1.size, u]) ∧ XyAt (· < w0.heap.size) w0 u (takeS l nx).1.xy ∧ MkS w0 w' gm v l (takeS l nx).2 ∧ Tr.Ex gm w w') := by
  obtain ⟨hl, a, c, rfl, hc⟩ := h.nds
  have HN := hidM h.nds
  have hlt := h.lt
  have hne : gm ≠ w.heap.size := by omega
  have hnx := h.nx
  have HS := hidM h
  have g0 : w.cell? ⟨gm, 0, none⟩ = some (.slice a l.length c) := cell_of h.blk 0
  have g1 : w.cell? ⟨gm, 1, none⟩ = some (.int .i64 (nx : Int)) := cell_of h.blk 1
  have z1 : w.frozen? ⟨gm, 1, none⟩ = false := by simp [World.frozen?, h.blk]
  by_cases hq : nx < l.length ∧ nx < 60
  · have HT : Hid (takeS l nx = (l.getD nx .zero, nx + 1)) := by unfold takeS; exact if_pos hq
    rw [HT.out]
    obtain ⟨d, hd⟩ : ∃ d, l[nx]? = some d := ⟨_, List.getElem?_eq_getElem hq.1⟩
    have HD : Hid (l.getD nx .zero = d) := by show _ = _; rw [List.getD_eq_getElem?_getD, hd]; rfl
    rw [HD.out]
    obtain ⟨b, o, u, rfl, hb, k1, k2, k3, hx⟩ := hc nx d hd
    obtain ⟨n, hn⟩ : ∃ n, n = l.length := ⟨_, rfl⟩
    have HX := hidM hx
    have d1 : decide ((nx : Int) ≥ (l.length : Int)) = false := by simp; omega
    have d2 : decide ((nx : Int) ≥ 60) = false := by simp; omega
    have hbw : b < w.heap.size := by have := h.bel.size; omega
    have hbg : b ≠ gm := by have := h.lo; omega
    have k1' := (h.bel.cell (p := ⟨b, o + nx * 3, none⟩) hb).trans k1
    have k2' := (h.bel.cell (p := ⟨b, o + nx * 3 + 1, none⟩) hb).trans k2
    have k3' := (h.bel.cell (p := ⟨b, o + nx * 3 + 2, none⟩) hb).trans k3
    obtain ⟨hq1, hq2⟩ := hq
    rw [← hn] at g0 d1 hq1 hl ⊢
    have Hn := hidM hn
    clear hc hd hx hn k1 k2 k3 h hb HT HD
    go_enter Tryz.func58, Tryz.ntmps58
    go_upto_region 1 with (fail)
    have t1 := tc_new w (.int .i64 0) (.int .i64 0) (.slice none 0 0) 128
    have hz : (w.alloc (.cells #[.int .i64 0, .int .i64 0, .slice none 0 0] 128)).heap.size = w.heap.size + 1 := by simp
    have hbA := (Below.refl w.heap.size w).alloc (Nat.le_refl _) (.cells #[.int .i64 0, .int .i64 0, .slice none 0 0] 128)
    obtain ⟨W, hW⟩ : ∃ W, W = w.alloc (.cells #[.int .i64 0, .int .i64 0, .slice none 0 0] 128) := ⟨_, rfl⟩
    rw [← hW] at t1 hz hbA ⊢
    have g0' := (hbA.cell (p := ⟨gm, 0, none⟩) hlt).trans g0
    have g1' := (hbA.cell (p := ⟨gm, 1, none⟩) hlt).trans g1
    have hBlk : W.heap[gm]? = some (.cells #[.slice (some ⟨b, o, none⟩) n c, .int .i64 (nx : Int)] 82 (0, 0)) := by rw [Hn.out]; exact (hbA.block gm hlt).trans HS.out.blk
    have HB := hidM hBlk
    have HbA := hidM hbA
    have k1 := (hbA.cell (p := ⟨b, o + nx * 3, none⟩) hbw).trans k1'
    have k2 := (hbA.cell (p := ⟨b, o + nx * 3 + 1, none⟩) hbw).trans k2'
    have k3 := (hbA.cell (p := ⟨b, o + nx * 3 + 2, none⟩) hbw).trans k3'
    have HT1 := hidM t1
    have HZ := hidM hz
    clear hW hBlk hbA k1' k2' k3' g0 g1 z1 t1 hz
    go_quiet (fail)
    have t1 : Tc (W.drewN nq) w.heap.size 128 (.int .i64 0) (.int .i64 0) (.slice none 0 0) := HT1.out
    have hBlk : (W.drewN nq).heap[gm]? = some (.cells #[.slice (some ⟨b, o, none⟩) n c, .int .i64 (nx : Int)] 82 (0, 0)) := HB.out
    have hbA : Below w.heap.size w (W.drewN nq) := ⟨HbA.out.os, HbA.out.tape, HbA.out.output, HbA.out.size, HbA.out.block⟩
    have k1' : (W.drewN nq).cell? ⟨b, o + nx * 3, none⟩ = _ := k1
    have k2' : (W.drewN nq).cell? ⟨b, o + nx * 3 + 1, none⟩ = _ := k2
    have k3' : (W.drewN nq).cell? ⟨b, o + nx * 3 + 2, none⟩ = _ := k3
    clear k1 k2 k3 g0' g1'
    generalize W.drewN nq = V at *
    have g0 : V.cell? ⟨gm, 0, none⟩ = some (.slice (some ⟨b, o, none⟩) n c) := cell_of hBlk 0
    have g1 : V.cell? ⟨gm, 1, none⟩ = some (.int .i64 (nx : Int)) := cell_of hBlk 1
    have z1 : V.frozen? ⟨gm, 1, none⟩ = false := by simp [World.frozen?, hBlk]
    go_upto_region 4 with (fail)
    have hgw : gm ≠ w.heap.size := hne
    have hX0 : (V.setCell ⟨gm, 1, none⟩ (.int .i64 ((nx : Int) + 1))).heap[gm]? = some (.cells #[.slice (some ⟨b, o, none⟩) n c, .int .i64 ((nx : Int) + 1)] 82 (0, 0)) := set_blockT hBlk
    have hXk : ∀ k, k ≠ gm → (V.setCell ⟨gm, 1, none⟩ (.int .i64 ((nx : Int) + 1))).heap[k]? = V.heap[k]? := fun k hk => Below.heap_setCell _ _ _ _ hk
    have hXz : (V.setCell ⟨gm, 1, none⟩ (.int .i64 ((nx : Int) + 1))).heap.size = V.heap.size := by simp [World.setCell]
    have hEX : Tr.Ex gm w (V.setCell ⟨gm, 1, none⟩ (.int .i64 ((nx : Int) + 1))) := ((Tr.Ex.refl gm w).below hbA).set 1 _
    have hBX : Below w0.heap.size w0 (V.setCell ⟨gm, 1, none⟩ (.int .i64 ((nx : Int) + 1))) := (HS.out.bel.trans (hbA.mono HS.out.bel.size)).setCell (p := ⟨gm, 1, none⟩) HS.out.lo _
    obtain ⟨X, hX⟩ : ∃ X, X = V.setCell ⟨gm, 1, none⟩ (.int .i64 ((nx : Int) + 1)) := ⟨_, rfl⟩
    rw [← hX] at hX0 hXk hXz hEX hBX ⊢
    have g0 : X.cell? ⟨gm, 0, none⟩ = some (.slice (some ⟨b, o, none⟩) n c) := cell_of hX0 0
    have g1 : X.cell? ⟨gm, 1, none⟩ = some (.int .i64 ((nx : Int) + 1)) := cell_of hX0 1
    have j1 := (World.cell?_of_block (w := V) (a := ⟨b, o + nx * 3, none⟩) (hXk b hbg)).trans k1'
    have j2 := (World.cell?_of_block (w := V) (a := ⟨b, o + nx * 3 + 1, none⟩) (hXk b hbg)).trans k2'
    have j3 := (World.cell?_of_block (w := V) (a := ⟨b, o + nx * 3 + 2, none⟩) (hXk b hbg)).trans k3'
    have t2 : Tc X w.heap.size 128 (.int .i64 0) (.int .i64 0) (.slice none 0 0) := (hXk w.heap.size (fun e => hne e.symm)).trans t1
    obtain ⟨x0, x1, x2⟩ := t2.cells
    obtain ⟨y0, y1, y2⟩ := t2.frozen
    have HT2 := hidM t2
    have HE := hidM hEX
    have HBX := hidM hBX
    have HX0 := hidM hX0
    have hw1 : IntKind.i64.wrap ((nx : Int) + 1 - 1) = (nx : Int) := by rw [show (nx : Int) + 1 - 1 = nx by omega]; exact IntWalk.i64_in nx ⟨by omega, by omega⟩
    clear hX hXk hXz hEX hBX hX0 k1' k2' k3' t1 t2 hBlk hbA HB HbA HT1 HZ
    obtain ⟨uh, au, cu, hu, _⟩ := HX.out
    subst hu
    go_region
    obtain ⟨Y, hY⟩ : ∃ Y, Y = ((X.setCell ⟨w.heap.size, 0, none⟩ (.int .i64 d.kind)).setCell ⟨w.heap.size, 1, none⟩ (.int .i64 d.size)).setCell ⟨w.heap.size, 2, none⟩ (.slice au d.xy.length cu) := ⟨_, rfl⟩
    have t3 : Tc Y w.heap.size 128 (.int .i64 d.kind) (.int .i64 d.size) (.slice au d.xy.length cu) := by rw [hY]; exact set_blockT (set_blockT (set_blockT HT2.out))
    have hYk : ∀ k, k ≠ w.heap.size → Y.heap[k]? = X.heap[k]? := fun k hk => by rw [hY]; exact (Below.heap_setCell _ _ _ _ hk).trans ((Below.heap_setCell _ _ _ _ hk).trans (Below.heap_setCell _ _ _ _ hk))
    have hEY : Tr.Ex gm w Y := by rw [hY]; exact ((HE.out.setNew (p := ⟨w.heap.size, 0, none⟩) (Nat.le_refl _) _).setNew (p := ⟨w.heap.size, 1, none⟩) (Nat.le_refl _) _).setNew (p := ⟨w.heap.size, 2, none⟩) (Nat.le_refl _) _
    have hBY : Below w0.heap.size w0 Y := by rw [hY]; exact ((HBX.out.setCell (p := ⟨w.heap.size, 0, none⟩) HS.out.bel.size _).setCell (p := ⟨w.heap.size, 1, none⟩) HS.out.bel.size _).setCell (p := ⟨w.heap.size, 2, none⟩) HS.out.bel.size _
    rw [← hY]
    have HK := hidM hYk
    have HEY := hidM hEY
    have HBY := hidM hBY
    have t4 : Tc Y.drew w.heap.size 128 (.int .i64 d.kind) (.int .i64 d.size) (.slice au d.xy.length cu) := t3
    obtain ⟨p0, p1, p2⟩ := t4.cells
    clear hY hYk hEY hBY x0 x1 x2 y0 y1 y2 t3 g0 g1 j1 j2 j3
    go_wp2
    refine bodyPost_ret (v := .agg #[.int .i64 d.kind, .int .i64 d.size, .slice au d.xy.length cu]) (by simp [results, Tryz.results58, go_sem, p0, p1, p2]) rfl ?_
    refine ⟨_, rfl, HX.out, ⟨⟨HBY.out.os, HBY.out.tape, HBY.out.output, HBY.out.size, HBY.out.block⟩, ?_, HS.out.lo, by have := HN.out; rw [Hn.out]; exact this, by show nx + 1 ≤ 60; omega⟩, ⟨HEY.out.os, HEY.out.tape, HEY.out.output, HEY.out.size, HEY.out.block⟩⟩
    exact (HK.out gm hne).trans HX0.out
  · have HT : Hid (takeS l nx = (.zero, nx)) := by unfold takeS; exact if_neg hq
    rw [HT.out]
    have hdd : (l.length ≤ nx ∧ decide (l.length ≤ nx) = true) ∨ (nx < l.length ∧ decide (l.length ≤ nx) = false ∧ 60 ≤ nx ∧ decide (60 ≤ nx) = true) := by
      by_cases e : l.length ≤ nx
      · exact .inl ⟨e, by simp; omega⟩
      · exact .inr ⟨by omega, by simp; omega, by omega, by simp; omega⟩
    obtain ⟨n, hn⟩ : ∃ n, n = l.length := ⟨_, rfl⟩
    rw [← hn] at g0 hdd hl ⊢
    have Hn := hidM hn
    have hbA := (Below.refl w.heap.size w).alloc (Nat.le_refl _) (.cells #[.int .i64 0, .int .i64 0, .slice none 0 0] 128)
    have g0' := (hbA.cell (p := ⟨gm, 0, none⟩) hlt).trans g0
    have g1' := (hbA.cell (p := ⟨gm, 1, none⟩) hlt).trans g1
    have HbA := hidM hbA
    have HT1 := hidM (tc_new w (.int .i64 0) (.int .i64 0) (.slice none 0 0) 128)
    clear hc hn HT h hq z1 hbA
    rcases hdd with ⟨hd1, hd2⟩ | ⟨hd1, hd2, hd3, hd4⟩
    all_goals
      go_enter Tryz.func58, Tryz.ntmps58
      go_upto_region 1 with (fail)
      obtain ⟨W, hW⟩ : ∃ W, W = w.alloc (.cells #[.int .i64 0, .int .i64 0, .slice none 0 0] 128) := ⟨_, rfl⟩
      rw [← hW] at g0' g1' HbA HT1 ⊢
      clear hW
      go_quiet (fail)
      have t1 : Tc (W.drewN nq) w.heap.size 128 (.int .i64 0) (.int .i64 0) (.slice none 0 0) := HT1.out
      have HbV : Hid (Below w.heap.size w (W.drewN nq)) := ⟨HbA.out.os, HbA.out.tape, HbA.out.output, HbA.out.size, HbA.out.block⟩
      clear g0' g1' g0 g1
      generalize W.drewN nq = V at *
      obtain ⟨x0, x1, x2⟩ := t1.cells
      obtain ⟨y0, y1, y2⟩ := t1.frozen
      have HT4 := hidM t1
      clear t1
      go_wp2
      obtain ⟨Y, hY⟩ : ∃ Y, Y = ((V.setCell ⟨w.heap.size, 0, none⟩ (.int .i64 0)).setCell ⟨w.heap.size, 1, none⟩ (.int .i64 0)).setCell ⟨w.heap.size, 2, none⟩ (.slice none 0 0) := ⟨_, rfl⟩
      have t3 : Tc Y w.heap.size 128 (.int .i64 0) (.int .i64 0) (.slice none 0 0) := by rw [hY]; exact set_blockT (set_blockT (set_blockT HT4.out))
      obtain ⟨p0, p1, p2⟩ := t3.cells
      have hbY : Below w.heap.size w Y := by rw [hY]; exact ((HbV.out.setCell (p := ⟨w.heap.size, 0, none⟩) (Nat.le_refl _) _).setCell (p := ⟨w.heap.size, 1, none⟩) (Nat.le_refl _) _).setCell (p := ⟨w.heap.size, 2, none⟩) (Nat.le_refl _) _
      rw [← hY]
      refine bodyPost_ret (v := .agg #[.int .i64 0, .int .i64 0, .slice none 0 0]) (by simp [results, Tryz.results58, go_sem, p0, p1, p2]) rfl ?_
      refine ⟨.slice none 0 0, rfl, ⟨by simp [Nde.zero], none, 0, rfl, fun i x h => by cases h⟩, ?_, (Tr.Ex.refl gm w).below hbY⟩
      rw [Hn.out]
      exact HS.out.later hbY
end Go.Proofs.YtgobnjeankjkjaaGreatDoor

/- The makers of trees: points. -/
namespace Go.Proofs.YtgobnjeankjkjaaGreatDoor
open Go.ChangeShapes Go.WideShapes Go.ChangeAt Go.RowKit
open Tr Wk Ar Mk
set_option linter.unusedVariables false
set_option maxHeartbeats 3200000 in
set_option maxRecDepth 100000 in
theorem points17_any {w0 w : World} (hb : Below w0.heap.size w0 w) {x : Nde} {u : Value} (hx : XyAt (· < w0.heap.size) w0 u x.xy) (hk : NdeOk x) {n : Nat} (hn : n ≤ 1000) :
    Calls Tryz.prog 59 #[.agg #[.int .i64 x.kind, .int .i64 x.size, u], .int .i64 (n : Int)] w (fun e w' => ∃ a c, e = .returned (.slice a n c) ∧ Pts (fun k => w.heap.size ≤ k ∧ k < w'.heap.size) w' (.slice a n c) (ptsN x n) ∧ Below w.heap.size w w') := by
  obtain ⟨ip, hip, hz0, hz1, hz2⟩ := info_partsT info_pt
  obtain ⟨hl, a, c, rfl, hc⟩ := hx
  obtain ⟨m, hm⟩ : ∃ m, m = x.xy.length := ⟨_, rfl⟩
  rw [← hm] at hl ⊢
  have Hm := hidM hm
  have HC := hidM hc
  have HB := hidM hb
  have HK := hidM hk
  clear hc hm hb hk
  go_enter Tryz.func59, Tryz.ntmps59
  go_upto_region 1 with (fail)
  have t1 := tc_new w (.int .i64 x.kind) (.int .i64 x.size) (.slice a m c) 128
  have hbW := (Below.refl w.heap.size w).alloc (Nat.le_refl _) (.cells #[.int .i64 x.kind, .int .i64 x.size, .slice a m c] 128)
  obtain ⟨W, hW⟩ : ∃ W, W = w.alloc (.cells #[.int .i64 x.kind, .int .i64 x.size, .slice a m c] 128) := ⟨_, rfl⟩
  rw [← hW] at t1 hbW ⊢
  have HT := hidM t1
  have HbW := hidM hbW
  have HzW : Hid (W.heap.size = w.heap.size + 1) := by show _ = _; rw [hW]; simp
  clear hW t1 hbW
  go_wp2
  go_loopw [5, 6] (fun ov i wr => ∃ j : Nat, i = .int .i64 (j : Int) ∧ j ≤ n ∧ Hid (wr.ownsRow W.heap.size 39 2 ov j (ptcs (ptsN x j))) ∧ Hid (Below W.heap.size W wr)) (fun _ i _ => n - (intOf i).toNat)
  case atStart => exact ⟨0, rfl, Nat.zero_le _, World.ownsRow_nil _ _ _ _, Below.refl _ _⟩
  case round =>
    obtain ⟨j, rfl, hj, HO, HBr⟩ := hrel
    by_cases hlt : j < n
    · have hd : decide ((j : Int) < (n : Int)) = true := by simp; omega
      have t2 : Tc wr w.heap.size 128 (.int .i64 x.kind) (.int .i64 x.size) (.slice a m c) := (HBr.out.block w.heap.size (by have := HzW.out; omega)).trans HT.out
      obtain ⟨x0, x1, x2⟩ := t2.cells
      have hlw : w.heap.size < wr.heap.size := t2.lt
      clear t2
      by_cases hq : 2 * j + 1 < m
      · obtain ⟨q1, hq1⟩ : ∃ q, x.xy[2 * j]? = some q := ⟨_, List.getElem?_eq_getElem (by rw [← Hm.out]; omega)⟩
        obtain ⟨q2, hq2⟩ : ∃ q, x.xy[2 * j + 1]? = some q := ⟨_, List.getElem?_eq_getElem (by rw [← Hm.out]; omega)⟩
        have HP : Hid (ptN x j = (finM q1, finM q2)) := by
          show _ = _
          unfold ptN
          rw [← Hm.out, if_pos hq, List.getD_eq_getElem?_getD, hq1, List.getD_eq_getElem?_getD, hq2]
          rfl
        obtain ⟨b, o, rfl, hbb, u1, k1⟩ := HC.out _ _ hq1
        obtain ⟨b', o', e, _, u2, k2⟩ := HC.out _ _ hq2
        cases e
        have hbw : b < wr.heap.size := by have := HB.out.size; omega
        have hlow : ∀ p : Addr, p.block < w0.heap.size → wr.cell? p = w0.cell? p := fun p hp => by
          have h1 := HB.out.cell (p := p) hp
          have h2 := (HbW.out.mono (Nat.le_refl _)).cell (p := p) (by have := HB.out.size; omega)
          have h3 := HBr.out.cell (p := p) (by have := HB.out.size; have := HzW.out; omega)
          exact h3.trans (h2.trans h1)
        have j1 := (hlow ⟨b, o + 2 * j, none⟩ hbb).trans k1
        have j2 := (hlow ⟨b, o + (2 * j + 1), none⟩ hbb).trans k2
        have hsum := ptcs_snoc (ptsN x j) (ptN x j)
        rw [← ptsN_snoc, HP.out] at hsum
        have HSum := hidM hsum
        clear hlow k1 k2 hq1 hq2 hbb hsum
        go_upto_region 7 with (fail)
        obtain ⟨X, hX⟩ : ∃ X, X = wr.alloc (.cells #[.int .u64 4607182418800017408, .int .u64 4607182418800017408] 39) := ⟨_, rfl⟩
        have hbX : Below wr.heap.size wr X := by rw [hX]; exact (Below.refl _ wr).alloc (Nat.le_refl _) _
        have x2' := (hbX.cell (p := ⟨w.heap.size, 2, none⟩) hlw).trans x2
        have j1' : X.cell? ⟨b, o + (2 * (j : Int)).toNat, none⟩ = some (.int .u64 q1) := by
          rw [show (2 * (j : Int)).toNat = 2 * j by omega]
          exact (hbX.cell (p := ⟨b, o + 2 * j, none⟩) hbw).trans j1
        have j2' : X.cell? ⟨b, o + (2 * (j : Int) + 1).toNat, none⟩ = some (.int .u64 q2) := by
          rw [show (2 * (j : Int) + 1).toNat = 2 * j + 1 by omega]
          exact (hbX.cell (p := ⟨b, o + (2 * j + 1), none⟩) hbw).trans j2
        have hXb : X.heap[wr.heap.size]? = some (.cells #[.int .u64 4607182418800017408, .int .u64 4607182418800017408] 39 (0, 0)) := by rw [hX]; exact World.alloc_heap_new wr _
        have y0 : X.cell? ⟨wr.heap.size, 0, none⟩ = some (.int .u64 4607182418800017408) := cell_of hXb 0
        have y1 : X.cell? ⟨wr.heap.size, 1, none⟩ = some (.int .u64 4607182418800017408) := cell_of hXb 1
        have f0 : X.frozen? ⟨wr.heap.size, 0, none⟩ = false := by simp [World.frozen?, hXb]
        have f1 : X.frozen? ⟨wr.heap.size, 1, none⟩ = false := by simp [World.frozen?, hXb]
        have HbX := hidM hbX
        have HXb := hidM hXb
        have hw1 : IntKind.i64.wrap (2 * (j : Int)) = 2 * (j : Int) := IntWalk.i64_in _ ⟨by omega, by omega⟩
        have hw2 : IntKind.i64.wrap (2 * (j : Int) + 1) = 2 * (j : Int) + 1 := IntWalk.i64_in _ ⟨by omega, by omega⟩
        rw [← hX]
        clear hX hbX hXb x0 x1 x2 j1 j2
        have i0 : (0 : Int) ≤ 2 * (j : Int) := by omega
        have i1 : 2 * (j : Int) < (m : Int) := by omega
        have i2 : 2 * (j : Int) + 1 < (m : Int) := by omega
        have i3 : (0 : Int) ≤ 2 * (j : Int) + 1 := by omega
        have n1 : ¬ w.heap.size = wr.heap.size := by omega
        have n2 : ¬ wr.heap.size = w.heap.size := by omega
        have n3 : ¬ b = wr.heap.size := by omega
        have n4 : ¬ wr.heap.size = b := by omega
        go_region_held3 (fun w' => w'.cell? ⟨w.heap.size, 2, none⟩ = some (.slice (some ⟨b, o, none⟩) m c) ∧ w'.cell? ⟨b, o + (2 * (j : Int)).toNat, none⟩ = some (.int .u64 q1) ∧ w'.cell? ⟨b, o + (2 * (j : Int) + 1).toNat, none⟩ = some (.int .u64 q2)) (go_keep) ((go_at_call 92; refine (finite17_any ?hu _).mono ?_; (case hu => (first | exact u1 | exact u2)); rintro e wX ⟨rfl, hwX⟩; rw [hwX]))
        obtain ⟨Y, hY⟩ : ∃ Y, Y = ((X.setCell ⟨wr.heap.size, 0, none⟩ (.int .u64 (finM q1))).setCell ⟨wr.heap.size, 1, none⟩ (.int .u64 (finM q2))).drew := ⟨_, rfl⟩
        have HYb : Hid (Y.heap[wr.heap.size]? = some (.cells #[.int .u64 (finM q1), .int .u64 (finM q2)] 39 (0, 0))) := by rw [hY]; exact set_blockT (set_blockT HXb.out)
        have HbY : Hid (Below wr.heap.size wr Y) := by rw [hY]; exact below_drewT ((HbX.out.setCell (p := ⟨wr.heap.size, 0, none⟩) (Nat.le_refl _) _).setCell (p := ⟨wr.heap.size, 1, none⟩) (Nat.le_refl _) _)
        rw [← hY]
        clear hY hwX x2' j1' j2' y0 y1 f0 f1 HbX HXb hw1 hw2 HP i0 i1 i2 i3 n1 n2 n3 n4
        generalize finM q1 = A at *
        generalize finM q2 = B at *
        have hYb : Y.heap[wr.heap.size]? = some (.cells #[.int .u64 A, .int .u64 B] 39 (0, 0)) := HYb.out
        have s1 := HbY.out.size
        have y0 : Y.cell? ⟨wr.heap.size, 0, none⟩ = some (.int .u64 A) := cell_of hYb 0
        have y1 : Y.cell? ⟨wr.heap.size, 1, none⟩ = some (.int .u64 B) := cell_of hYb 1
        obtain ⟨Z, hZ⟩ : ∃ Z, Z = Y.alloc (.cells #[.int .u64 A, .int .u64 B] 39) := ⟨_, rfl⟩
        have hbZ : Below Y.heap.size Y Z := by rw [hZ]; exact (Below.refl _ Y).alloc (Nat.le_refl _) _
        have hZb : Z.heap[Y.heap.size]? = some (.cells #[.int .u64 A, .int .u64 B] 39 (0, 0)) := by rw [hZ]; exact World.alloc_heap_new Y _
        have s2 := hbZ.size
        have s0 := HBr.out.size
        have hown : Z.ownsRow W.heap.size 39 2 u5 j (ptcs (ptsN x j)) := own_keep HO.out (fun g hg => (hbZ.block g (by have := (ownsRow_block HO.out hg).2; omega)).trans (HbY.out.block g (ownsRow_block HO.out hg).2))
        have hnews : ∀ (k : Nat) (u : Value), [Value.int .u64 A, .int .u64 B][k]? = some u → Z.cell? (Addr.add ⟨Y.heap.size, 0, none⟩ k) = some u := fun k u hk => by
          have hadd : Addr.add ⟨Y.heap.size, 0, none⟩ k = ⟨Y.heap.size, k, none⟩ := by unfold Addr.add; split <;> simp_all
          rw [hadd, cell_of hZb k]
          simpa using hk
        have HZ : Hid (Y.alloc (.cells #[.int .u64 A, .int .u64 B] 39) = Z) := hZ.symm
        have HbZ : Hid (Below wr.heap.size wr Z) := HbY.out.trans (hbZ.mono s1)
        have Hro : Hid (∀ g, u5.ownBlock = some g → W.heap.size ≤ g) := fun g hg => (ownsRow_block HO.out hg).1
        have hj9 : j + 1 ≤ maxLen := by unfold maxLen; omega
        clear hZ hbZ hZb hYb
        go_wp2_with (at_builtin; rw [HZ.out]; refine wpList_append_own _ rfl _ _ 27 rfl W.heap.size 39 ip _ 2 16 Tryz.underlying27 hip hz0 hz1 hz2 rfl (by decide) _ j (ptcs (ptsN x j)) rfl hown ⟨Y.heap.size, 0, none⟩ 1 1 [.int .u64 A, .int .u64 B] rfl rfl hnews (by simp [Value.oneCell']) hj9 (by omega) (by omega) ?_)
        intro v' w5 ho hg _
        rw [← HSum.out] at ho
        have HO5 : Hid (w5.ownsRow W.heap.size 39 2 v' (j + 1) (ptcs (ptsN x (j + 1)))) := ho
        have HB5 : Hid (Below W.heap.size W w5) := (HBr.out.trans (HbZ.out.mono s0)).trans ((Below.refl _ Z).grown hg (by omega) Hro.out)
        clear ho hg hown hnews
        go_wp2
        go_roundw
        case rel => exact ⟨j + 1, by go_num, by omega, HO5, HB5⟩
        case measure => simp [intOf]; omega
      · have HP : Hid (ptN x j = (4607182418800017408, 4607182418800017408)) := by
          show _ = _
          unfold ptN
          rw [← Hm.out, if_neg hq]
        have hsum := ptcs_snoc (ptsN x j) (ptN x j)
        rw [← ptsN_snoc, HP.out] at hsum
        have HSum := hidM hsum
        have i2 : ¬ 2 * (j : Int) + 1 < (m : Int) := by omega
        have HYb := hidM (World.alloc_heap_new wr (.cells #[.int .u64 4607182418800017408, .int .u64 4607182418800017408] 39 (0, 0)))
        have HbY : Hid (Below wr.heap.size wr (wr.alloc (.cells #[.int .u64 4607182418800017408, .int .u64 4607182418800017408] 39))) := (Below.refl _ wr).alloc (Nat.le_refl _) _
        clear hsum
        obtain ⟨A, hA⟩ : ∃ A : Int, A = 4607182418800017408 := ⟨_, rfl⟩
        obtain ⟨B, hB⟩ : ∃ B : Int, B = 4607182418800017408 := ⟨_, rfl⟩
        go_upto_region 8 with (fail)
        obtain ⟨Y, hY⟩ : ∃ Y, Y = wr.alloc (.cells #[.int .u64 4607182418800017408, .int .u64 4607182418800017408] 39) := ⟨_, rfl⟩
        rw [← hY] at HYb HbY ⊢
        clear hY HP x0 x1 x2
        clear hA hB A B
        have hYb : Y.heap[wr.heap.size]? = some (.cells #[.int .u64 4607182418800017408, .int .u64 4607182418800017408] 39 (0, 0)) := HYb.out
        have s1 := HbY.out.size
        have y0 : Y.cell? ⟨wr.heap.size, 0, none⟩ = some (.int .u64 4607182418800017408) := cell_of hYb 0
        have y1 : Y.cell? ⟨wr.heap.size, 1, none⟩ = some (.int .u64 4607182418800017408) := cell_of hYb 1
        obtain ⟨Z, hZ⟩ : ∃ Z, Z = Y.alloc (.cells #[.int .u64 4607182418800017408, .int .u64 4607182418800017408] 39) := ⟨_, rfl⟩
        have hbZ : Below Y.heap.size Y Z := by rw [hZ]; exact (Below.refl _ Y).alloc (Nat.le_refl _) _
        have hZb : Z.heap[Y.heap.size]? = some (.cells #[.int .u64 4607182418800017408, .int .u64 4607182418800017408] 39 (0, 0)) := by rw [hZ]; exact World.alloc_heap_new Y _
        have s2 := hbZ.size
        have s0 := HBr.out.size
        have hown : Z.ownsRow W.heap.size 39 2 u5 j (ptcs (ptsN x j)) := own_keep HO.out (fun g hg => (hbZ.block g (by have := (ownsRow_block HO.out hg).2; omega)).trans (HbY.out.block g (ownsRow_block HO.out hg).2))
        have hnews : ∀ (k : Nat) (u : Value), [Value.int .u64 4607182418800017408, .int .u64 4607182418800017408][k]? = some u → Z.cell? (Addr.add ⟨Y.heap.size, 0, none⟩ k) = some u := fun k u hk => by
          have hadd : Addr.add ⟨Y.heap.size, 0, none⟩ k = ⟨Y.heap.size, k, none⟩ := by unfold Addr.add; split <;> simp_all
          rw [hadd, cell_of hZb k]
          simpa using hk
        have HZ : Hid (Y.alloc (.cells #[.int .u64 4607182418800017408, .int .u64 4607182418800017408] 39) = Z) := hZ.symm
        have HbZ : Hid (Below wr.heap.size wr Z) := HbY.out.trans (hbZ.mono s1)
        have Hro : Hid (∀ g, u5.ownBlock = some g → W.heap.size ≤ g) := fun g hg => (ownsRow_block HO.out hg).1
        have hj9 : j + 1 ≤ maxLen := by unfold maxLen; omega
        clear hZ hbZ hZb hYb
        go_wp2_with (at_builtin; rw [HZ.out]; refine wpList_append_own _ rfl _ _ 27 rfl W.heap.size 39 ip _ 2 16 Tryz.underlying27 hip hz0 hz1 hz2 rfl (by decide) _ j (ptcs (ptsN x j)) rfl hown ⟨Y.heap.size, 0, none⟩ 1 1 [.int .u64 4607182418800017408, .int .u64 4607182418800017408] rfl rfl hnews (by simp [Value.oneCell']) hj9 (by omega) (by omega) ?_)
        intro v' w5 ho hg _
        rw [← HSum.out] at ho
        have HO5 : Hid (w5.ownsRow W.heap.size 39 2 v' (j + 1) (ptcs (ptsN x (j + 1)))) := ho
        have HB5 : Hid (Below W.heap.size W w5) := (HBr.out.trans (HbZ.out.mono s0)).trans ((Below.refl _ Z).grown hg (by omega) Hro.out)
        clear ho hg hown hnews
        go_wp2
        go_roundw
        case rel => exact ⟨j + 1, by go_num, by omega, HO5, HB5⟩
        case measure => simp [intOf]; omega
    · have hd : decide ((j : Int) < (n : Int)) = false := by simp; omega
      have hjn : j = n := by omega
      obtain ⟨av, cv, hv, _⟩ := own_slice HO.out
      subst hv
      go_wp2
      go_ret
      rw [hjn] at HO ⊢
      have hpt := pts_of (by rw [ptsN_len]; exact HO.out) (ptsN_ok HK.out n).1 (by rw [ptsN_len]; omega)
      refine ⟨av, cv, rfl, hpt.mono (fun k hk => ?_), HbW.out.trans (HBr.out.mono HbW.out.size)⟩
      have := ownsRow_block HO.out hk
      have := HzW.out
      exact ⟨by omega, by omega⟩
end Go.Proofs.YtgobnjeankjkjaaGreatDoor

/- The makers of trees: geom. -/
namespace Go.Proofs.YtgobnjeankjkjaaGreatDoor
open Go.ChangeShapes Go.WideShapes Go.ChangeAt Go.RowKit
open Tr Wk Ar Mk
set_option linter.unusedVariables false
namespace Mk
/-- what geom answers -/
def Pgm (w0 w : World) (gm : Nat) (v : Value) (l : List Nde) (r : Tree × Nat) (e : Ending) (w' : World) : Prop :=
  ∃ u, e = .returned u ∧ TV (fun k => w.heap.size ≤ k ∧ k < w'.heap.size) w' u r.1 ∧ MkS w0 w' gm v l r.2 ∧ Tr.Ex gm w w'
theorem geoS_1 {l : List Nde} {lev kind nx m : Nat} {x : Nde} (ht : (x, m) = takeS l nx) (hk : kindN x kind lev = 1) : geoS l lev kind nx = ((⟨1, ptsN x (sizeN x % 2), []⟩, .nil), m) := by
  unfold geoS
  rw [← ht]
  simp only [hk]
  rfl
theorem geoS_2 {l : List Nde} {lev kind nx m : Nat} {x : Nde} (ht : (x, m) = takeS l nx) (hk : kindN x kind lev = 2) : geoS l lev kind nx = ((⟨2, ptsN x (sizeN x), []⟩, .nil), m) := by
  unfold geoS
  rw [← ht]
  simp only [hk]
  rfl
theorem geoS_3 {l : List Nde} {lev kind nx m : Nat} {x : Nde} (ht : (x, m) = takeS l nx) (hk : kindN x kind lev = 3) : geoS l lev kind nx = ((⟨3, [], rgsN x (sizeN x)⟩, .nil), m) := by
  unfold geoS
  rw [← ht]
  simp only [hk]
  rfl
theorem geoS_4 {l : List Nde} {lev kind nx m k : Nat} {x : Nde} (ht : (x, m) = takeS l nx) (hk : kindN x kind (lev + 1) = k) (h4 : 4 ≤ k) : geoS l (lev + 1) kind nx = ((⟨(k : Int), [], []⟩, foOf (manyT (geoS l lev (partN k)) (sizeN x) m).1), (manyT (geoS l lev (partN k)) (sizeN x) m).2) := by
  conv => lhs; unfold geoS
  rw [← ht]
  simp only [hk]
  rw [if_neg (by omega), if_neg (by omega), if_neg (by omega)]
theorem geom_fin {w0 w Y : World} {gm nx' : Nat} {v : Value} {l : List Nde} {T : Tree} {x0 x1 x2 x3 : Value} {t : TypeId} {a0 a1 a2 a3 : Value} (hM : MkS w0 Y gm v l nx') (hw : w0.heap.size ≤ w.heap.size) (hE : Tr.Ex gm w Y) (hg : gm < w.heap.size) (hR : Gc Y w.heap.size t a0 a1 a2 a3) (hT : TV (fun k => w.heap.size < k ∧ k < Y.heap.size) Y (.agg #[x0, x1, x2, x3]) T) :
    Pgm w0 w gm v l (T, nx') (.returned (.agg #[x0, x1, x2, x3])) ((((Y.setCell ⟨w.heap.size, 0, none⟩ x0).setCell ⟨w.heap.size, 1, none⟩ x1).setCell ⟨w.heap.size, 2, none⟩ x2).setCell ⟨w.heap.size, 3, none⟩ x3) := by
  have hk := fun k (h : k ≠ w.heap.size) => set4_keep (g := w.heap.size) Y x0 x1 x2 x3 k h
  obtain ⟨Z, hZ⟩ : ∃ Z, Z = (((Y.setCell ⟨w.heap.size, 0, none⟩ x0).setCell ⟨w.heap.size, 1, none⟩ x1).setCell ⟨w.heap.size, 2, none⟩ x2).setCell ⟨w.heap.size, 3, none⟩ x3 := ⟨_, rfl⟩
  have hsz : Z.heap.size = Y.heap.size := by rw [hZ]; simp [World.setCell]
  have hEZ : Tr.Ex gm w Z := by rw [hZ]; exact (((hE.setNew (p := ⟨w.heap.size, 0, none⟩) (Nat.le_refl _) _).setNew (p := ⟨w.heap.size, 1, none⟩) (Nat.le_refl _) _).setNew (p := ⟨w.heap.size, 2, none⟩) (Nat.le_refl _) _).setNew (p := ⟨w.heap.size, 3, none⟩) (Nat.le_refl _) _
  have hbZ : Below w0.heap.size w0 Z := by rw [hZ]; exact (((hM.bel.setCell (p := ⟨w.heap.size, 0, none⟩) hw _).setCell (p := ⟨w.heap.size, 1, none⟩) hw _).setCell (p := ⟨w.heap.size, 2, none⟩) hw _).setCell (p := ⟨w.heap.size, 3, none⟩) hw _
  rw [← hZ] at hk ⊢
  refine ⟨_, rfl, (hT.below ⟨by omega, fun k h => hk k (by omega)⟩).mono (fun k h => ⟨by omega, by omega⟩), ⟨hbZ, (hk gm (by omega)).trans hM.blk, hM.lo, hM.nds, hM.nx⟩, hEZ⟩
end Mk
namespace Tr
theorem ring_step2 {V wr wA Y : World} {r j : Nat} {K : Int} {lv rv pv : Value} {la : Option Addr} {lc : Nat} {rings : List (List Pt)} {p : List Pt} {t : TypeId} (hV : r < V.heap.size) (hG : Gc wr r t (.int .i64 K) lv rv pv) (hR : Rw5 V wr r 27 rv j rings) (hp : rings[j]? = some p) (hj : j ≤ 1048576)
    (hbA : Below wr.heap.size wr wA) (hA : Pts (fun k => wr.heap.size ≤ k) wA (.slice la p.length lc) p) (hbY : Below wA.heap.size wA Y) (hYs : wA.heap.size ≤ Y.heap.size) (hYc : Y.cell? ⟨wA.heap.size, 0, none⟩ = some (.slice la p.length lc)) :
    ∃ va vc wX, (Builtin.append_ #[28, 28] 28 #[rv, .slice (some ⟨wA.heap.size, 0, none⟩) 1 1]).run Tryz.prog Y = .ok (.slice va (j + 1) vc) wX ∧ wX.cell? ⟨r, 2, none⟩ = some rv ∧ wX.frozen? ⟨r, 2, none⟩ = false ∧ Hid (Gc (wX.setCell ⟨r, 2, none⟩ (.slice va (j + 1) vc)) r t (.int .i64 K) lv (.slice va (j + 1) vc) pv ∧ Rw5 V (wX.setCell ⟨r, 2, none⟩ (.slice va (j + 1) vc)) r 27 (.slice va (j + 1) vc) (j + 1) rings) := by
  obtain ⟨i, hi, hz0, hz1, hz2⟩ := info_partsT info_spt
  obtain ⟨hE, vals, hrow, hall⟩ := hR
  have s1 := hE.size
  have s2 := hbA.size
  have s3 := hbY.size
  have hrY : Y.ownsRow V.heap.size 27 1 rv j vals := ownsRow_keep hrow (fun g h1 h2 => (hbY.block g (by omega)).trans (hbA.block g h2))
  obtain ⟨v', wX, hr, ho, hg, _, hob⟩ := run_append_own_at (P := Tryz.prog) Y V.heap.size 28 28 27 i _ 1 24 Tryz.underlying28 hi hz0 hz1 hz2 rfl (by decide) rv j vals hrY ⟨wA.heap.size, 0, none⟩ 1 1 [.slice la p.length lc] rfl
    (fun k u h => by
      match k, h with
      | 0, h =>
        cases h
        simpa [Addr.add] using hYc) (fun u h => by rw [List.mem_singleton.1 h]; rfl) (by unfold maxLen; omega) (by omega) (by omega)
  have hvals : vals.length = j := by have := hrow.1; omega
  have hk : ∀ k, k < wr.heap.size → rv.ownBlock ≠ some k → wX.heap[k]? = wr.heap[k]? := fun k h1 h2 => (hg.block k (by omega) (fun e => h2 e.symm)).trans ((hbY.block k (by omega)).trans (hbA.block k h1))
  have hro : ∀ g, rv.ownBlock = some g → V.heap.size ≤ g ∧ g < wr.heap.size := fun g h => ownsRow_block hrow h
  have hrn : rv.ownBlock ≠ some r := fun e => by have := (hro r e).1; omega
  have hGX : Gc wX r t (.int .i64 K) lv rv pv := (hk r (by omega) hrn).trans hG
  have hsz := hg.size
  have hE2 : Ex r V wX := by
    refine ⟨?_, ?_, ?_, by omega, fun k h1 h2 => (hk k (by omega) (fun e => by have := (hro k e).1; omega)).trans (hE.block k h1 h2)⟩
    · rw [hg.os, hbY.os, hbA.os, hE.os]
    · rw [hg.tape, hbY.tape, hbA.tape, hE.tape]
    · rw [hg.output, hbY.output, hbA.output, hE.output]
  obtain ⟨va, vc, hv'⟩ := ownsRow_slice ho
  subst hv'
  refine ⟨va, vc, wX, hr, hGX.cells.2.2.1, hGX.frozen.2.2.1, set_blockT hGX, hE2.set 2 _, vals ++ [.slice la p.length lc], ownsRow_keep ho (fun g h1 h2 => Below.heap_setCell _ _ _ _ (by show g ≠ r; omega)), fun k u q h1 h2 => ?_⟩
  have hnew : ∀ m, m < Y.heap.size → rv.ownBlock ≠ some m → (Value.slice va (j + 1) vc).ownBlock ≠ some m := fun m h3 h4 => by
    rcases hob with e | e
    · rw [e]; exact h4
    · rw [e]; intro h; cases h; omega
  by_cases hkj : k < j
  · rw [List.getElem?_append_left (by omega)] at h1
    refine ((hall k u q h1 h2).lt.below (W' := wX.setCell ⟨r, 2, none⟩ (.slice va (j + 1) vc)) ⟨by simp [World.setCell]; omega, fun m hm => ?_⟩).mono (fun m hm => ⟨hm.1.1, hnew m (by have := hm.2; omega) hm.1.2⟩)
    exact (Below.heap_setCell _ _ _ _ (by have := hm.1.1; show m ≠ r; omega)).trans (hk m hm.2 hm.1.2)
  · have hkl : k = j := by
      have := (List.getElem?_eq_some_iff.1 h1).1
      simp at this
      omega
    subst hkl
    rw [List.getElem?_append_right (by omega), hvals, Nat.sub_self] at h1
    cases h1
    rw [hp] at h2
    cases h2
    have hnr : ∀ m, wr.heap.size ≤ m → rv.ownBlock ≠ some m := fun m h e => by have := (hro m e).2; omega
    refine (hA.lt.below (W' := wX.setCell ⟨r, 2, none⟩ (.slice va (k + 1) vc)) ⟨by simp [World.setCell]; omega, fun m hm => ?_⟩).mono (fun m hm => ⟨by have : wr.heap.size ≤ m := hm.1; omega, hnew m (by have := hm.2; omega) (hnr m hm.1)⟩)
    have hm1 : wr.heap.size ≤ m := hm.1
    have hm2 := hm.2
    exact (Below.heap_setCell _ _ _ _ (by show m ≠ r; omega)).trans ((hg.block m (by omega) (fun e => hnr m hm1 e.symm)).trans (hbY.block m hm2))
/-- the parts that are laid: the row of them and what they hold -/
def Rw6 (V wr : World) (te : TypeId) (rv : Value) (j : Nat) (ts : List Tree) : Prop :=
  ∃ xs, wr.ownsRow V.heap.size te 4 rv j xs ∧ Grow (fun i => V.heap.size ≤ i ∧ i < wr.heap.size ∧ rv.ownBlock ≠ some i) wr xs ts
/-- all but block r and the row's own is kept -/
structure Kr6 (r : Nat) (rv : Value) (w w' : World) : Prop where
  os : w'.os = w.os
  tape : w'.tape = w.tape
  output : w'.output = w.output
  size : w.heap.size ≤ w'.heap.size
  block : ∀ k, k < w.heap.size → k ≠ r → rv.ownBlock ≠ some k → w'.heap[k]? = w.heap[k]?
theorem part_step {V wr wA Y : World} {gm r j : Nat} {K K0 : Int} {lv qv rv : Value} {a1 a2 a3 : Option Addr} {l1 l2 l3 c1 c2 c3 : Nat} {ts : List Tree} {T : Tree} {t : TypeId} (hV : r < V.heap.size) (hVr : V.heap.size ≤ wr.heap.size) (hgm : gm < V.heap.size) (hgr : gm ≠ r) (hG : Gc wr r t (.int .i64 K) lv qv rv) (hR : Rw6 V wr 31 rv j ts) (hj : j ≤ 1048576)
    (hbA : Tr.Ex gm wr wA) (hA : TV (fun i => wr.heap.size ≤ i ∧ i < wA.heap.size) wA (.agg #[.int .i64 K0, .slice a1 l1 c1, .slice a2 l2 c2, .slice a3 l3 c3]) T) (hbY : Below wA.heap.size wA Y) (hYc : Y.heap[wA.heap.size]? = some (.cells #[.int .i64 K0, .slice a1 l1 c1, .slice a2 l2 c2, .slice a3 l3 c3] 31 (0, 0))) :
    ∃ va vc wX, (Builtin.append_ #[29, 29] 29 #[rv, .slice (some ⟨wA.heap.size, 0, none⟩) 1 1]).run Tryz.prog Y = .ok (.slice va (j + 1) vc) wX ∧ wX.cell? ⟨r, 3, none⟩ = some rv ∧ wX.frozen? ⟨r, 3, none⟩ = false ∧ Hid (Gc (wX.setCell ⟨r, 3, none⟩ (.slice va (j + 1) vc)) r t (.int .i64 K) lv qv (.slice va (j + 1) vc) ∧ Rw6 V (wX.setCell ⟨r, 3, none⟩ (.slice va (j + 1) vc)) 31 (.slice va (j + 1) vc) (j + 1) (ts ++ [T]) ∧ Kr6 r rv wA (wX.setCell ⟨r, 3, none⟩ (.slice va (j + 1) vc))) := by
  obtain ⟨i, hi, hz0, hz1, hz2⟩ := info_partsT info_gm
  obtain ⟨xs, hrow, hgrow⟩ := hR
  have s2 := hbA.size
  have s3 := hbY.size
  have hro : ∀ g, rv.ownBlock = some g → V.heap.size ≤ g ∧ g < wr.heap.size := fun g h => ownsRow_block hrow h
  have hrY : Y.ownsRow V.heap.size 31 4 rv j xs := own_keep hrow (fun g hg => (hbY.block g (by have := (hro g hg).2; omega)).trans (hbA.block g (hro g hg).2 (by have := (hro g hg).1; omega)))
  obtain ⟨v', wX, hr, ho, hg, _, hob⟩ := run_append_own_at (P := Tryz.prog) Y V.heap.size 29 29 31 i _ 4 80 Tryz.underlying29 hi hz0 hz1 hz2 rfl (by decide) rv j xs hrY ⟨wA.heap.size, 0, none⟩ 1 1 [.int .i64 K0, .slice a1 l1 c1, .slice a2 l2 c2, .slice a3 l3 c3] rfl
    (fun k u h => by
      have hadd : Addr.add ⟨wA.heap.size, 0, none⟩ k = ⟨wA.heap.size, k, none⟩ := by unfold Addr.add; split <;> simp_all
      rw [hadd, cell_of hYc k]
      simpa using h) (by simp [Value.oneCell']) (by unfold maxLen; omega) (by omega) (by omega)
  have hrn : rv.ownBlock ≠ some r := fun e => by have := (hro r e).1; omega
  have hkA : ∀ k, k < wA.heap.size → rv.ownBlock ≠ some k → wX.heap[k]? = wA.heap[k]? := fun k h1 h2 => (hg.block k (by omega) (fun e => h2 e.symm)).trans (hbY.block k h1)
  have hGX : Gc wX r t (.int .i64 K) lv qv rv := (hkA r (by omega) hrn).trans ((hbA.block r (by omega) (fun e => hgr e.symm)).trans hG)
  have hsz := hg.size
  obtain ⟨va, vc, hv'⟩ := ownsRow_slice ho
  subst hv'
  obtain ⟨Z, hZ⟩ : ∃ Z, Z = wX.setCell ⟨r, 3, none⟩ (.slice va (j + 1) vc) := ⟨_, rfl⟩
  have hZk : ∀ k, k ≠ r → Z.heap[k]? = wX.heap[k]? := fun k hk => by rw [hZ]; exact Below.heap_setCell _ _ _ _ hk
  have hZz : Z.heap.size = wX.heap.size := by rw [hZ]; simp [World.setCell]
  have hZG : Gc Z r t (.int .i64 K) lv qv (.slice va (j + 1) vc) := by rw [hZ]; exact set_blockT hGX
  have hZK : Kr6 r rv wA Z := by
    refine ⟨?_, ?_, ?_, by omega, fun k h1 h2 h3 => (hZk k h2).trans (hkA k h1 h3)⟩
    · rw [hZ]; exact hg.os.trans hbY.os
    · rw [hZ]; exact hg.tape.trans hbY.tape
    · rw [hZ]; exact hg.output.trans hbY.output
  refine ⟨va, vc, wX, hr, hGX.cells.2.2.2, hGX.frozen.2.2.2, ?_⟩
  rw [← hZ]
  have hnew : ∀ m, m < Y.heap.size → rv.ownBlock ≠ some m → (Value.slice va (j + 1) vc).ownBlock ≠ some m := fun m h3 h4 => by
    rcases hob with e | e
    · rw [e]; exact h4
    · rw [e]; intro h; cases h; omega
  refine ⟨hZG, ⟨xs ++ [.int .i64 K0, .slice a1 l1 c1, .slice a2 l2 c2, .slice a3 l3 c3], own_keep ho (fun g hg2 => hZk g (by have := (ownsRow_block ho hg2).1; omega)), Grow.snoc (hgrow.map (fun v t ht => (ht.below (w' := Z) ⟨by omega, fun k hk => ?_⟩).mono (fun k hk => ⟨hk.1, by have := hk.2.1; omega, hnew k (by have := hk.2.1; omega) hk.2.2⟩))) ((hA.below (w' := Z) ⟨by omega, fun k hk => ?_⟩).mono (fun k hk => ⟨by have := hk.1; omega, by have := hk.2; omega, hnew k (by have := hk.2; omega) (fun e => by have := (hro k e).2; have := hk.1; omega)⟩))⟩, hZK⟩
  · have h1 := hk.1
    have h2 := hk.2.1
    exact (hZK.block k (by omega) (by omega) hk.2.2).trans (hbA.block k h2 (by omega))
  · have h1 := hk.1
    have h2 := hk.2
    exact hZK.block k h2 (by omega) (fun e => by have := (hro k e).2; omega)
end Tr
set_option maxHeartbeats 6400000 in
set_option maxRecDepth 100000 in
theorem geom17_step {w0 w : World} {gm : Nat} {v : Value} {l : List Nde} {nx : Nat} (h : MkS w0 w gm v l nx) {kind lev : Nat} (hk : kind ≤ 3) (hlev : lev ≤ 6)
    (ih : Hid (∀ lev', lev = lev' + 1 → ∀ {w : World} {nx kind : Nat}, MkS w0 w gm v l nx → kind ≤ 3 → Calls Tryz.prog 34 #[.pointer (some ⟨gm, 0, none⟩), .int .i64 (kind : Int), .int .i64 ((lev : Int) - 1)] w (Pgm w0 w gm v l (geoS l lev' kind nx)))) :
    Calls Tryz.prog 34 #[.pointer (some ⟨gm, 0, none⟩), .int .i64 (kind : Int), .int .i64 (lev : Int)] w (Pgm w0 w gm v l (geoS l lev kind nx)) := by
  obtain ⟨X, hX⟩ : ∃ X, X = w.alloc (.cells #[.int .i64 0, .slice none 0 0, .slice none 0 0, .slice none 0 0] 31) := ⟨_, rfl⟩
  have hbX : Below w.heap.size w X := by rw [hX]; exact (Below.refl _ w).alloc (Nat.le_refl _) _
  have hT := take17_any (h.later hbX)
  have HX : Hid (w.alloc (.cells #[.int .i64 0, .slice none 0 0, .slice none 0 0, .slice none 0 0] 31) = X) := hX.symm
  have HzX : Hid (X.heap.size = w.heap.size + 1) := by show _ = _; rw [hX]; simp
  have HgX : Hid (Gc X w.heap.size 31 (.int .i64 0) (.slice none 0 0) (.slice none 0 0) (.slice none 0 0)) := by rw [hX]; exact gc_new w _ _ _ _ _
  have HbX := hidM hbX
  have Hh := hidM h
  have hgm := h.lt
  obtain ⟨nt, hnt⟩ : ∃ nt, nt = takeS l nx := ⟨_, rfl⟩
  have Hnt := hidM hnt
  rw [← hnt] at hT
  clear hX hbX h hnt
  go_enter Tryz.func34, Tryz.ntmps34
  go_wp2_with fail
  rw [HX.out]
  refine hT.mono ?_
  rintro e w1 ⟨u, rfl, hx, hM1, hE1⟩
  clear hT
  obtain ⟨x, m⟩ := nt
  simp only at hx hM1 ⊢
  obtain ⟨xa, xc, hu⟩ : ∃ xa xc, u = .slice xa x.xy.length xc := ⟨_, _, hx.2.choose_spec.choose_spec.1⟩
  subst hu
  obtain ⟨xn, hxn⟩ : ∃ xn, xn = x.xy.length := ⟨_, rfl⟩
  have Hxn := hidM hxn
  have HX9 := hidM hx
  rw [← hxn] at HX9 ⊢
  clear hxn hx
  go_upto_region 2 with (fail)
  have t1 := tc_new w1 (.int .i64 x.kind) (.int .i64 x.size) (.slice xa xn xc) 128
  have hbW := (Below.refl w1.heap.size w1).alloc (Nat.le_refl _) (.cells #[.int .i64 x.kind, .int .i64 x.size, .slice xa xn xc] 128)
  obtain ⟨W, hW⟩ : ∃ W, W = w1.alloc (.cells #[.int .i64 x.kind, .int .i64 x.size, .slice xa xn xc] 128) := ⟨_, rfl⟩
  have HzW : Hid (W.heap.size = w1.heap.size + 1) := by show _ = _; rw [hW]; simp
  rw [← hW] at t1 hbW ⊢
  have HMW : Hid (MkS w0 W gm v l m) := hM1.later hbW
  have HEW : Hid (Tr.Ex gm X W) := hE1.below hbW
  have Hz1 : Hid (X.heap.size ≤ w1.heap.size) := hE1.size
  obtain ⟨x0, x1, x2⟩ := t1.cells
  have HT := hidM t1
  clear hW hbW hM1 hE1 t1
  have hI7 := fun w => into17_any (n := x.kind) (top := 7) (by omega) (by omega) w
  obtain ⟨k0, hk0⟩ : ∃ k0, k0 = (if kind = 0 then 1 + (x.kind % 7).toNat else kind) := ⟨_, rfl⟩
  obtain ⟨k, hkk⟩ : ∃ k, k = kindN x kind lev := ⟨_, rfl⟩
  have hk1 : k = (if lev < 2 ∧ 3 < k0 then 1 else k0) := by rw [hkk, hk0]; rfl
  have HKK := hidM hkk
  have HK0 := hidM hk0
  have HK1 := hidM hk1
  have hk09 : k0 ≤ 7 := by rw [hk0]; split <;> omega
  clear hkk hk0 hk1
  have hkd : decide ((kind : Int) = 0) = decide (kind = 0) := by congr 1; apply propext; omega
  go_upto_if 16 with (fail)
  go_cut [1] from 17 to 20 (fun pv wx => pv = .int .i64 (k0 : Int) ∧ wx = W)
  case first =>
    have q0 := Int.emod_nonneg x.kind (b := 7) (by omega)
    have q1 := Int.emod_lt_of_pos x.kind (b := 7) (by omega)
    by_cases h0 : kind = 0
    · have e0 : (k0 : Int) = 1 + x.kind % 7 := by have := HK0.out; rw [if_pos h0] at this; omega
      subst h0
      have He0 := hidM e0
      clear e0
      obtain ⟨q, hq⟩ : ∃ q, q = x.kind % 7 := ⟨_, rfl⟩
      rw [← hq] at hI7 q0 q1 He0
      clear hq HKK
      go_wp2_with (go_at_call 14; refine (hI7 _).mono ?_; rintro e wX ⟨rfl, rfl⟩)
      go_meet
      exact ⟨by rw [He0.out], rfl⟩
    · have e0 : k0 = kind := by have := HK0.out; rw [if_neg h0] at this; exact this
      have d0 : ((kind : Int) == 0) = false := by simp; omega
      have He0 := hidM e0
      clear e0 HKK
      go_wp2
      go_meet
      exact ⟨by rw [He0.out], rfl⟩
  obtain ⟨rfl, rfl⟩ := hcut
  clear hkd
  obtain ⟨D, hD⟩ : ∃ D, D = decide (lev < 2 ∧ 3 < k0) := ⟨_, rfl⟩
  have HD := hidM hD
  clear hD
  go_upto_region 4 with (fail)
  go_cut [26] from 21 to 26 (fun pv wx => pv = .bool D ∧ wx = wc)
  case first =>
    clear HKK HK1
    by_cases hc : lev < 2
    · have d1 : decide ((lev : Int) < 2) = true := by simp; omega
      by_cases hc2 : 3 < k0
      · have d2 : decide ((3 : Int) < (k0 : Int)) = true := by simp; omega
        have HV : Hid (D = true) := by have := HD.out; rw [decide_eq_true (p := lev < 2 ∧ 3 < k0) ⟨hc, hc2⟩] at this; exact this
        go_wp2
        go_meet
        exact ⟨by rw [HV.out], rfl⟩
      · have d2 : decide ((3 : Int) < (k0 : Int)) = false := by simp; omega
        have HV : Hid (D = false) := by have := HD.out; rw [decide_eq_false (p := lev < 2 ∧ 3 < k0) (fun h => hc2 h.2)] at this; exact this
        go_wp2
        go_meet
        exact ⟨by rw [HV.out], rfl⟩
    · have d1 : decide ((lev : Int) < 2) = false := by simp; omega
      have HV : Hid (D = false) := by have := HD.out; rw [decide_eq_false (p := lev < 2 ∧ 3 < k0) (fun h => hc h.1)] at this; exact this
      go_wp2
      go_meet
      exact ⟨by rw [HV.out], rfl⟩
  obtain ⟨rfl, rfl⟩ := hcut
  go_upto_if 26 with (fail)
  go_cut [1] from 27 to 27 (fun pv wx => pv = .int .i64 (k : Int) ∧ wx = wc)
  case first =>
    clear HKK
    cases D with
    | true =>
      have HV : Hid (k = 1) := by
        have := HK1.out
        have hp : lev < 2 ∧ 3 < k0 := of_decide_eq_true HD.out.symm
        rw [if_pos hp] at this
        exact this
      go_wp2
      go_meet
      exact ⟨by rw [HV.out]; rfl, rfl⟩
    | false =>
      have HV : Hid (k = k0) := by
        have := HK1.out
        have hp : ¬ (lev < 2 ∧ 3 < k0) := of_decide_eq_false HD.out.symm
        rw [if_neg hp] at this
        exact this
      go_wp2
      go_meet
      exact ⟨by rw [HV.out], rfl⟩
  obtain ⟨rfl, rfl⟩ := hcut
  have hI5 := fun w => into17_any (n := x.size) (top := 5) (by omega) (by omega) w
  have hz4 := sizeN_le x
  have hzz : x.size % 5 = ((sizeN x : Nat) : Int) := by unfold sizeN; omega
  rw [hzz] at hI5
  obtain ⟨n, hn⟩ : ∃ n, n = sizeN x := ⟨_, rfl⟩
  rw [← hn] at hI5 hz4
  have Hn := hidM hn
  clear hI7 hn hzz HK0 HK1 hk09
  go_upto_region 8 with (go_at_call 14; refine (hI5 _).mono ?_; rintro e wX ⟨rfl, rfl⟩)
  have hgV := gc_new wX (.int .i64 (k : Int)) (.slice none 0 0) (.slice none 0 0) (.slice none 0 0) 31
  have hbV := (Below.refl wX.heap.size wX).alloc (Nat.le_refl _) (.cells #[.int .i64 (k : Int), .slice none 0 0, .slice none 0 0, .slice none 0 0] 31)
  obtain ⟨V, hV⟩ : ∃ V, V = wX.alloc (.cells #[.int .i64 (k : Int), .slice none 0 0, .slice none 0 0, .slice none 0 0] 31) := ⟨_, rfl⟩
  have HzV : Hid (V.heap.size = wX.heap.size + 1) := by show _ = _; rw [hV]; simp
  rw [← hV] at hgV hbV ⊢
  have HMV : Hid (MkS w0 V gm v l m) := HMW.out.later hbV
  have HEV : Hid (Tr.Ex gm w V) := ((Tr.Ex.refl gm w).below HbX.out).trans ((HEW.out.below hbV))
  have HRV : Hid (Gc V w.heap.size 31 (.int .i64 0) (.slice none 0 0) (.slice none 0 0) (.slice none 0 0)) := by
    have h1 := HEW.out.block w.heap.size (by have := HzX.out; omega) (by omega)
    exact (hbV.block w.heap.size (by have := HzW.out; have := Hz1.out; have := HzX.out; omega)).trans (h1.trans HgX.out)
  have HTV : Hid (Tc V w1.heap.size 128 (.int .i64 x.kind) (.int .i64 x.size) (.slice xa xn xc)) := (hbV.block w1.heap.size (by have := HzW.out; omega)).trans HT.out
  have HSz : Hid (w0.heap.size ≤ w.heap.size ∧ w.heap.size < w1.heap.size ∧ wX.heap.size = w1.heap.size + 1 ∧ V.heap.size = w1.heap.size + 2) := ⟨Hh.out.bel.size, by have := HzX.out; have := Hz1.out; omega, HzW.out, by have := HzW.out; have := HzV.out; omega⟩
  have HGV := hidM hgV
  have HNk : Hid (NdeOk x) := by have := takeS_ok Hh.out.nds.oks nx; rw [← Hnt.out] at this; exact this
  obtain ⟨r, hr⟩ : ∃ r, r = wX.heap.size := ⟨_, rfl⟩
  obtain ⟨R, hR⟩ : ∃ R, R = w.heap.size := ⟨_, rfl⟩
  obtain ⟨B, hB⟩ : ∃ B, B = w1.heap.size := ⟨_, rfl⟩
  rw [← hr, ← hR, ← hB]
  rw [← hr] at HGV
  rw [← hB] at HTV
  rw [← hR] at HRV
  have Hr := hidM hr
  have HR := hidM hR
  have HBB := hidM hB
  have HSr : Hid (R < B ∧ r = B + 1 ∧ V.heap.size = B + 2 ∧ gm < R) := by have := HSz.out; exact ⟨by omega, by omega, by omega, by omega⟩
  clear hV hgV hbV HMW HEW HT HzW HzV HgX HX HbX HzX x0 x1 x2 hr hR hB hgm Hz1
  have c1 := kindN_pos (x := x) (kind := kind) (lev := lev) hk
  rw [← HKK.out] at c1
  obtain ⟨c1, c2, c3, c4⟩ := c1
  by_cases e1 : k = 1
  · have HG := hidM (geoS_1 Hnt.out (HKK.out.symm.trans e1))
    have He := hidM e1
    have d1 : ((k : Int) == 1) = true := by rw [e1]; rfl
    clear e1 hI5 c3 c4
    have hm2 : (n : Int).tmod 2 = ((n % 2 : Nat) : Int) := by rw [Int.tmod_eq_emod_of_nonneg (by omega)]; omega
    have hPt := points17_any HMV.out.bel (by have := HX9.out; exact this) HNk.out (n := n % 2) (by omega)
    rw [← hm2] at hPt
    obtain ⟨q0, q1, q2⟩ := HTV.out.cells
    go_upto_region 25 with (go_at_call 59; refine hPt.mono ?_; rintro e w2 ⟨pa, pc, rfl, hP, hb2⟩; obtain ⟨g0, g1, g2, g3⟩ := Gc.cells (Gc.later HGV.out hb2); obtain ⟨f0, f1, f2, f3⟩ := Gc.frozen (Gc.later HGV.out hb2))
    obtain ⟨Y, hY⟩ : ∃ Y, Y = w2.setCell ⟨r, 1, none⟩ (.slice pa (n % 2) pc) := ⟨_, rfl⟩
    have s2 := hb2.size
    have sr := HSr.out
    have hgY : Gc Y r 31 (.int .i64 (k : Int)) (.slice pa (n % 2) pc) (.slice none 0 0) (.slice none 0 0) := by rw [hY]; exact set_blockT (HGV.out.later hb2)
    have hYk : ∀ i, i ≠ r → Y.heap[i]? = w2.heap[i]? := fun i hi => by rw [hY]; exact Below.heap_setCell _ _ _ _ hi
    have hYz : Y.heap.size = w2.heap.size := by rw [hY]; simp [World.setCell]
    have hRY : Gc Y R 31 (.int .i64 0) (.slice none 0 0) (.slice none 0 0) (.slice none 0 0) := (hYk R (by omega)).trans (HRV.out.later hb2)
    have hMY : MkS w0 Y gm v l m := HMV.out.keep (by rw [hY]; exact (hb2.mono HMV.out.bel.size).setCell (p := ⟨r, 1, none⟩) (by have := HMV.out.lo; show _ ≤ r; omega) _) ((hYk gm (by omega)).trans (hb2.block gm (by omega)))
    have hEY : Tr.Ex gm w Y := by rw [hY]; exact (HEV.out.below hb2).setNew (p := ⟨r, 1, none⟩) (by have := HR.out; show _ ≤ r; omega) _
    have hTY : TV (fun i => R < i ∧ i < Y.heap.size) Y (.agg #[.int .i64 (k : Int), .slice pa (n % 2) pc, .slice none 0 0, .slice none 0 0]) ((⟨(k : Int), ptsN x (n % 2), []⟩, .nil) : Tree) := by
      refine tv_of (t := (⟨(k : Int), ptsN x (n % 2), []⟩, .nil)) (pa := none) (pc := 0) ⟨by simp only; omega, by simp only; omega⟩ ((hP.below ⟨by omega, fun i hi => hYk i (by omega)⟩).mono (fun i hi => ⟨by omega, by omega⟩)) ⟨by simp, none, 0, rfl, fun i p h => by cases h⟩ ⟨by simp [Fo.len], by simp [Fo.len]⟩ trivial
    rw [← hY]
    have HgY := hidM hgY
    have HRY := hidM hRY
    have HMY := hidM hMY
    have HEY := hidM hEY
    have HTY := hidM hTY
    obtain ⟨t0, t1, t2, t3⟩ := hRY.cells
    obtain ⟨t4, t5, t6, t7⟩ := hRY.frozen
    obtain ⟨g0', g1', g2', g3'⟩ := hgY.cells
    have HSr' := hidM sr
    clear hY hgY hYk hYz hRY hMY hEY hTY hP hb2 hPt q0 q1 q2 g0 g1 g2 g3 f0 f1 f2 f3 s2 sr
    go_wp2
    have hZ := HRY.out.set (.int .i64 (k : Int)) (.slice pa (n % 2) pc) (.slice none 0 0) (.slice none 0 0)
    obtain ⟨r0, r1, r2, r3⟩ := hZ.cells
    refine bodyPost_ret (v := .agg #[.int .i64 (k : Int), .slice pa (n % 2) pc, .slice none 0 0, .slice none 0 0]) (by simp [results, Tryz.results34, go_sem, r0, r1, r2, r3]) rfl ?_
    rw [HG.out]
    have hfin := geom_fin HMY.out HSz.out.1 HEY.out (by have := HR.out; have := HSr'.out; omega) (by rw [← HR.out]; exact HRY.out) (by rw [← HR.out]; exact HTY.out)
    rw [← HR.out] at hfin
    have e9 : (k : Int) = 1 := by rw [He.out]; rfl
    rw [e9] at hfin ⊢
    rw [← Hn.out]
    exact hfin
  by_cases e2 : k = 2
  · have HG := hidM (geoS_2 Hnt.out (HKK.out.symm.trans e2))
    have He := hidM e2
    have d1 : ((k : Int) == 1) = false := by rw [e2]; rfl
    have d2 : ((k : Int) == 2) = true := by rw [e2]; rfl
    clear e1 e2 hI5 c3 c4
    have hPt := points17_any HMV.out.bel (by have := HX9.out; exact this) HNk.out (n := n) (by omega)
    rw [show ((n : Nat) : Int) = (n : Int) from rfl] at hPt
    obtain ⟨q0, q1, q2⟩ := HTV.out.cells
    go_upto_region 25 with (go_at_call 59; refine hPt.mono ?_; rintro e w2 ⟨pa, pc, rfl, hP, hb2⟩; obtain ⟨g0, g1, g2, g3⟩ := Gc.cells (Gc.later HGV.out hb2); obtain ⟨f0, f1, f2, f3⟩ := Gc.frozen (Gc.later HGV.out hb2))
    obtain ⟨Y, hY⟩ : ∃ Y, Y = w2.setCell ⟨r, 1, none⟩ (.slice pa (n) pc) := ⟨_, rfl⟩
    have s2 := hb2.size
    have sr := HSr.out
    have hgY : Gc Y r 31 (.int .i64 (k : Int)) (.slice pa (n) pc) (.slice none 0 0) (.slice none 0 0) := by rw [hY]; exact set_blockT (HGV.out.later hb2)
    have hYk : ∀ i, i ≠ r → Y.heap[i]? = w2.heap[i]? := fun i hi => by rw [hY]; exact Below.heap_setCell _ _ _ _ hi
    have hYz : Y.heap.size = w2.heap.size := by rw [hY]; simp [World.setCell]
    have hRY : Gc Y R 31 (.int .i64 0) (.slice none 0 0) (.slice none 0 0) (.slice none 0 0) := (hYk R (by omega)).trans (HRV.out.later hb2)
    have hMY : MkS w0 Y gm v l m := HMV.out.keep (by rw [hY]; exact (hb2.mono HMV.out.bel.size).setCell (p := ⟨r, 1, none⟩) (by have := HMV.out.lo; show _ ≤ r; omega) _) ((hYk gm (by omega)).trans (hb2.block gm (by omega)))
    have hEY : Tr.Ex gm w Y := by rw [hY]; exact (HEV.out.below hb2).setNew (p := ⟨r, 1, none⟩) (by have := HR.out; show _ ≤ r; omega) _
    have hTY : TV (fun i => R < i ∧ i < Y.heap.size) Y (.agg #[.int .i64 (k : Int), .slice pa (n) pc, .slice none 0 0, .slice none 0 0]) ((⟨(k : Int), ptsN x (n), []⟩, .nil) : Tree) := by
      refine tv_of (t := (⟨(k : Int), ptsN x (n), []⟩, .nil)) (pa := none) (pc := 0) ⟨by simp only; omega, by simp only; omega⟩ ((hP.below ⟨by omega, fun i hi => hYk i (by omega)⟩).mono (fun i hi => ⟨by omega, by omega⟩)) ⟨by simp, none, 0, rfl, fun i p h => by cases h⟩ ⟨by simp [Fo.len], by simp [Fo.len]⟩ trivial
    rw [← hY]
    have HgY := hidM hgY
    have HRY := hidM hRY
    have HMY := hidM hMY
    have HEY := hidM hEY
    have HTY := hidM hTY
    obtain ⟨t0, t1, t2, t3⟩ := hRY.cells
    obtain ⟨t4, t5, t6, t7⟩ := hRY.frozen
    obtain ⟨g0', g1', g2', g3'⟩ := hgY.cells
    have HSr' := hidM sr
    clear hY hgY hYk hYz hRY hMY hEY hTY hP hb2 hPt q0 q1 q2 g0 g1 g2 g3 f0 f1 f2 f3 s2 sr
    go_wp2
    have hZ := HRY.out.set (.int .i64 (k : Int)) (.slice pa (n) pc) (.slice none 0 0) (.slice none 0 0)
    obtain ⟨r0, r1, r2, r3⟩ := hZ.cells
    refine bodyPost_ret (v := .agg #[.int .i64 (k : Int), .slice pa (n) pc, .slice none 0 0, .slice none 0 0]) (by simp [results, Tryz.results34, go_sem, r0, r1, r2, r3]) rfl ?_
    rw [HG.out]
    have hfin := geom_fin HMY.out HSz.out.1 HEY.out (by have := HR.out; have := HSr'.out; omega) (by rw [← HR.out]; exact HRY.out) (by rw [← HR.out]; exact HTY.out)
    rw [← HR.out] at hfin
    have e9 : (k : Int) = 2 := by rw [He.out]; rfl
    rw [e9] at hfin ⊢
    rw [← Hn.out]
    exact hfin
  by_cases e3 : k = 3
  · have HG := hidM (geoS_3 Hnt.out (HKK.out.symm.trans e3))
    have He := hidM e3
    have d1 : ((k : Int) == 1) = false := by rw [e3]; rfl
    have d2 : ((k : Int) == 2) = false := by rw [e3]; rfl
    have d3 : ((k : Int) == 3) = true := by rw [e3]; rfl
    clear e1 e2 e3 hI5 c3 c4
    go_wp2
    go_loopw [10] (fun i wr => ∃ (j : Nat) (rv : Value), i = .int .i64 j ∧ j ≤ n ∧ Hid (Gc wr r 31 (.int .i64 (k : Int)) (.slice none 0 0) rv (.slice none 0 0) ∧ Rw5 V wr r 27 rv j (rgsN x n))) (fun i _ => n - (intOf i).toNat)
    case atStart => exact ⟨0, .slice none 0 0, rfl, Nat.zero_le _, HGV.out, Tr.Ex.refl r V, [], World.ownsRow_nil _ _ _ _, fun i u p h => by cases h⟩
    case round =>
      obtain ⟨j, rv, rfl, hj, HJ⟩ := hrel
      by_cases hlt : j < n
      · have hd : decide ((j : Int) < (n : Int)) = true := by simp; omega
        obtain ⟨p, hp0⟩ : ∃ p, p = ptsN x (1 + j) := ⟨_, rfl⟩
        have hpl : p.length = 1 + j := by rw [hp0, ptsN_len]
        have HPj : Hid ((rgsN x n)[j]? = some p) := by
          show _ = _
          rw [hp0]
          unfold rgsN
          rw [List.getElem?_map, List.getElem?_range hlt]
          rfl
        obtain ⟨hG, hR5⟩ := HJ.out
        have sr := HSr.out
        have hTr : Tc wr B 128 (.int .i64 x.kind) (.int .i64 x.size) (.slice xa xn xc) := (hR5.ex.block B (by omega) (by omega)).trans HTV.out
        obtain ⟨q0, q1, q2⟩ := hTr.cells
        have x2r : wr.cell? ⟨r, 2, none⟩ = some rv := hG.cells.2.2.1
        have HRR : Hid (r < wr.heap.size ∧ V.heap.size ≤ wr.heap.size) := ⟨hG.lt, hR5.ex.size⟩
        have HGr := hidM hG
        have HBr : Hid (Below w0.heap.size w0 wr) := HMV.out.bel.trans (hR5.ex.toBelow HMV.out.bel.size (by have := HMV.out.lo; omega))
        have hO : ∀ w1, Below wr.heap.size wr w1 → Calls Tryz.prog 59 #[.agg #[.int .i64 x.kind, .int .i64 x.size, .slice xa xn xc], .int .i64 (1 + (j : Int))] w1 fun e w' => (∃ lb ld, e = .returned (.slice lb p.length ld) ∧ Pts (fun k => wr.heap.size ≤ k) w' (.slice lb p.length ld) p) ∧ Below w1.heap.size w1 w' ∧ Below wr.heap.size wr w' ∧ w'.cell? ⟨r, 2, none⟩ = some rv := fun w1 h => by
          obtain ⟨r1, r2⟩ := HRR.out
          rw [show (1 : Int) + j = ((1 + j : Nat) : Int) by omega]
          refine (points17_any (HBr.out.trans (h.mono HBr.out.size)) (by have := HX9.out; exact this) HNk.out (n := 1 + j) (by omega)).mono ?_
          rintro e w' ⟨lb, ld, rfl, hP, h2⟩
          have h3 := h.trans (h2.mono h.size)
          rw [hpl, hp0]
          exact ⟨⟨lb, ld, rfl, hP.mono (fun i hi => Nat.le_trans h.size hi.1)⟩, h2, h3, (h3.cell (p := ⟨r, 2, none⟩) r1).trans (HGr.out.cells.2.2.1)⟩
        have hApp1 : ∀ (wA : World) (lb : Option Addr) (ld : Nat), Below wr.heap.size wr wA → Pts (fun k => wr.heap.size ≤ k) wA (.slice lb p.length ld) p → ∃ va vc wX, (Builtin.append_ #[28, 28] 28 #[rv, .slice (some ⟨wA.heap.size, 0, none⟩) 1 1]).run Tryz.prog (wA.alloc (.cells #[.slice lb p.length ld] 27)) = .ok (.slice va (j + 1) vc) wX ∧ wX.cell? ⟨r, 2, none⟩ = some rv ∧ wX.frozen? ⟨r, 2, none⟩ = false ∧ Hid (Gc (wX.setCell ⟨r, 2, none⟩ (.slice va (j + 1) vc)) r 31 (.int .i64 (k : Int)) (.slice none 0 0) (.slice va (j + 1) vc) (.slice none 0 0) ∧ Rw5 V (wX.setCell ⟨r, 2, none⟩ (.slice va (j + 1) vc)) r 27 (.slice va (j + 1) vc) (j + 1) (rgsN x n)) := fun wA lb ld h1 h2 =>
          ring_step2 (Y := (wA.alloc (.cells #[.slice lb p.length ld] 27))) (by have := HSr.out; omega) HGr.out HJ.out.2 HPj.out (by omega) h1 h2 ((Below.refl _ wA).alloc (Nat.le_refl _) _) (by simp) (cell_of (World.alloc_heap_new wA (.cells #[.slice lb p.length ld] 27)) 0)
        have hApp2 : ∀ (wA : World) (lb : Option Addr) (ld : Nat), Below wr.heap.size wr wA → Pts (fun k => wr.heap.size ≤ k) wA (.slice lb p.length ld) p → ∃ va vc wX, (Builtin.append_ #[28, 28] 28 #[rv, .slice (some ⟨wA.heap.size, 0, none⟩) 1 1]).run Tryz.prog (wA.alloc (.cells #[.slice lb p.length ld] 27)).drew = .ok (.slice va (j + 1) vc) wX ∧ wX.cell? ⟨r, 2, none⟩ = some rv ∧ wX.frozen? ⟨r, 2, none⟩ = false ∧ Hid (Gc (wX.setCell ⟨r, 2, none⟩ (.slice va (j + 1) vc)) r 31 (.int .i64 (k : Int)) (.slice none 0 0) (.slice va (j + 1) vc) (.slice none 0 0) ∧ Rw5 V (wX.setCell ⟨r, 2, none⟩ (.slice va (j + 1) vc)) r 27 (.slice va (j + 1) vc) (j + 1) (rgsN x n)) := fun wA lb ld h1 h2 =>
          ring_step2 (Y := (wA.alloc (.cells #[.slice lb p.length ld] 27)).drew) (by have := HSr.out; omega) HGr.out HJ.out.2 HPj.out (by omega) h1 h2 (below_new _ _) (by simp) (cell_of (World.alloc_heap_new wA (.cells #[.slice lb p.length ld] 27)) 0)
        have hw5 : IntKind.i64.wrap (1 + (j : Int)) = 1 + (j : Int) := IntWalk.i64_in _ ⟨by omega, by omega⟩
        have Hpl := hidM hpl
        clear hG hR5 hTr hpl hp0 sr
        go_upto_region 24 with (fail)
        go_region_law (first
          | (go_simp; go_at_call 59; refine (hO _ (by first | exact Below.refl _ _ | exact below_drewT (Below.refl _ _) | exact below_drewNT (Below.refl _ _) _)).mono ?_; rintro e wA ⟨⟨lb, ld, rfl, hA⟩, hbA, hBA, xA⟩; have kA : ¬ r = wA.heap.size := (by have := HRR.out; have := hBA.size; omega); have kB : ¬ wA.heap.size = r := (by omega); have xY : (wA.alloc (.cells #[.slice lb p.length ld] 27)).cell? ⟨r, 2, none⟩ = some rv := (((Below.refl _ wA).alloc (Nat.le_refl _) _).cell (p := ⟨r, 2, none⟩) (by have := HRR.out; have := hBA.size; show r < _; omega)).trans xA)
          | (obtain ⟨va, vc, wX, hr, cX, fX, HX⟩ := hApp1 wA lb ld hBA hA; refine step_appG (by rfl) (.tmp 73) (.tmp 78) 28 (by rfl) rv _ (by rfl) (by rfl) hr ?_)
          | (obtain ⟨va, vc, wX, hr, cX, fX, HX⟩ := hApp2 wA lb ld hBA hA; refine step_appG (by rfl) (.tmp 73) (.tmp 78) 28 (by rfl) rv _ (by rfl) (by rfl) hr ?_))
        all_goals
          clear hO hApp1 hApp2 hA hbA hBA xA xY hr cX fX kA kB hw5
          obtain ⟨X, hXe⟩ : ∃ X, X = wX.setCell ⟨r, 2, none⟩ (.slice va (j + 1) vc) := ⟨_, rfl⟩
          rw [← hXe] at HX ⊢
          clear hXe
          go_wp2
          refine ⟨⟨j + 1, .slice va (j + 1) vc, by simp, by omega, HX.out⟩, ?_⟩
          simp only [intOf]
          omega
      · have hd : decide ((j : Int) < (n : Int)) = false := by simp; omega
        have hjn : j = n := by omega
        subst hjn
        obtain ⟨hG, hEx, vals, hrow, hall⟩ := HJ.out
        obtain ⟨ra, rc, hrv⟩ := ownsRow_slice hrow
        subst hrv
        have sr := HSr.out
        have sx := hEx.size
        have hRY : Gc wr R 31 (.int .i64 0) (.slice none 0 0) (.slice none 0 0) (.slice none 0 0) := (hEx.block R (by omega) (by omega)).trans HRV.out
        have hMY : MkS w0 wr gm v l m := HMV.out.keep (hEx.toBelow HMV.out.bel.size (by have := HMV.out.lo; omega)) (hEx.block gm (by omega) (by omega))
        have hEY : Tr.Ex gm w wr := ⟨hEx.os.trans HEV.out.os, hEx.tape.trans HEV.out.tape, hEx.output.trans HEV.out.output, Nat.le_trans HEV.out.size hEx.size, fun i hi hn => (hEx.block i (by have := HR.out; omega) (by have := HR.out; omega)).trans (HEV.out.block i hi hn)⟩
        have hTY : TV (fun i => R < i ∧ i < wr.heap.size) wr (.agg #[.int .i64 (k : Int), .slice none 0 0, .slice ra j rc, .slice none 0 0]) ((⟨(k : Int), [], rgsN x j⟩, .nil) : Tree) := by
          refine tv_of (t := (⟨(k : Int), [], rgsN x j⟩, .nil)) (pa := none) (pc := 0) ⟨by simp only; omega, by simp only; omega⟩ ⟨by simp, none, 0, rfl, fun i p h => by cases h⟩ ?_ ⟨by simp [Fo.len], by simp [Fo.len]⟩ trivial
          refine ⟨by simp only [rgsN_len]; omega, ra, rc, by simp only [rgsN_len], fun i p hi => ?_⟩
          have hil := (List.getElem?_eq_some_iff.1 hi).1
          simp only [rgsN_len] at hil
          obtain ⟨n1, ⟨n2, n3⟩ | ⟨gb, cap, cur, n2, n3, n4, n5, n6, n7, n8⟩⟩ := hrow
          · omega
          · injection n2 with e1 e2 e3
            subst e1
            have hlv : i < vals.length := by omega
            obtain ⟨u, hu⟩ : ∃ u, vals[i]? = some u := ⟨_, List.getElem?_eq_getElem hlv⟩
            have hgl := (Array.getElem?_eq_some_iff.1 n4).1
            refine ⟨gb, 0, u, rfl, ⟨by omega, by omega⟩, ?_, ?_⟩
            · rw [cell_of n4 (0 + i), Nat.zero_add]
              rw [← n8, Nat.mul_one, List.getElem?_take_of_lt hil] at hu
              simpa using hu
            · exact (hall i u p hu hi).lt.mono (fun q hq => ⟨by have := hq.1.1; omega, hq.2⟩)
        have HRY := hidM hRY
        have HMY := hidM hMY
        have HEY := hidM hEY
        have HTY := hidM hTY
        obtain ⟨t0, t1, t2, t3⟩ := hRY.cells
        obtain ⟨t4, t5, t6, t7⟩ := hRY.frozen
        obtain ⟨g0', g1', g2', g3'⟩ := hG.cells
        have HSr' := hidM sr
        clear hG hEx hrow hall hRY hMY hEY hTY sr sx
        go_wp2
        have hZ := HRY.out.set (.int .i64 (k : Int)) (.slice none 0 0) (.slice ra j rc) (.slice none 0 0)
        obtain ⟨r0, r1, r2, r3⟩ := hZ.cells
        refine bodyPost_ret (v := .agg #[.int .i64 (k : Int), .slice none 0 0, .slice ra j rc, .slice none 0 0]) (by simp [results, Tryz.results34, go_sem, r0, r1, r2, r3]) rfl ?_
        rw [HG.out]
        have hfin := geom_fin HMY.out HSz.out.1 HEY.out (by have := HR.out; have := HSr'.out; omega) (by rw [← HR.out]; exact HRY.out) (by rw [← HR.out]; exact HTY.out)
        rw [← HR.out] at hfin
        have e9 : (k : Int) = 3 := by rw [He.out]; rfl
        rw [e9] at hfin ⊢
        rw [← Hn.out]
        exact hfin
  obtain ⟨lv, hlv⟩ : ∃ lv, lev = lv + 1 := ⟨lev - 1, by have : ¬ lev < 2 := (fun h => by have := c4 h; omega); omega⟩
  have h4 : 4 ≤ k := by omega
  have HG : Hid (geoS l lev kind nx = ((⟨(k : Int), [], []⟩, foOf (manyT (geoS l lv (partN k)) n m).1), (manyT (geoS l lv (partN k)) n m).2)) := by
    show _ = _
    have hkk := HKK.out.symm
    rw [hlv] at hkk ⊢
    rw [geoS_4 Hnt.out hkk h4, ← Hn.out]
  obtain ⟨pt, hpt⟩ : ∃ pt, pt = partN k := ⟨_, rfl⟩
  have Hpt := hidM hpt
  have hpt3 : pt ≤ 3 := by rw [hpt]; unfold partN; split <;> omega
  have hih := fun {w : World} {nx : Nat} (h : MkS w0 w gm v l nx) => ih.out lv hlv h hpt3
  obtain ⟨f, hf⟩ : ∃ f, f = geoS l lv (partN k) := ⟨_, rfl⟩
  rw [← hf] at HG
  rw [← hpt] at hf
  have Hih : Hid (∀ {w : World} {nx : Nat}, MkS w0 w gm v l nx → Calls Tryz.prog 34 #[.pointer (some ⟨gm, 0, none⟩), .int .i64 (pt : Int), .int .i64 ((lev : Int) - 1)] w (Pgm w0 w gm v l (f nx))) := by rw [hf]; exact fun h => hih h
  have d1 : ((k : Int) == 1) = false := by simp; omega
  have d2 : ((k : Int) == 2) = false := by simp; omega
  have d3 : ((k : Int) == 3) = false := by simp; omega
  have hl2 : (2 : Int) ≤ (lev : Int) := by have : ¬ lev < 2 := (fun h => by have := c4 h; omega); omega
  clear e1 e2 e3 hI5 c3 c4 hih hf ih hlv hpt
  go_upto_if 34 with (fail)
  go_cut [11] from 35 to 36 (fun pv wx => pv = .int .i64 (pt : Int) ∧ wx = V)
  case first =>
    by_cases e7 : k = 7
    · have HV : Hid ((pt : Int) = 0) := by have := Hpt.out; unfold partN at this; rw [if_pos e7] at this; show _ = _; omega
      have d7 : ((k : Int) != 7) = false := by rw [e7]; rfl
      clear e7
      go_wp2
      go_meet
      exact ⟨by rw [HV.out], rfl⟩
    · have HV : Hid ((pt : Int) = (k : Int) - 3) := by have := Hpt.out; unfold partN at this; rw [if_neg e7] at this; show _ = _; omega
      have d7 : ((k : Int) != 7) = true := by simp; omega
      clear e7
      go_wp2
      go_meet
      exact ⟨by rw [HV.out], rfl⟩
  obtain ⟨rfl, hwc⟩ := hcut
  subst hwc
  go_wp2
  go_loopw [12] (fun i wr => ∃ (j : Nat) (rv : Value), i = .int .i64 j ∧ j ≤ n ∧ Hid (Gc wr r 31 (.int .i64 (k : Int)) (.slice none 0 0) (.slice none 0 0) rv ∧ Rw6 wc wr 31 rv j (manyT f j m).1 ∧ MkS w0 wr gm v l (manyT f j m).2 ∧ Tr.Ex gm w wr ∧ Gc wr R 31 (.int .i64 0) (.slice none 0 0) (.slice none 0 0) (.slice none 0 0) ∧ wc.heap.size ≤ wr.heap.size)) (fun i _ => n - (intOf i).toNat)
  case atStart => exact ⟨0, .slice none 0 0, rfl, Nat.zero_le _, HGV.out, ⟨[], World.ownsRow_nil _ _ _ _, trivial⟩, HMV.out, HEV.out, HRV.out, Nat.le_refl _⟩
  case round =>
    obtain ⟨j, rv, rfl, hj, HJ⟩ := hrel
    by_cases hlt : j < n
    · have hd : decide ((j : Int) < (n : Int)) = true := by simp; omega
      obtain ⟨jx, hjx⟩ : ∃ jx, jx = (manyT f j m).2 := ⟨_, rfl⟩
      have HT1 : Hid ((manyT f (j + 1) m) = ((manyT f j m).1 ++ [(f jx).1], (f jx).2)) := by show _ = _; rw [manyT_snoc, ← hjx]
      obtain ⟨hG, hR6, hM6, hE6, hRR, hzz⟩ := HJ.out
      have sr := HSr.out
      have x3r : wr.cell? ⟨r, 3, none⟩ = some rv := hG.cells.2.2.2
      have HRR : Hid (r < wr.heap.size ∧ wc.heap.size ≤ wr.heap.size) := ⟨hG.lt, hzz⟩
      have HGr := hidM hG
      have HM6 : Hid (MkS w0 wr gm v l jx) := by rw [hjx]; exact hM6
      have HOw : Hid (∀ g, rv.ownBlock = some g → wc.heap.size ≤ g) := fun g hg => by obtain ⟨xs, h1, _⟩ := hR6; exact (ownsRow_block h1 hg).1
      have hO : ∀ w1, Below wr.heap.size wr w1 → Calls Tryz.prog 34 #[.pointer (some ⟨gm, 0, none⟩), .int .i64 (pt : Int), .int .i64 ((lev : Int) - 1)] w1 fun e w' => (∃ K0 a1 l1 p1 a2 l2 p2 a3 l3 p3, e = .returned (.agg #[.int .i64 K0, .slice a1 l1 p1, .slice a2 l2 p2, .slice a3 l3 p3]) ∧ TV (fun i => wr.heap.size ≤ i ∧ i < w'.heap.size) w' (.agg #[.int .i64 K0, .slice a1 l1 p1, .slice a2 l2 p2, .slice a3 l3 p3]) (f jx).1) ∧ Tr.Ex gm wr w' ∧ MkS w0 w' gm v l (f jx).2 ∧ w'.cell? ⟨r, 3, none⟩ = some rv := fun w1 h => by
        have sr := HSr.out
        refine (Hih.out (HM6.out.later h)).mono ?_
        rintro e w' ⟨u, rfl, hT, hM, hE⟩
        obtain ⟨v1, v2, pa, pc, rfl, q1, q2, q3, q4, q5⟩ := hT.parts
        obtain ⟨_, b1, b2, rfl, _⟩ := q2
        obtain ⟨_, b3, b4, rfl, _⟩ := q3
        have hE3 : Tr.Ex gm wr w' := ((Tr.Ex.refl gm wr).below h).trans hE
        exact ⟨⟨_, _, _, _, _, _, _, _, _, _, rfl, hT.mono (fun i hi => ⟨Nat.le_trans h.size hi.1, hi.2⟩)⟩, hE3, hM, (World.cell?_of_block (w := wr) (a := ⟨r, 3, none⟩) (hE3.block r HRR.out.1 (by omega))).trans HGr.out.cells.2.2.2⟩
      have hApp1 : ∀ (wA : World) (K0 : Int) (a1 : Option Addr) (l1 p1 : Nat) (a2 : Option Addr) (l2 p2 : Nat) (a3 : Option Addr) (l3 p3 : Nat), Tr.Ex gm wr wA → TV (fun i => wr.heap.size ≤ i ∧ i < wA.heap.size) wA (.agg #[.int .i64 K0, .slice a1 l1 p1, .slice a2 l2 p2, .slice a3 l3 p3]) (f jx).1 → ∃ va vc wX, (Builtin.append_ #[29, 29] 29 #[rv, .slice (some ⟨wA.heap.size, 0, none⟩) 1 1]).run Tryz.prog (wA.alloc (.cells #[.int .i64 K0, .slice a1 l1 p1, .slice a2 l2 p2, .slice a3 l3 p3] 31)) = .ok (.slice va (j + 1) vc) wX ∧ wX.cell? ⟨r, 3, none⟩ = some rv ∧ wX.frozen? ⟨r, 3, none⟩ = false ∧ Hid (Gc (wX.setCell ⟨r, 3, none⟩ (.slice va (j + 1) vc)) r 31 (.int .i64 (k : Int)) (.slice none 0 0) (.slice none 0 0) (.slice va (j + 1) vc) ∧ Rw6 wc (wX.setCell ⟨r, 3, none⟩ (.slice va (j + 1) vc)) 31 (.slice va (j + 1) vc) (j + 1) ((manyT f j m).1 ++ [(f jx).1]) ∧ Kr6 r rv wA (wX.setCell ⟨r, 3, none⟩ (.slice va (j + 1) vc))) := fun wA K0 a1 l1 p1 a2 l2 p2 a3 l3 p3 h1 h2 =>
        part_step (Y := wA.alloc (.cells #[.int .i64 K0, .slice a1 l1 p1, .slice a2 l2 p2, .slice a3 l3 p3] 31)) (by have := HSr.out; omega) HRR.out.2 (by have := HSr.out; omega) (by have := HSr.out; omega) HGr.out HJ.out.2.1 (by omega) h1 h2 ((Below.refl _ wA).alloc (Nat.le_refl _) _) (World.alloc_heap_new wA _)
      have hApp2 : ∀ (wA : World) (K0 : Int) (a1 : Option Addr) (l1 p1 : Nat) (a2 : Option Addr) (l2 p2 : Nat) (a3 : Option Addr) (l3 p3 : Nat), Tr.Ex gm wr wA → TV (fun i => wr.heap.size ≤ i ∧ i < wA.heap.size) wA (.agg #[.int .i64 K0, .slice a1 l1 p1, .slice a2 l2 p2, .slice a3 l3 p3]) (f jx).1 → ∃ va vc wX, (Builtin.append_ #[29, 29] 29 #[rv, .slice (some ⟨wA.heap.size, 0, none⟩) 1 1]).run Tryz.prog (wA.alloc (.cells #[.int .i64 K0, .slice a1 l1 p1, .slice a2 l2 p2, .slice a3 l3 p3] 31)).drew = .ok (.slice va (j + 1) vc) wX ∧ wX.cell? ⟨r, 3, none⟩ = some rv ∧ wX.frozen? ⟨r, 3, none⟩ = false ∧ Hid (Gc (wX.setCell ⟨r, 3, none⟩ (.slice va (j + 1) vc)) r 31 (.int .i64 (k : Int)) (.slice none 0 0) (.slice none 0 0) (.slice va (j + 1) vc) ∧ Rw6 wc (wX.setCell ⟨r, 3, none⟩ (.slice va (j + 1) vc)) 31 (.slice va (j + 1) vc) (j + 1) ((manyT f j m).1 ++ [(f jx).1]) ∧ Kr6 r rv wA (wX.setCell ⟨r, 3, none⟩ (.slice va (j + 1) vc))) := fun wA K0 a1 l1 p1 a2 l2 p2 a3 l3 p3 h1 h2 =>
        part_step (Y := (wA.alloc (.cells #[.int .i64 K0, .slice a1 l1 p1, .slice a2 l2 p2, .slice a3 l3 p3] 31)).drew) (by have := HSr.out; omega) HRR.out.2 (by have := HSr.out; omega) (by have := HSr.out; omega) HGr.out HJ.out.2.1 (by omega) h1 h2 (below_new _ _) (World.alloc_heap_new wA _)
      have Hfin : Hid (∀ (wA X : World), Tr.Ex gm wr wA → MkS w0 wA gm v l (f jx).2 → Kr6 r rv wA X → MkS w0 X gm v l (f jx).2 ∧ Tr.Ex gm w X ∧ Gc X R 31 (.int .i64 0) (.slice none 0 0) (.slice none 0 0) (.slice none 0 0) ∧ wc.heap.size ≤ X.heap.size) := fun wA X h1 h2 h3 => by
        have sr := HSr.out
        have s1 := h1.size
        have s2 := HRR.out.2
        have s3 := h3.size
        have s4 := HR.out
        have hown : ∀ i, i < wc.heap.size → rv.ownBlock ≠ some i := fun i hi e => by have := HOw.out i e; omega
        have hlo := HMV.out.lo
        have s5 := HMV.out.bel.size
        refine ⟨h2.keep ⟨h3.os, h3.tape, h3.output, h3.size, fun i hi => h3.block i (by omega) (by omega) (hown i (by omega))⟩ (h3.block gm (by omega) (by omega) (hown gm (by omega))), ?_, ?_, by omega⟩
        · have hE := hE6.trans h1
          exact ⟨h3.os.trans hE.os, h3.tape.trans hE.tape, h3.output.trans hE.output, Nat.le_trans hE.size h3.size, fun i hi hn => (h3.block i (by omega) (by omega) (hown i (by omega))).trans (hE.block i hi hn)⟩
        · exact (h3.block R (by omega) (by omega) (hown R (by omega))).trans ((h1.block R (by omega) (by omega)).trans hRR)
      clear hG hR6 hM6 hE6 hRR hzz sr hjx
      have hw5 : IntKind.i64.wrap ((lev : Int) - 1) = (lev : Int) - 1 := IntWalk.i64_in _ ⟨by omega, by omega⟩
      go_upto_region 15 with (fail)
      go_region_law (first
        | (go_simp; go_at_call 34; refine (hO _ (by first | exact Below.refl _ _ | exact below_drewT (Below.refl _ _) | exact below_drewNT (Below.refl _ _) _)).mono ?_; rintro e wA ⟨⟨K0, a1, l1, p1, a2, l2, p2, a3, l3, p3, rfl, hA⟩, hEA, hMA, xA⟩; have kA : ¬ r = wA.heap.size := (by have := HRR.out; have := hEA.size; omega); have kB : ¬ wA.heap.size = r := (by omega); have xY : (wA.alloc (.cells #[.int .i64 K0, .slice a1 l1 p1, .slice a2 l2 p2, .slice a3 l3 p3] 31)).cell? ⟨r, 3, none⟩ = some rv := (((Below.refl _ wA).alloc (Nat.le_refl _) _).cell (p := ⟨r, 3, none⟩) (by have := HRR.out; have := hEA.size; show r < _; omega)).trans xA)
        | (obtain ⟨va, vc, wX, hr, cX, fX, HX⟩ := hApp1 wA K0 a1 l1 p1 a2 l2 p2 a3 l3 p3 hEA hA; refine step_appG (by rfl) (.tmp 43) (.tmp 49) 29 (by rfl) rv _ (by rfl) (by rfl) hr ?_)
        | (obtain ⟨va, vc, wX, hr, cX, fX, HX⟩ := hApp2 wA K0 a1 l1 p1 a2 l2 p2 a3 l3 p3 hEA hA; refine step_appG (by rfl) (.tmp 43) (.tmp 49) 29 (by rfl) rv _ (by rfl) (by rfl) hr ?_))
      all_goals
        obtain ⟨X, hXe⟩ : ∃ X, X = wX.setCell ⟨r, 3, none⟩ (.slice va (j + 1) vc) := ⟨_, rfl⟩
        rw [← hXe] at HX ⊢
        have HF9 := hidM (Hfin.out wA X hEA hMA HX.out.2.2)
        clear hXe hO hApp1 hApp2 hA hEA hMA xA xY hr cX fX kA kB hw5
        go_wp2
        refine ⟨⟨j + 1, .slice va (j + 1) vc, by simp, by omega, ?_⟩, ?_⟩
        · rw [HT1.out]
          exact ⟨HX.out.1, HX.out.2.1, HF9.out.1, HF9.out.2.1, HF9.out.2.2.1, HF9.out.2.2.2⟩
        · simp only [intOf]
          omega
    · have hd : decide ((j : Int) < (n : Int)) = false := by simp; omega
      have hjn : j = n := by omega
      subst hjn
      obtain ⟨hG, ⟨xs, hrow, hgrow⟩, hMY, hEY, hRY, hzz⟩ := HJ.out
      have sr := HSr.out
      have hml := manyT_len f j m
      obtain ⟨pa, pc, hrv, hpc, hF⟩ := fo_of (ts := (manyT f j m).1) (by rw [hml]; exact hrow) hgrow
      rw [hml] at hrv hpc
      subst hrv
      have hTY : TV (fun i => R < i ∧ i < wr.heap.size) wr (.agg #[.int .i64 (k : Int), .slice none 0 0, .slice none 0 0, .slice pa j pc]) ((⟨(k : Int), [], []⟩, foOf (manyT f j m).1) : Tree) := by
        have hfl : (foOf (manyT f j m).1).len = j := by rw [foOf_len, hml]
        have := tv_of (S := fun i => R < i ∧ i < wr.heap.size) (w := wr) (v1 := .slice none 0 0) (v2 := .slice none 0 0) (pa := pa) (pc := pc) (t := (⟨(k : Int), [], []⟩, foOf (manyT f j m).1)) ⟨by simp only; omega, by simp only; omega⟩ ⟨by simp, none, 0, rfl, fun i p h => by cases h⟩ ⟨by simp, none, 0, rfl, fun i p h => by cases h⟩ ⟨by simp only [hfl]; omega, by simp only [hfl]; omega⟩ (hF.mono (fun i hi => by
          rcases hi with hi | hi
          · exact ⟨by have := hi.1; omega, hi.2.1⟩
          · have := ownsRow_block hrow hi
            exact ⟨by omega, this.2⟩))
        simp only [hfl] at this
        exact this
      have HRY := hidM hRY
      have HMY := hidM hMY
      have HEY := hidM hEY
      have HTY := hidM hTY
      obtain ⟨t0, t1, t2, t3⟩ := hRY.cells
      obtain ⟨t4, t5, t6, t7⟩ := hRY.frozen
      obtain ⟨g0', g1', g2', g3'⟩ := hG.cells
      have HSr' := hidM sr
      clear hG hrow hgrow hRY hMY hEY hTY sr hzz hml hF hpc
      go_wp2
      have hZ := HRY.out.set (.int .i64 (k : Int)) (.slice none 0 0) (.slice none 0 0) (.slice pa j pc)
      obtain ⟨r0, r1, r2, r3⟩ := hZ.cells
      refine bodyPost_ret (v := .agg #[.int .i64 (k : Int), .slice none 0 0, .slice none 0 0, .slice pa j pc]) (by simp [results, Tryz.results34, go_sem, r0, r1, r2, r3]) rfl ?_
      rw [HG.out]
      have hfin := geom_fin HMY.out HSz.out.1 HEY.out (by have := HR.out; have := HSr'.out; omega) (by rw [← HR.out]; exact HRY.out) (by rw [← HR.out]; exact HTY.out)
      rw [← HR.out] at hfin
      exact hfin
end Go.Proofs.YtgobnjeankjkjaaGreatDoor

/- The makers of trees: grown. -/
namespace Go.Proofs.YtgobnjeankjkjaaGreatDoor
open Go.ChangeShapes Go.WideShapes Go.ChangeAt Go.RowKit
open Tr Wk Ar Mk
set_option linter.unusedVariables false
namespace Mk
theorem cnt_fsum : ∀ f : Fo, (f.cnt : Int) ≤ fsum f
  | .nil => Int.le_refl _
  | .cons g c r => by
    have h1 := cnt_fsum c
    have h2 := cnt_fsum r
    have h3 := tot_pos g
    show ((c.cnt + r.cnt + 1 : Nat) : Int) ≤ 1 + tot g + fsum c + fsum r
    omega
theorem tot_fsum : ∀ (f : Fo) (lv : Nat) (home : Int), ∀ it ∈ f.pre lv home, tot it.g ≤ fsum f
  | .nil, _, _, it, h => by cases h
  | .cons g c r, lv, home, it, h => by
    have h1 := fsum_pos c
    have h2 := fsum_pos r
    have h3 := tot_pos g
    show tot it.g ≤ 1 + tot g + fsum c + fsum r
    rcases List.mem_cons.1 h with rfl | h
    · show tot g ≤ _; omega
    · rcases List.mem_append.1 h with h | h
      · have := tot_fsum c _ _ it h; omega
      · have := tot_fsum r _ _ it h; omega
/-- the tree as a forest -/
def fo1 (T : Tree) : Fo := .cons T.1 T.2 .nil
/-- a right tree: what Check takes -/
structure OkT (T : Tree) : Prop where
  good : Good 1 0 (fo1 T)
  sum : fsum (fo1 T) ≤ 65536
end Mk
theorem check_ok {w : World} {v : Value} {T : Tree} (hT : TV (fun k => k < w.heap.size) w v T) (ho : OkT T) : Calls Tryz.prog 20 #[v] w (fun e w' => e = .returned .nilIface ∧ Below w.heap.size w w') := by
  have hs := ho.sum
  have h1 := cnt_fsum (fo1 T)
  refine (callsIn_wide.1 (check_any (n := 0) (f := fo1 T) hT (by omega) (fun it hi => by have := tot_fsum _ _ _ it hi; omega))).mono ?_
  rintro e w' ⟨hb, ⟨rfl, _⟩ | ⟨k, g, h1, h2, _⟩⟩
  · exact ⟨rfl, hb⟩
  · exact absurd (good_codes ho.good ho.sum k) h2
theorem geom17_any {w0 : World} {gm : Nat} {v : Value} {l : List Nde} : ∀ (lev : Nat), lev ≤ 6 → ∀ {w : World} {nx kind : Nat}, MkS w0 w gm v l nx → kind ≤ 3 →
    Calls Tryz.prog 34 #[.pointer (some ⟨gm, 0, none⟩), .int .i64 (kind : Int), .int .i64 (lev : Int)] w (Pgm w0 w gm v l (geoS l lev kind nx)) := by
  intro lev
  induction lev with
  | zero => intro hl w nx kind h hk; exact geom17_step h hk hl (fun lev' e => by omega)
  | succ lev ih =>
    intro hl w nx kind h hk
    refine geom17_step h hk hl (fun lev' e w nx kind h hk => ?_)
    obtain rfl : lev = lev' := by omega
    rw [show ((lev + 1 : Nat) : Int) - 1 = (lev : Int) by omega]
    exact ih (by omega) h hk
set_option maxHeartbeats 3200000 in
set_option maxRecDepth 100000 in
theorem grown17_any {w : World} {v : Value} {l : List Nde} (hN : NdsAt (· < w.heap.size) w v l) :
    Calls Tryz.prog 16 #[v] w (fun e w' => ∃ u, e = .returned (.tuple #[u, .bool true]) ∧ TV (fun k => w.heap.size ≤ k ∧ k < w'.heap.size) w' u (treeN l) ∧ OkT (treeN l) ∧ Below w.heap.size w w') := by
  have hok : OkT (treeN l) := by
    have := tree_good hN.oks
    exact ⟨this.1, by have := this.2; show fsum (.cons _ _ _) ≤ _; omega⟩
  have HO := hidM hok
  obtain ⟨W, hW⟩ : ∃ W, W = (w.alloc (.cells #[.int .i64 0, .slice none 0 0, .slice none 0 0, .slice none 0 0] 31)).alloc (.cells #[v, .int .i64 0] 82) := ⟨_, rfl⟩
  have hz : W.heap.size = w.heap.size + 2 := by rw [hW]; simp
  have hb : Below w.heap.size w W := by rw [hW]; exact ((Below.refl _ w).alloc (Nat.le_refl _) _).alloc (by simp) _
  have hgR : Gc W w.heap.size 31 (.int .i64 0) (.slice none 0 0) (.slice none 0 0) (.slice none 0 0) := by
    rw [hW]; exact (gc_new w _ _ _ _ _).later ((Below.refl _ _).alloc (Nat.le_refl _) _)
  have hM : MkS w W (w.heap.size + 1) v l 0 := by
    refine ⟨hb, ?_, by omega, hN, by omega⟩
    rw [hW]
    have := World.alloc_heap_new (w.alloc (.cells #[.int .i64 0, .slice none 0 0, .slice none 0 0, .slice none 0 0] 31)) (.cells #[v, .int .i64 ((0 : Nat) : Int)] 82 (0, 0))
    simpa using this
  have hG := geom17_any 6 (by omega) hM (kind := 0) (by omega)
  obtain ⟨-, na, nc, rfl, -⟩ := hN
  obtain ⟨ln, hln⟩ : ∃ ln, ln = l.length := ⟨_, rfl⟩
  rw [← hln] at hW hM hG ⊢
  have HW : Hid ((w.alloc (.cells #[.int .i64 0, .slice none 0 0, .slice none 0 0, .slice none 0 0] 31)).alloc (.cells #[.slice na ln nc, .int .i64 0] 82) = W) := hW.symm
  have Hz := hidM hz
  have Hb := hidM hb
  have HgR := hidM hgR
  clear hW hz hb hgR hM hln hok
  go_enter Tryz.func16, Tryz.ntmps16
  go_wp2_with fail
  rw [HW.out]
  refine hG.mono ?_
  rintro e w1 ⟨u, rfl, hT, hM1, hE1⟩
  clear hG
  obtain ⟨v1, v2, pa, pc, rfl, q1, q2, q3, q4, q5⟩ := hT.parts
  obtain ⟨-, b1, b2, rfl, -⟩ := q2
  obtain ⟨-, b3, b4, rfl, -⟩ := q3
  have HT := hidM hT
  have HE := hidM hE1
  clear q1 q4 q5 hT hE1 hM1
  have HTe : Hid ((geoS l 6 0 0).1 = treeN l) := rfl
  generalize (geoS l 6 0 0).1.1.kind = K0 at *
  generalize (geoS l 6 0 0).1.1.line.length = L1 at *
  generalize (geoS l 6 0 0).1.1.rings.length = L2 at *
  generalize (geoS l 6 0 0).1.2.len = L3 at *
  go_upto_region 3 with (fail)
  obtain ⟨V, hV⟩ : ∃ V, V = w1.alloc (.cells #[.int .i64 K0, .slice b1 L1 b2, .slice b3 L2 b4, .slice pa L3 pc] 31) := ⟨_, rfl⟩
  have hbV : Below w1.heap.size w1 V := by rw [hV]; exact (Below.refl _ w1).alloc (Nat.le_refl _) _
  have hgV : Gc V w1.heap.size 31 (.int .i64 K0) (.slice b1 L1 b2) (.slice b3 L2 b4) (.slice pa L3 pc) := by rw [hV]; exact gc_new w1 _ _ _ _ _
  have hzV : V.heap.size = w1.heap.size + 1 := by rw [hV]; simp
  have s1 := HE.out.size
  have s0 := Hz.out
  have hRV : Gc V w.heap.size 31 (.int .i64 0) (.slice none 0 0) (.slice none 0 0) (.slice none 0 0) := (hbV.block w.heap.size (by omega)).trans ((HE.out.block w.heap.size (by omega) (by omega)).trans HgR.out)
  have hTV : TV (fun k => W.heap.size ≤ k ∧ k < w1.heap.size) V (.agg #[.int .i64 K0, .slice b1 L1 b2, .slice b3 L2 b4, .slice pa L3 pc]) (treeN l) := by rw [← HTe.out]; exact HT.out.below (Kp.of_below hbV (fun k hk => hk.2))
  have hbw : Below w.heap.size w V := (Hb.out.trans (HE.out.toBelow (by omega) (by omega))).trans (hbV.mono (by omega))
  have hCk : ∀ w2, Below V.heap.size V w2 → Calls Tryz.prog 20 #[.agg #[.int .i64 K0, .slice b1 L1 b2, .slice b3 L2 b4, .slice pa L3 pc]] w2 (fun e w' => e = .returned .nilIface ∧ Below V.heap.size V w' ∧ (w'.cell? ⟨w1.heap.size, 0, none⟩ = some (.int .i64 K0) ∧ w'.cell? ⟨w1.heap.size, 1, none⟩ = some (.slice b1 L1 b2) ∧ w'.cell? ⟨w1.heap.size, 2, none⟩ = some (.slice b3 L2 b4) ∧ w'.cell? ⟨w1.heap.size, 3, none⟩ = some (.slice pa L3 pc)) ∧ Gc w' w.heap.size 31 (.int .i64 0) (.slice none 0 0) (.slice none 0 0) (.slice none 0 0)) := fun w2 h => by
    refine (check_ok ((hTV.below (Kp.of_below h (fun k hk => by have := hk.2; omega))).mono (fun k hk => by have := hk.2; have := h.size; omega)) HO.out).mono ?_
    rintro e w' ⟨rfl, hb⟩
    have h3 := h.trans (hb.mono h.size)
    exact ⟨rfl, h3, (hgV.later h3).cells, hRV.later h3⟩
  obtain ⟨x0, x1, x2, x3⟩ := hgV.cells
  have HTV := hidM hTV
  have Hbw := hidM hbw
  have HzV := hidM hzV
  have Hs1 := hidM s1
  have k1 : ¬ w1.heap.size = w.heap.size := by omega
  have k2 : ¬ w.heap.size = w1.heap.size := by omega
  rw [← hV]
  clear hV hbV hgV hzV s1 s0 hRV hTV hbw HT HE HW HgR HTe
  go_region_held3 (fun w' => w'.cell? ⟨w1.heap.size, 0, none⟩ = some (.int .i64 K0) ∧ w'.cell? ⟨w1.heap.size, 1, none⟩ = some (.slice b1 L1 b2) ∧ w'.cell? ⟨w1.heap.size, 2, none⟩ = some (.slice b3 L2 b4) ∧ w'.cell? ⟨w1.heap.size, 3, none⟩ = some (.slice pa L3 pc)) (go_keep) ((go_at_call 20; refine (hCk _ (by first | exact Below.refl _ _ | exact below_drewT (Below.refl _ _) | exact below_drewNT (Below.refl _ _) _)).mono ?_; rintro e w2 ⟨rfl, hb2, ⟨y0, y1, y2, y3⟩, hg2⟩; obtain ⟨z0, z1, z2, z3⟩ := hg2.cells; obtain ⟨z4, z5, z6, z7⟩ := hg2.frozen))
  have hX := hg2.set (.int .i64 K0) (.slice b1 L1 b2) (.slice b3 L2 b4) (.slice pa L3 pc)
  obtain ⟨r0, r1, r2, r3⟩ := hX.cells
  have hkX := fun k (h : k ≠ w.heap.size) => set4_keep (g := w.heap.size) w2 (.int .i64 K0) (.slice b1 L1 b2) (.slice b3 L2 b4) (.slice pa L3 pc) k h
  have hbX : Below w.heap.size w ((((w2.setCell ⟨w.heap.size, 0, none⟩ (.int .i64 K0)).setCell ⟨w.heap.size, 1, none⟩ (.slice b1 L1 b2)).setCell ⟨w.heap.size, 2, none⟩ (.slice b3 L2 b4)).setCell ⟨w.heap.size, 3, none⟩ (.slice pa L3 pc)) :=
    ((((Hbw.out.trans (hb2.mono Hbw.out.size)).setCell (p := ⟨w.heap.size, 0, none⟩) (by simp) _).setCell (p := ⟨w.heap.size, 1, none⟩) (by simp) _).setCell (p := ⟨w.heap.size, 2, none⟩) (by simp) _).setCell (p := ⟨w.heap.size, 3, none⟩) (by simp) _
  have hsX : ((((w2.setCell ⟨w.heap.size, 0, none⟩ (.int .i64 K0)).setCell ⟨w.heap.size, 1, none⟩ (.slice b1 L1 b2)).setCell ⟨w.heap.size, 2, none⟩ (.slice b3 L2 b4)).setCell ⟨w.heap.size, 3, none⟩ (.slice pa L3 pc)).heap.size = w2.heap.size := by simp [World.setCell]
  obtain ⟨X, hXe⟩ : ∃ X, X = (((w2.setCell ⟨w.heap.size, 0, none⟩ (.int .i64 K0)).setCell ⟨w.heap.size, 1, none⟩ (.slice b1 L1 b2)).setCell ⟨w.heap.size, 2, none⟩ (.slice b3 L2 b4)).setCell ⟨w.heap.size, 3, none⟩ (.slice pa L3 pc) := ⟨_, rfl⟩
  rw [← hXe] at r0 r1 r2 r3 hkX hbX hsX ⊢
  have Hk := hidM hkX
  have HbX := hidM hbX
  have HsX := hidM hsX
  have Hb2 := hidM hb2
  clear hX hXe hkX hbX hsX hb2 hg2 z0 z1 z2 z3 z4 z5 z6 z7 y0 y1 y2 y3 x0 x1 x2 x3 hCk
  go_wp2
  refine bodyPost_ret (v := .tuple #[.agg #[.int .i64 K0, .slice b1 L1 b2, .slice b3 L2 b4, .slice pa L3 pc], .bool true]) (by simp [results, Tryz.results16, go_sem, r0, r1, r2, r3]) rfl ?_
  have e1 := HzV.out
  have e2 := Hb2.out.size
  have e3 := Hz.out
  have e4 := Hs1.out
  have e5 := HsX.out
  refine ⟨_, rfl, ((HTV.out.below (Kp.of_below Hb2.out (fun k hk => by have := hk.2; omega))).below (w' := X) ⟨by omega, fun k hk => Hk.out k (by have := hk.1; omega)⟩).mono (fun k hk => ⟨by have := hk.1; omega, by have := hk.2; omega⟩), HO.out, HbX.out⟩
end Go.Proofs.YtgobnjeankjkjaaGreatDoor

/- Nodes among the inputs. -/
namespace Go.Proofs.YtgobnjeankjkjaaGreatDoor
open Go.ChangeShapes Go.WideShapes Go.ChangeAt Go.RowKit
open Tr Wk Ar Mk
set_option linter.unusedVariables false
namespace Mk
theorem spot_ofM {w : World} {a : Addr} {v : Value} (h : w.cell? (a.add 0) = some v) : ∃ b o, a = ⟨b, o, none⟩ := by
  have e : a.add 0 = a := by unfold Addr.add; simp
  rw [e] at h
  have hs := World.cell?_spot h
  obtain ⟨b, o, s⟩ := a
  have hn : s = none := hs
  subst hn
  exact ⟨b, o, rfl⟩
theorem add_noneM (b o j : Nat) : (⟨b, o, none⟩ : Addr).add j = ⟨b, o + j, none⟩ := by
  unfold Addr.add
  split <;> simp_all
theorem wf_u {n : Int} (h : (Lit.int .u64 n).wf = true) : U n := by
  simp only [Lit.wf, Bool.and_eq_true, decide_eq_true_eq] at h
  have h1 : IntKind.u64.min = 0 := rfl
  have h2 : IntKind.u64.max = 18446744073709551615 := rfl
  unfold U
  omega
theorem xy_of {w : World} {x : Addr} {l c : Nat} {zs : List Int} (hl : l ≤ c) (hm : c ≤ maxLen) (hz : zs.length = c) (hcell : ∀ i, i < zs.length → w.cell? (x.add i) = some (.int .u64 (zs.getD i 0))) (hw : ∀ n ∈ zs, (Lit.int .u64 n).wf = true) : XyAt (· < w.heap.size) w (.slice (some x) l c) (zs.take l) := by
  unfold maxLen at hm
  refine ⟨by rw [List.length_take]; omega, some x, c, by rw [List.length_take, Nat.min_eq_left (by omega)], fun i y hi => ?_⟩
  have hil : i < l := by
    have := (List.getElem?_eq_some_iff.1 hi).1
    rw [List.length_take] at this
    omega
  have hy : zs[i]? = some y := by
    rw [List.getElem?_take_of_lt hil] at hi
    exact hi
  have h0 := hcell 0 (by omega)
  obtain ⟨b, o, rfl⟩ := spot_ofM h0
  have h2 := hcell i (by omega)
  rw [add_noneM, List.getD_eq_getElem?_getD, hy] at h2
  exact ⟨b, o, rfl, cell_lt h2, wf_u (hw y (List.mem_of_getElem? hy)), h2⟩
end Mk
theorem cells_nodeM : Tryz.prog.cellsOf 128 = 3 := by kernel_rfl
theorem cells_i64M : Tryz.prog.cellsOf 3 = 1 := by kernel_rfl
theorem cells_su64M : Tryz.prog.cellsOf 126 = 1 := by kernel_rfl
set_option maxRecDepth 100000 in
theorem trod_nodeM {H : Type} {enc : TypeId × Value → H} {w : World} {base fuel : Nat} {spare : Nat → Bool} {held : Bool} {cs : List Value} {y : DataW H × List MemPlace} (hall : ∀ g, spare g = true)
    (hf : DataW.trod enc Tryz.prog w base spare held fuel 128 cs = some y) : ∃ (d : Nde) (u : Value), cs = [.int .i64 d.kind, .int .i64 d.size, u] ∧ XyAt (· < w.heap.size) w u d.xy := by
  obtain ⟨xs, m, _, hy, hl, hx, hi⟩ := DataW.trod_struct Tryz.underlying128 hf
  rw [cells_nodeM] at hl
  match cs, hl with
  | [c0, c1, c2], _ =>
    have i0 := hi 0 _ rfl
    have i1 := hi 1 _ rfl
    have i2 := hi 2 _ rfl
    match xs, hx with
    | [x0, x1, x2], _ =>
      simp [cells_i64M, cells_su64M] at i0 i1 i2
      obtain ⟨s0, e0, _, _⟩ := DataW.trod_int Tryz.underlying3 i0
      obtain ⟨s1, e1, _, _⟩ := DataW.trod_int Tryz.underlying3 i1
      simp at e0 e1
      subst e0 e1
      rcases open_ints Tryz.underlying126 Tryz.underlying22 (by kernel_rfl) i2 with ⟨hcs, _⟩ | ⟨x, l, c', zs, hcs, _, hl, hm, hz, _, hcell, hwz⟩
      · simp at hcs
        subst hcs
        exact ⟨⟨s0, s1, []⟩, _, rfl, ⟨by simp, none, 0, rfl, fun i p hi => by cases hi⟩⟩
      · simp at hcs
        subst hcs
        rw [if_pos (hall _)] at hz
        exact ⟨⟨s0, s1, zs.take l⟩, _, rfl, xy_of hl hm hz hcell hwz⟩
instance : Inhabited Nde := ⟨⟨0, 0, []⟩⟩
set_option maxRecDepth 100000 in
theorem open_nodes {H : Type} {enc : TypeId × Value → H} {w : World} {r : Reach} {base b0 : Nat} {spare : Nat → Bool} {held : Bool} {v : Value} {d : DataW H} {p : List MemPlace}
    (hv : Value.okWide Tryz.prog w r b0 47 v) (h : DataW.Trod enc Tryz.prog w base spare held 47 v d p) (hall : ∀ g, spare g = true) :
    ∃ l : List Nde, NdsAt (· < w.heap.size) w v l := by
  obtain ⟨a, n, c, rfl⟩ := okWide_slice Tryz.underlying47 hv
  obtain ⟨fuel, hf⟩ := h
  rcases DataW.trod_slice Tryz.underlying47 hf with ⟨hcs, _⟩ | ⟨x, len, cap, elems, rest, m, _, hcs, hd, hbb, hl, hm, hlen, hel, hsp, hns⟩
  · simp [Value.cells] at hcs
    obtain ⟨rfl, rfl, rfl⟩ := hcs
    exact ⟨[], by simp, none, 0, rfl, fun i t ht => by cases ht⟩
  · simp [Value.cells] at hcs
    obtain ⟨rfl, rfl, rfl⟩ := hcs
    have each : ∀ i, i < n → ∃ t : Nde, ∃ b o u, x = ⟨b, o, none⟩ ∧ w.cell? ⟨b, o + i * 3, none⟩ = some (.int .i64 t.kind) ∧ w.cell? ⟨b, o + i * 3 + 1, none⟩ = some (.int .i64 t.size) ∧ w.cell? ⟨b, o + i * 3 + 2, none⟩ = some u ∧ XyAt (· < w.heap.size) w u t.xy := by
      intro i hi
      have hb' := hel i hi
      rw [List.getElem?_eq_getElem (by omega), cells_nodeM, Option.bind_eq_some_iff] at hb'
      obtain ⟨cs', hcs, hy⟩ := hb'
      obtain ⟨t, u, rfl, hz⟩ := trod_nodeM hall hy
      obtain ⟨_, hlen9, hcell⟩ := World.cells?_some hcs
      have spot : ∃ b o, x = ⟨b, o, none⟩ := by
        have hb0 := hel 0 (by omega)
        rw [List.getElem?_eq_getElem (by omega), cells_nodeM, Option.bind_eq_some_iff] at hb0
        obtain ⟨cs0, hcs0, hy0⟩ := hb0
        obtain ⟨t0, u0, rfl, _⟩ := trod_nodeM hall hy0
        obtain ⟨_, _, hcell0⟩ := World.cells?_some hcs0
        have q0 := hcell0 0 (by omega)
        have e : x.add (0 * 3) = x := by unfold Addr.add; simp
        rw [e] at q0
        exact spot_ofM q0
      obtain ⟨b, o, rfl⟩ := spot
      have q0 := hcell 0 (by omega)
      have q1 := hcell 1 (by omega)
      have q2 := hcell 2 (by omega)
      rw [add_noneM, add_noneM] at q0 q1 q2
      exact ⟨t, b, o, u, rfl, by simpa using q0, by simpa using q1, by simpa using q2, hz⟩
    have pick : ∃ f : Nat → Nde, ∀ i, i < n → ∃ b o u, x = ⟨b, o, none⟩ ∧ w.cell? ⟨b, o + i * 3, none⟩ = some (.int .i64 (f i).kind) ∧ w.cell? ⟨b, o + i * 3 + 1, none⟩ = some (.int .i64 (f i).size) ∧ w.cell? ⟨b, o + i * 3 + 2, none⟩ = some u ∧ XyAt (· < w.heap.size) w u (f i).xy := by
      refine ⟨fun i => if hi : i < n then (each i hi).choose else default, fun i hi => ?_⟩
      simp only [dif_pos hi]
      exact (each i hi).choose_spec
    obtain ⟨f, hf2⟩ := pick
    refine ⟨(List.range n).map f, by simp only [List.length_map, List.length_range]; unfold maxLen at hm; omega, some x, c, by simp, fun i t ht => ?_⟩
    rw [List.getElem?_map] at ht
    obtain ⟨k, hk, rfl⟩ := Option.map_eq_some_iff.mp ht
    obtain ⟨hi, e⟩ := List.getElem?_eq_some_iff.mp hk
    rw [List.length_range] at hi
    rw [List.getElem_range] at e
    subst e
    obtain ⟨b, o, u, hx2, q0, q1, q2, q3⟩ := hf2 i hi
    exact ⟨b, o, u, by rw [hx2], cell_lt q0, q0, q1, q2, q3⟩
end Go.Proofs.YtgobnjeankjkjaaGreatDoor

