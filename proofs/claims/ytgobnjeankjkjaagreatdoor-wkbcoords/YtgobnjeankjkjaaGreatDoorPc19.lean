import Derived.BigQuiet
import Derived.Deep.QuietTactic
import Derived.Below
import Derived.ChangeOld
import Derived.Deep.CutRange
import Derived.Deep.RegionHeld3
import Derived.Deep.RegionLaw
import Derived.Laws.AppendOwn
import Derived.Laws.BitsAllLaws
import Derived.Laws.Rows
import Derived.LoopIn
import Derived.LoopNIn
import Derived.Maps.AppendAt
import Derived.OpenShut
import Derived.OwnWalk
import Derived.OwnWalkIn
import Derived.ProofKit
import Derived.RangeFuncBound
import Derived.RangeFuncLeaves
import Derived.RangeFuncNested
import Derived.Shelf.Abstract
import Derived.Shelf.RegionOpen
import Derived.ShutString
import Derived.StillTailTactics
import Derived.TacticsInMore
import Derived.WalkKit
import Derived.WalkLawsBesides
import Derived.WalkSpells
import Derived.Test.YtgobnjeankjkjaaGreatDoorPc4
import Derived.Test.YtgobnjeankjkjaaGreatDoorPc13
import Derived.Test.YtgobnjeankjkjaaGreatDoorPc17
/- The makers of trees: nodes in memory; into, finite, take, points. -/
namespace Go.Proofs.YtgobnjeankjkjaaGreatDoor
open Go.ChangeShapes Go.WideShapes Go.ChangeAt Go.RowKit
open Tr Wk Ar Mk
set_option linter.unusedVariables false
theorem hidM {p : Prop} (h : p) : Hid p := h
namespace Mk
/-- patterns in memory -/
def XyAt (S : Nat → Prop) (W : World) (v : Value) (l : List Int) : Prop :=
  l.length ≤ 9223372036854775807 ∧ ∃ (a : Option Addr) (c : Nat), v = .slice a l.length c ∧ ∀ i x, l[i]? = some x → ∃ b o, a = some ⟨b, o, none⟩ ∧ S b ∧ U x ∧ W.cell? ⟨b, o + i, none⟩ = some (.int .u64 x)
theorem XyAt.below {S : Nat → Prop} {W W' : World} {v : Value} {l : List Int} (h : XyAt S W v l) (hk : Kp S W W') : XyAt S W' v l := by
  obtain ⟨hl, a, c, rfl, hc⟩ := h
  refine ⟨hl, a, c, rfl, fun i x hi => ?_⟩
  obtain ⟨b, o, rfl, hb, u, k⟩ := hc i x hi
  exact ⟨b, o, rfl, hb, u, (hk.cell (p := ⟨b, o + i, none⟩) hb).trans k⟩
/-- nodes in memory -/
def NdsAt (S : Nat → Prop) (W : World) (v : Value) (l : List Nde) : Prop :=
  l.length ≤ 9223372036854775807 ∧ ∃ (a : Option Addr) (c : Nat), v = .slice a l.length c ∧ ∀ i d, l[i]? = some d → ∃ b o u, a = some ⟨b, o, none⟩ ∧ S b ∧ W.cell? ⟨b, o + i * 3, none⟩ = some (.int .i64 d.kind) ∧ W.cell? ⟨b, o + i * 3 + 1, none⟩ = some (.int .i64 d.size) ∧ W.cell? ⟨b, o + i * 3 + 2, none⟩ = some u ∧ XyAt S W u d.xy
theorem NdsAt.below {S : Nat → Prop} {W W' : World} {v : Value} {l : List Nde} (h : NdsAt S W v l) (hk : Kp S W W') : NdsAt S W' v l := by
  obtain ⟨hl, a, c, rfl, hc⟩ := h
  refine ⟨hl, a, c, rfl, fun i d hi => ?_⟩
  obtain ⟨b, o, u, rfl, hb, k1, k2, k3, k4⟩ := hc i d hi
  exact ⟨b, o, u, rfl, hb, (hk.cell (p := ⟨b, o + i * 3, none⟩) hb).trans k1, (hk.cell (p := ⟨b, o + i * 3 + 1, none⟩) hb).trans k2, (hk.cell (p := ⟨b, o + i * 3 + 2, none⟩) hb).trans k3, k4.below hk⟩
/-- a maker in memory -/
structure MkS (w0 w : World) (gm : Nat) (v : Value) (l : List Nde) (nx : Nat) : Prop where
  bel : Below w0.heap.size w0 w
  blk : w.heap[gm]? = some (.cells #[v, .int .i64 (nx : Int)] 82 (0, 0))
  lo : w0.heap.size ≤ gm
  nds : NdsAt (· < w0.heap.size) w0 v l
  nx : nx ≤ 60
section
variable {w0 w w' : World} {gm : Nat} {v : Value} {l : List Nde} {nx : Nat}
theorem MkS.lt (h : MkS w0 w gm v l nx) : gm < w.heap.size := (Array.getElem?_eq_some_iff.1 h.blk).1
theorem MkS.later (h : MkS w0 w gm v l nx) (hb : Below w.heap.size w w') : MkS w0 w' gm v l nx := ⟨h.bel.trans (hb.mono h.bel.size), (hb.block gm h.lt).trans h.blk, h.lo, h.nds, h.nx⟩
/-- what stands behind a change of the maker's block alone -/
theorem MkS.keep (h : MkS w0 w gm v l nx) (hb : Below w0.heap.size w w') (hg : w'.heap[gm]? = w.heap[gm]?) : MkS w0 w' gm v l nx := ⟨h.bel.trans hb, hg.trans h.blk, h.lo, h.nds, h.nx⟩
end
/-- a block of three cells -/
def Tc (w : World) (g : Nat) (t : TypeId) (x y z : Value) : Prop := w.heap[g]? = some (.cells #[x, y, z] t (0, 0))
theorem Tc.lt {w : World} {g : Nat} {t : TypeId} {x y z : Value} (h : Tc w g t x y z) : g < w.heap.size := (Array.getElem?_eq_some_iff.1 h).1
theorem Tc.cells {w : World} {g : Nat} {t : TypeId} {x y z : Value} (h : Tc w g t x y z) : w.cell? ⟨g, 0, none⟩ = some x ∧ w.cell? ⟨g, 1, none⟩ = some y ∧ w.cell? ⟨g, 2, none⟩ = some z := ⟨cell_of h 0, cell_of h 1, cell_of h 2⟩
theorem Tc.frozen {w : World} {g : Nat} {t : TypeId} {x y z : Value} (h : Tc w g t x y z) : w.frozen? ⟨g, 0, none⟩ = false ∧ w.frozen? ⟨g, 1, none⟩ = false ∧ w.frozen? ⟨g, 2, none⟩ = false := by
  unfold Tc at h
  simp [World.frozen?, h]
theorem tc_new (w : World) (x y z : Value) (t : TypeId) : Tc (w.alloc (.cells #[x, y, z] t)) w.heap.size t x y z := World.alloc_heap_new w _
end Mk
end Go.Proofs.YtgobnjeankjkjaaGreatDoor

/- The makers of trees: geom. -/
namespace Go.Proofs.YtgobnjeankjkjaaGreatDoor
open Go.ChangeShapes Go.WideShapes Go.ChangeAt Go.RowKit
open Tr Wk Ar Mk
set_option linter.unusedVariables false
namespace Mk
end Mk
namespace Tr
/-- all but block r and the row's own is kept -/
structure Kr6 (r : Nat) (rv : Value) (w w' : World) : Prop where
  os : w'.os = w.os
  tape : w'.tape = w.tape
  output : w'.output = w.output
  size : w.heap.size ≤ w'.heap.size
  block : ∀ k, k < w.heap.size → k ≠ r → rv.ownBlock ≠ some k → w'.heap[k]? = w.heap[k]?
end Tr
end Go.Proofs.YtgobnjeankjkjaaGreatDoor

/- The makers of trees: grown. -/
namespace Go.Proofs.YtgobnjeankjkjaaGreatDoor
open Go.ChangeShapes Go.WideShapes Go.ChangeAt Go.RowKit
open Tr Wk Ar Mk
set_option linter.unusedVariables false
namespace Mk
theorem cnt_fsum : ∀ f : Fo, (f.cnt : Int) ≤ fsum f
  | .nil => Int.le_refl _
  | .cons g c r => by
    have h1 := cnt_fsum c
    have h2 := cnt_fsum r
    have h3 := tot_pos g
    show ((c.cnt + r.cnt + 1 : Nat) : Int) ≤ 1 + tot g + fsum c + fsum r
    omega
theorem tot_fsum : ∀ (f : Fo) (lv : Nat) (home : Int), ∀ it ∈ f.pre lv home, tot it.g ≤ fsum f
  | .nil, _, _, it, h => by cases h
  | .cons g c r, lv, home, it, h => by
    have h1 := fsum_pos c
    have h2 := fsum_pos r
    have h3 := tot_pos g
    show tot it.g ≤ 1 + tot g + fsum c + fsum r
    rcases List.mem_cons.1 h with rfl | h
    · show tot g ≤ _; omega
    · rcases List.mem_append.1 h with h | h
      · have := tot_fsum c _ _ it h; omega
      · have := tot_fsum r _ _ it h; omega
/-- the tree as a forest -/
def fo1 (T : Tree) : Fo := .cons T.1 T.2 .nil
/-- a right tree: what Check takes -/
structure OkT (T : Tree) : Prop where
  good : Good 1 0 (fo1 T)
  sum : fsum (fo1 T) ≤ 65536
end Mk
theorem check_ok {w : World} {v : Value} {T : Tree} (hT : TV (fun k => k < w.heap.size) w v T) (ho : OkT T) : Calls Tryz.prog 20 #[v] w (fun e w' => e = .returned .nilIface ∧ Below w.heap.size w w') := by
  have hs := ho.sum
  have h1 := cnt_fsum (fo1 T)
  refine (callsIn_wide.1 (check_any (n := 0) (f := fo1 T) hT (by omega) (fun it hi => by have := tot_fsum _ _ _ it hi; omega))).mono ?_
  rintro e w' ⟨hb, ⟨rfl, _⟩ | ⟨k, g, h1, h2, _⟩⟩
  · exact ⟨rfl, hb⟩
  · exact absurd (good_codes ho.good ho.sum k) h2
end Go.Proofs.YtgobnjeankjkjaaGreatDoor

