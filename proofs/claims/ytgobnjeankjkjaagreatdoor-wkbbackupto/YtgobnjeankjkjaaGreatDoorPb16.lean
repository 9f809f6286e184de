import Derived.Deep.RegionHeld3
import Derived.Below
import Derived.BigQuiet
import Derived.ChangeOld
import Derived.Deep.DeepCutAuto
import Derived.Deep.QuietTactic
import Derived.Deep.RegionLaw
import Derived.Deep.RegionWith
import Derived.LaidEql
import Derived.Laws.AppendOwn
import Derived.Laws.BitsAllLaws
import Derived.Laws.CopyRow
import Derived.Laws.IdiomCopy
import Derived.Laws.IdiomRangeMap
import Derived.Laws.Rows
import Derived.Laws.StructEq
import Derived.Maps.AppendAt
import Derived.OpenShut
import Derived.OwnWalk
import Derived.ProofKit
import Derived.RowKitTokens
import Derived.ShutString
import Derived.Stop.Asserts
import Derived.WalkKit
import Derived.WalkLawsBesides
import Derived.WalkSpells
import Derived.Test.YtgobnjeankjkjaaGreatDoorPb15
/- Layer 17: a geometry. -/
namespace Go.Proofs.YtgobnjeankjkjaaGreatDoor
open Go.ChangeShapes Go.WideShapes Go.ChangeAt Go.RowKit
open Ep Oc Tr Wk
set_option linter.unusedVariables false
theorem fin_ge {w0 w w7 w8 w9 : World} {gw gr b r : Nat} {D : Int} {l : List UInt8} {k7 : Nat} {v v7 : Value} {os7 : List Bool} {S : Nat → Prop} {u : Value} {t : Tree} (h7 : WkS w0 w7 gw gr D l k7 v7 os7) (hC : Ch (Ex gw gr v) w w7) (hI1 : In b (b + 1) w7 w8) (hI2 : In r (r + 1) w8 w9) (hb : w.heap.size ≤ b) (hr : w.heap.size ≤ r) (nb : NoB w7 b) (nr : NoB w8 r) (eb : b ≠ gr ∧ b ≠ gw ∧ v7.ownBlock ≠ some b ∧ w0.heap.size ≤ b) (er : r ≠ gr ∧ r ≠ gw ∧ v7.ownBlock ≠ some r ∧ w0.heap.size ≤ r) (hT : TV S w7 u t) (hS : ∀ i, S i → w.heap.size ≤ i ∧ i < w7.heap.size ∧ v7.ownBlock ≠ some i ∧ i ≠ b ∧ i ≠ r) :
    WkS w0 w9 gw gr D l k7 v7 os7 ∧ Ch (Ex gw gr v) w w9 ∧ TV (fun i => w.heap.size ≤ i ∧ i < w9.heap.size ∧ v7.ownBlock ≠ some i) w9 u t := by
  have h8 := h7.inb hI1 eb.2.2.2 eb.1 eb.2.1 eb.2.2.1 nb
  have h9 := h8.inb hI2 er.2.2.2 er.1 er.2.1 er.2.2.1 nr
  have s1 := hI1.size
  have s2 := hI2.size
  refine ⟨h9, ?_, ?_⟩
  · exact (hC.trans (Ch.of_in (X := fun i => w.heap.size ≤ i) hI1 hb) (fun i hi q => by omega)).trans (Ch.of_in (X := fun i => w.heap.size ≤ i) hI2 hr) (fun i hi q => by omega)
  · have hk : Kp S w7 w9 := ⟨by omega, fun i hi => by
      have := hS i hi
      exact (hI2.block i (by omega) (by omega)).trans (hI1.block i (by omega) (by omega))⟩
    exact (hT.below hk).mono (fun i hi => by
      have := hS i hi
      exact ⟨this.1, by omega, this.2.2.1⟩)
theorem set_cell4 {w : World} {b : Nat} {t : TypeId} {f : Nat × Nat} {x0 x1 x2 x3 : Value} (h : w.heap[b]? = some (.cells #[x0, x1, x2, x3] t f)) (y : Value) : (w.setCell ⟨b, 1, none⟩ y).heap[b]? = some (.cells #[x0, y, x2, x3] t f) ∧ (w.setCell ⟨b, 2, none⟩ y).heap[b]? = some (.cells #[x0, x1, y, x3] t f) ∧ (w.setCell ⟨b, 3, none⟩ y).heap[b]? = some (.cells #[x0, x1, x2, y] t f) := by
  simp [World.setCell, Array.getElem?_modify, h]
theorem run_b {w0 w : World} {gw gr : Nat} {D : Int} {l : List UInt8} {k : Nat} {v : Value} {os : List Bool} {little : Bool} (h : WkS w0 w gw gr D l k v os) (hos : os.length ≤ k) (ty : TypeId) {wA : World} (hA : Below w.heap.size w wA) {q : Nat} (hq : wA.cell? ⟨q, 0, none⟩ = some (.bool little)) :
    ∃ va vc wB, (Builtin.append_ #[53, 53] ty #[v, .slice (some ⟨q, 0, none⟩) 1 1]).run Tryz.prog wA = .ok (.slice va (os.length + 1) vc) wB ∧ wB.cell? ⟨gw, 2, none⟩ = some v ∧ wB.frozen? ⟨gw, 2, none⟩ = false ∧ Hid (WkS w0 (wB.setCell ⟨gw, 2, none⟩ (.slice va (os.length + 1) vc)) gw gr D l k (.slice va (os.length + 1) vc) (os ++ [little]) ∧ Ch (Ex gw gr v) w (wB.setCell ⟨gw, 2, none⟩ (.slice va (os.length + 1) vc)) ∧ ((Value.slice va (os.length + 1) vc).ownBlock = v.ownBlock ∨ ∃ g, (Value.slice va (os.length + 1) vc).ownBlock = some g ∧ w.heap.size ≤ g)) ∧ (wB.cell? ⟨gw, 0, none⟩ = some (.pointer (some ⟨gr, 0, none⟩)) ∧ wB.cell? ⟨gw, 1, none⟩ = some (.int .i64 D)) ∧ Ch (Ex gw gr v) w wB := by
  have hle := h.rd.le
  have hs := h.bel.size
  have hsA := hA.size
  obtain ⟨v', wB, hr, h1, h2, h3⟩ := run_appB wA (q := q) (b := little) ((h.later hA).row) hq (by omega) (by omega) ty
  obtain ⟨va, vc, rfl, _⟩ := h1.slice
  have e : (os ++ [little]).length = os.length + 1 := by simp
  rw [e] at hr h1 h3
  have := h.app hA h2 h3 h1
  have hCB : Ch (Ex gw gr v) w wB := (Ch.of_below (X := Ex gw gr v) hA).trans (Ch.of_grown (X := Ex gw gr v) h2 (fun k e => Or.inr (Or.inr e))) (fun _ _ x => x)
  have hwB : S3 wB gw 123 (.pointer (some ⟨gr, 0, none⟩)) (.int .i64 D) v := by
    unfold S3
    rw [h2.block gw (by have := h.lts; omega) (fun e => h.obw e.symm)]
    exact (h.later hA).wk
  exact ⟨va, vc, wB, hr, this.2.2.2.1, this.2.2.2.2, ⟨this.1, this.2.1, this.2.2.1⟩, ⟨hwB.cells.1, hwB.cells.2.1⟩, hCB⟩
theorem step_appH {ops : Array Oper} {o : Oper} {a : Act} {w : World} {K : Act → World → Prop} {Q : Exit → Act → World → Prop} {E : Prop} (hgd : o.guard = none) (s x : Operand) (t : TypeId)
    (ho : o.op = .call { callee := .builtin .append, args := #[s, x], argTypes := #[t, t] }) (v u : Value) (hs : a.eval s = v) (hx : a.eval x = u) {v' : Value} {w' : World}
    (hr : (Builtin.append_ #[t, t] o.type #[v, u]).run Tryz.prog w = .ok v' w') (h : K (a.put o.dst v') w') : if Region.wanted o (yielded ops a.tmps) = true then Oper.wp Tryz.prog o a w K Q else E := by
  have hw : Region.wanted o (yielded ops a.tmps) = true := by simp [Region.wanted, hgd]
  rw [if_pos hw]
  unfold Oper.wp execOp
  simp only [ho, resolve, invoke, builtin, Sem.run_bind, Sem.run_pure, Result.andThen_ok, List.map_toArray, List.map_cons, List.map_nil, hs, hx, hr]
  exact h
theorem below_drew1 (w : World) : Below w.heap.size w w.drew := ⟨rfl, rfl, rfl, Nat.le_refl _, fun _ _ => rfl⟩
theorem step_b {ops : Array Oper} {o : Oper} {a : Act} {wA : World} {K : Act → World → Prop} {Q : Exit → Act → World → Prop} {E : Prop} (hgd : o.guard = none) (s x : Operand)
    (ho : o.op = .call { callee := .builtin .append, args := #[s, x], argTypes := #[53, 53] }) {w0 w : World} {gw gr : Nat} {D : Int} {l : List UInt8} {k : Nat} {v : Value} {os : List Bool} {little : Bool} (h : WkS w0 w gw gr D l k v os) (hos : os.length ≤ k) (hs : a.eval s = v) {q : Nat} (hx : a.eval x = .slice (some ⟨q, 0, none⟩) 1 1) (hA : Below w.heap.size w wA) (hq : wA.cell? ⟨q, 0, none⟩ = some (.bool little))
    (hh : ∀ va vc wB, wB.cell? ⟨gw, 2, none⟩ = some v → wB.frozen? ⟨gw, 2, none⟩ = false → Hid (WkS w0 (wB.setCell ⟨gw, 2, none⟩ (.slice va (os.length + 1) vc)) gw gr D l k (.slice va (os.length + 1) vc) (os ++ [little]) ∧ Ch (Ex gw gr v) w (wB.setCell ⟨gw, 2, none⟩ (.slice va (os.length + 1) vc)) ∧ ((Value.slice va (os.length + 1) vc).ownBlock = v.ownBlock ∨ ∃ g, (Value.slice va (os.length + 1) vc).ownBlock = some g ∧ w.heap.size ≤ g)) → Ch (Ex gw gr v) w wB → K (a.put o.dst (.slice va (os.length + 1) vc)) wB) : if Region.wanted o (yielded ops a.tmps) = true then Oper.wp Tryz.prog o a wA K Q else E := by
  obtain ⟨va, vc, wB, hr, h1, h2, h3, h4, h5⟩ := run_b (little := little) h hos o.type hA hq
  exact step_appH hgd s x 53 ho _ _ hs hx hr (hh va vc wB h1 h2 h3 h5)
theorem Pst.mono {α : Type} {w0 w W w' : World} {gw gr : Nat} {D : Int} {l : List UInt8} {v : Value} {os : List Bool} {r : Rs α} {val : α → Value} {e : Ending} (h : Pst w0 W gw gr D l v os r val e w') (hC : Ch (Ex gw gr v) w W) : Pst w0 w gw gr D l v os r val e w' := by
  unfold Pst at *
  cases r with
  | bad p c => exact h
  | ok x k' => exact ⟨h.1, h.2.1, hC.trans h.2.2 (fun _ _ x => x)⟩
set_option maxHeartbeats 6400000 in
set_option maxRecDepth 100000 in
theorem geom17 {w0 : World} {gw gr : Nat} {D : Int} {l : List UInt8} (hl : l.length ≤ 65536) (hE : ErrVar w0) (hD : D ≤ 256) : ∀ (n home lev : Nat), n = (D + 1 - (lev : Int)).toNat → lev ≤ 1000 → ∀ {w : World} {k : Nat} {v : Value} {os : List Bool}, WkS w0 w gw gr D l k v os → os.length ≤ k →
    Calls Tryz.prog 54 #[.pointer (some ⟨gw, 0, none⟩), .int .i64 (home : Int), .int .i64 (lev : Int)] w (Pge w0 w gw gr D l v os (geomS l n home k)) := by
  intro n
  induction n with
  | zero =>
    intro home lev hn hlev w k v os h hos
    have hlD : D < (lev : Int) := by omega
    have HN : Hid (0 = (D + 1 - (lev : Int)).toNat) := hn
    clear hn
    obtain ⟨B0, hB0⟩ : ∃ B, B = w.heap.size := ⟨_, rfl⟩
    have hold : ∀ b, w.heap.size ≤ b → b ≠ gr ∧ b ≠ gw ∧ v.ownBlock ≠ some b ∧ w0.heap.size ≤ b := fun b hb => h.old hb
    have hnx : ∀ b, w.heap.size ≤ b → ¬ Ex gw gr v b := fun b hb q => by
      have := hold b hb
      rcases q with q | q | q
      · exact this.1 q
      · exact this.2.1 q
      · exact this.2.2.1 q
    obtain ⟨W, hW0⟩ : ∃ W, W = ((w.alloc (.cells #[.pointer (some ⟨gw, 0, none⟩)] 164)).alloc (.cells #[.int .i64 (lev : Int)] 3)).alloc (.cells #[.int .i64 0, .slice none 0 0, .slice none 0 0, .slice none 0 0] 31) := ⟨_, rfl⟩
    have hbW : Below w.heap.size w W := by rw [hW0]; exact ((alloc_below _).alloc (by simp) _).alloc (by simp; omega) _
    have g1 : Bx W B0 164 (.pointer (some ⟨gw, 0, none⟩)) := by
      rw [hW0, hB0]
      exact ((Bx.new w _ _).later (alloc_below _)).later (alloc_below _)
    have g3 : Bx W (B0 + 1) 3 (.int .i64 (lev : Int)) := by
      rw [hW0, hB0]
      have := (Bx.new (w.alloc (.cells #[.pointer (some ⟨gw, 0, none⟩)] 164)) 3 (.int .i64 (lev : Int))).later (alloc_below (.cells #[.int .i64 0, .slice none 0 0, .slice none 0 0, .slice none 0 0] 31))
      simpa using this
    have gz : W.heap[B0 + 1 + 1]? = some (.cells #[.int .i64 0, .slice none 0 0, .slice none 0 0, .slice none 0 0] 31 (0, 0)) := by
      rw [hW0, hB0]
      have := heap_alloc_new ((w.alloc (.cells #[.pointer (some ⟨gw, 0, none⟩)] 164)).alloc (.cells #[.int .i64 (lev : Int)] 3)) (.cells #[.int .i64 0, .slice none 0 0, .slice none 0 0, .slice none 0 0] 31)
      simpa using this
    have hS := h.later hbW
    have HW : Hid (((w.alloc (.cells #[.pointer (some ⟨gw, 0, none⟩)] 164)).alloc (.cells #[.int .i64 (lev : Int)] 3)).alloc (.cells #[.int .i64 0, .slice none 0 0, .slice none 0 0, .slice none 0 0] 31) = W) := hW0.symm
    have HB0 : Hid (B0 = w.heap.size) := hB0
    have hx1 := hnx B0 (by omega)
    have hx3 := hnx (B0 + 1) (by omega)
    have hxz := hnx (B0 + 1 + 1) (by omega)
    have hA := at16_any hS.rd
    have hO := order17_any hS hE
    obtain ⟨c0, c1, c2⟩ := hS.wk.cells
    have d1 := g1.cell
    have HC : Hid (Ch (Ex gw gr v) w W) := Ch.of_below hbW
    have hgeom : geomS l 0 home k = (headS l home k).bind fun _ _ => .bad k 191 := rfl
    cases ho : ordS l k with
    | bad p c =>
      rw [ho] at hO
      have HR : Hid (geomS l 0 home k = .bad p c) := by show _ = _; rw [hgeom]; unfold headS; rw [ho]; rfl
      clear ho h hW0 hB0 hS hgeom
      go_enter Tryz.func54, Tryz.ntmps54
      go_upto_region 1 with (fail)
      rw [HW.out, ← HB0.out]
      go_wp2_with fail
      refine hA.mono ?_
      rintro e w2 ⟨rfl, rfl⟩
      clear hA c0 c1 c2
      go_wp2_with fail
      refine hO.mono ?_
      rintro e w3 ⟨hf, hb⟩
      rw [flw_of hf]
      clear hO
      go_wp2
      refine ⟨rfl, ?_⟩
      unfold Pge
      rw [HR.out]
      exact ⟨rfl, hb⟩
    | ok little k1 =>
      rw [ho] at hO
      have HG1 : Hid (geomS l 0 home k = (kindS l home k1 little).bind fun kind k2 => .bad k 191) := by
        show _ = _
        rw [hgeom]
        unfold headS
        rw [ho, bind_ok]
        cases kindS l home k1 little <;> rfl
      have hk1 : os.length ≤ k1 := by have := fwd_ord l k little k1 h.le ho; omega
      clear ho h hW0 hB0 hgeom
      go_enter Tryz.func54, Tryz.ntmps54
      go_upto_region 1 with (fail)
      rw [HW.out, ← HB0.out]
      go_wp2_with fail
      refine hA.mono ?_
      rintro e w2 ⟨rfl, rfl⟩
      clear hA c0 c1 c2 hS
      go_wp2_with fail
      refine hO.mono ?_
      rintro e w3 ⟨rfl, hS3, hC3⟩
      clear hO d1
      have g1a := g1.ch hC3 hx1
      have g3a := g3.ch hC3 hx3
      have gza := (hC3.block _ (lt_of_block gz) hxz).trans gz
      have HC3 : Hid (Ch (Ex gw gr v) w w3) := HC.out.trans hC3 (fun _ _ x => x)
      clear g1 g3 gz hC3 HC
      go_upto_region 3 with (fail)
      have hw3s : w.heap.size ≤ w3.heap.size := HC3.out.size
      obtain ⟨W3, hW3⟩ : ∃ W3, W3 = w3.alloc (.cells #[.bool little] 4) := ⟨_, rfl⟩
      have hb3 : Below w3.heap.size w3 W3 := by rw [hW3]; exact alloc_below _
      have g8 : Bx W3 w3.heap.size 4 (.bool little) := by rw [hW3]; exact Bx.new _ _ _
      rw [← hW3]
      obtain ⟨b8, hb8⟩ : ∃ b, b = w3.heap.size := ⟨_, rfl⟩
      rw [← hb8] at g8 ⊢
      have hx8 := hnx b8 (by omega)
      have HB8 : Hid (b8 = w3.heap.size) := hb8
      clear hb8
      have hS3a := hS3.later hb3
      have g1b := g1a.later hb3
      have g3b := g3a.later hb3
      have gzb := (hb3.block _ (lt_of_block gza)).trans gza
      have HC3a : Hid (Ch (Ex gw gr v) w W3) := HC3.out.trans (Ch.of_below (X := Ex gw gr v) hb3) (fun _ _ x => x)
      have hK := kind17_any hS3a hE home little
      have d1 := g1b.cell
      have d8 := g8.cell
      clear hW3 hb3 hS3 g1a g3a gza HC3 HW hbW
      cases hk : kindS l home k1 little with
      | bad p c =>
        rw [hk] at hK
        have HR : Hid (geomS l 0 home k = .bad p c) := by show _ = _; rw [HG1.out, hk]; rfl
        clear hk hS3a HG1 g1b g3b g8 gzb
        go_wp2_with fail
        refine hK.mono ?_
        rintro e w4 ⟨hf, hb⟩
        rw [flw_of hf]
        clear hK
        go_wp2
        refine ⟨rfl, ?_⟩
        unfold Pge
        rw [HR.out]
        exact ⟨rfl, hb⟩
      | ok kind k2 =>
        rw [hk] at hK
        have HG2 : Hid (geomS l 0 home k = .bad k 191) := by show _ = _; rw [HG1.out, hk]; rfl
        have hk2 : os.length + 1 ≤ k2 := by
          obtain ⟨y, jy, q3, q4⟩ := bind_inv (r := word l k1 4 little) hk
          have a := (word_ok q3).1
          split at q4
          · cases q4
          · split at q4
            · cases q4
            · injection q4 with q7 q8
              omega
        have hkk : 1 ≤ kind ∧ kind ≤ 7 := by
          obtain ⟨y, jy, q3, q4⟩ := bind_inv (r := word l k1 4 little) hk
          split at q4
          · cases q4
          · split at q4
            · cases q4
            · injection q4 with q7 q8
              omega
        clear hk HG1
        go_wp2_with fail
        refine hK.mono ?_
        rintro e w4 ⟨rfl, hS4, hC4⟩
        clear hK d1 d8 hS3a
        have g1c := g1b.ch hC4 hx1
        have g3c := g3b.ch hC4 hx3
        have g8c := g8.ch hC4 hx8
        have gzc := (hC4.block _ (lt_of_block gzb) hxz).trans gzb
        have HC4 : Hid (Ch (Ex gw gr v) w w4) := HC3a.out.trans hC4 (fun _ _ x => x)
        clear g1b g3b g8 gzb hC4 HC3a
        go_upto_region 4 with (fail)
        have hw4s : w.heap.size ≤ w4.heap.size := HC4.out.size
        obtain ⟨W4, hW4⟩ : ∃ W4, W4 = w4.alloc (.cells #[.int .i64 (kind : Int)] 3) := ⟨_, rfl⟩
        have hb4 : Below w4.heap.size w4 W4 := by rw [hW4]; exact alloc_below _
        have g9 : Bx W4 w4.heap.size 3 (.int .i64 (kind : Int)) := by rw [hW4]; exact Bx.new _ _ _
        rw [← hW4]
        obtain ⟨b9, hb9⟩ : ∃ b, b = w4.heap.size := ⟨_, rfl⟩
        rw [← hb9] at g9 ⊢
        have hx9 := hnx b9 (by omega)
        have HB9 : Hid (b9 = w4.heap.size) := hb9
        clear hb9
        have hS4a := hS4.later hb4
        have g1 := g1c.later hb4
        have g3 := g3c.later hb4
        have g8 := g8c.later hb4
        have gz := (hb4.block _ (lt_of_block gzc)).trans gzc
        have HC4a : Hid (Ch (Ex gw gr v) w W4) := HC4.out.trans (Ch.of_below (X := Ex gw gr v) hb4) (fun _ _ x => x)
        clear hW4 hb4 hS4 g1c g3c g8c gzc HC4
        obtain ⟨c0, c1, c2⟩ := hS4a.wk.cells
        have d1 := g1.cell
        have d3 := g3.cell
        have t1 : decide ((lev : Int) > D) = true := by simp; omega
        go_quiet (fail)
        have hbe := (hS4a.later (below_drewN (Below.refl _ W4) nq)).bel
        clear c0 c1 c2 d1 d3 g1 g3 g8 g9 gz hS4a HC4a
        go_wp2_with fail
        refine (giveUp_any k 191 _).mono ?_
        rintro e w5 ⟨hf, rfl⟩
        rw [flw_of hf]
        go_wp2
        refine ⟨rfl, ?_⟩
        unfold Pge
        rw [HG2.out]
        exact ⟨rfl, hbe⟩
  | succ n ih =>
  intro home lev hn hlev w k v os h hos
  have hlD : (lev : Int) ≤ D := by omega
  have HN : Hid (n + 1 = (D + 1 - (lev : Int)).toNat) := hn
  clear hn
  obtain ⟨B0, hB0⟩ : ∃ B, B = w.heap.size := ⟨_, rfl⟩
  have hold : ∀ b, w.heap.size ≤ b → b ≠ gr ∧ b ≠ gw ∧ v.ownBlock ≠ some b ∧ w0.heap.size ≤ b := fun b hb => h.old hb
  have hnx : ∀ b, w.heap.size ≤ b → ¬ Ex gw gr v b := fun b hb q => by
    have := hold b hb
    rcases q with q | q | q
    · exact this.1 q
    · exact this.2.1 q
    · exact this.2.2.1 q
  obtain ⟨W, hW0⟩ : ∃ W, W = ((w.alloc (.cells #[.pointer (some ⟨gw, 0, none⟩)] 164)).alloc (.cells #[.int .i64 (lev : Int)] 3)).alloc (.cells #[.int .i64 0, .slice none 0 0, .slice none 0 0, .slice none 0 0] 31) := ⟨_, rfl⟩
  have hbW : Below w.heap.size w W := by rw [hW0]; exact ((alloc_below _).alloc (by simp) _).alloc (by simp; omega) _
  have g1 : Bx W B0 164 (.pointer (some ⟨gw, 0, none⟩)) := by
    rw [hW0, hB0]
    exact ((Bx.new w _ _).later (alloc_below _)).later (alloc_below _)
  have g3 : Bx W (B0 + 1) 3 (.int .i64 (lev : Int)) := by
    rw [hW0, hB0]
    have := (Bx.new (w.alloc (.cells #[.pointer (some ⟨gw, 0, none⟩)] 164)) 3 (.int .i64 (lev : Int))).later (alloc_below (.cells #[.int .i64 0, .slice none 0 0, .slice none 0 0, .slice none 0 0] 31))
    simpa using this
  have gz : W.heap[B0 + 1 + 1]? = some (.cells #[.int .i64 0, .slice none 0 0, .slice none 0 0, .slice none 0 0] 31 (0, 0)) := by
    rw [hW0, hB0]
    have := heap_alloc_new ((w.alloc (.cells #[.pointer (some ⟨gw, 0, none⟩)] 164)).alloc (.cells #[.int .i64 (lev : Int)] 3)) (.cells #[.int .i64 0, .slice none 0 0, .slice none 0 0, .slice none 0 0] 31)
    simpa using this
  have hS := h.later hbW
  have HW : Hid (((w.alloc (.cells #[.pointer (some ⟨gw, 0, none⟩)] 164)).alloc (.cells #[.int .i64 (lev : Int)] 3)).alloc (.cells #[.int .i64 0, .slice none 0 0, .slice none 0 0, .slice none 0 0] 31) = W) := hW0.symm
  have HB0 : Hid (B0 = w.heap.size) := hB0
  have hx1 := hnx B0 (by omega)
  have hx3 := hnx (B0 + 1) (by omega)
  have hxz := hnx (B0 + 1 + 1) (by omega)
  have hA := at16_any hS.rd
  have hO := order17_any hS hE
  obtain ⟨c0, c1, c2⟩ := hS.wk.cells
  have d1 := g1.cell
  have HC : Hid (Ch (Ex gw gr v) w W) := Ch.of_below hbW
  have hgeom : geomS l (n + 1) home k = (headS l home k).bind fun h k1 => (bodyS l (geomS l n) h.1 h.2 k1).bind fun r k' => .ok (r.1, h.1 :: r.2) k' := rfl
  cases ho : ordS l k with
  | bad p c =>
    rw [ho] at hO
    have HR : Hid (geomS l (n + 1) home k = .bad p c) := by show _ = _; rw [hgeom]; unfold headS; rw [ho]; rfl
    clear ho h hW0 hB0 hS ih hgeom
    go_enter Tryz.func54, Tryz.ntmps54
    go_upto_region 1 with (fail)
    rw [HW.out, ← HB0.out]
    go_wp2_with fail
    refine hA.mono ?_
    rintro e w2 ⟨rfl, rfl⟩
    clear hA c0 c1 c2
    go_wp2_with fail
    refine hO.mono ?_
    rintro e w3 ⟨hf, hb⟩
    rw [flw_of hf]
    clear hO
    go_wp2
    refine ⟨rfl, ?_⟩
    unfold Pge
    rw [HR.out]
    exact ⟨rfl, hb⟩
  | ok little k1 =>
    rw [ho] at hO
    have HG1 : Hid (geomS l (n + 1) home k = (kindS l home k1 little).bind fun kind k2 => (bodyS l (geomS l n) little kind k2).bind fun r k' => .ok (r.1, little :: r.2) k') := by
      show _ = _
      rw [hgeom]
      unfold headS
      rw [ho, bind_ok]
      cases kindS l home k1 little <;> rfl
    have hk1 : os.length ≤ k1 := by have := fwd_ord l k little k1 h.le ho; omega
    clear ho h hW0 hB0 hgeom
    go_enter Tryz.func54, Tryz.ntmps54
    go_upto_region 1 with (fail)
    rw [HW.out, ← HB0.out]
    go_wp2_with fail
    refine hA.mono ?_
    rintro e w2 ⟨rfl, rfl⟩
    clear hA c0 c1 c2 hS
    go_wp2_with fail
    refine hO.mono ?_
    rintro e w3 ⟨rfl, hS3, hC3⟩
    clear hO d1
    have g1a := g1.ch hC3 hx1
    have g3a := g3.ch hC3 hx3
    have gza := (hC3.block _ (lt_of_block gz) hxz).trans gz
    have HC3 : Hid (Ch (Ex gw gr v) w w3) := HC.out.trans hC3 (fun _ _ x => x)
    clear g1 g3 gz hC3 HC
    go_upto_region 3 with (fail)
    have hw3s : w.heap.size ≤ w3.heap.size := HC3.out.size
    obtain ⟨W3, hW3⟩ : ∃ W3, W3 = w3.alloc (.cells #[.bool little] 4) := ⟨_, rfl⟩
    have hb3 : Below w3.heap.size w3 W3 := by rw [hW3]; exact alloc_below _
    have g8 : Bx W3 w3.heap.size 4 (.bool little) := by rw [hW3]; exact Bx.new _ _ _
    rw [← hW3]
    obtain ⟨b8, hb8⟩ : ∃ b, b = w3.heap.size := ⟨_, rfl⟩
    rw [← hb8] at g8 ⊢
    have hx8 := hnx b8 (by omega)
    have HB8 : Hid (b8 = w3.heap.size) := hb8
    clear hb8
    have hS3a := hS3.later hb3
    have g1b := g1a.later hb3
    have g3b := g3a.later hb3
    have gzb := (hb3.block _ (lt_of_block gza)).trans gza
    have HC3a : Hid (Ch (Ex gw gr v) w W3) := HC3.out.trans (Ch.of_below (X := Ex gw gr v) hb3) (fun _ _ x => x)
    have hK := kind17_any hS3a hE home little
    have d1 := g1b.cell
    have d8 := g8.cell
    clear hW3 hb3 hS3 g1a g3a gza HC3 HW hbW
    cases hk : kindS l home k1 little with
    | bad p c =>
      rw [hk] at hK
      have HR : Hid (geomS l (n + 1) home k = .bad p c) := by show _ = _; rw [HG1.out, hk]; rfl
      clear hk hS3a ih HG1 g1b g3b g8 gzb
      go_wp2_with fail
      refine hK.mono ?_
      rintro e w4 ⟨hf, hb⟩
      rw [flw_of hf]
      clear hK
      go_wp2
      refine ⟨rfl, ?_⟩
      unfold Pge
      rw [HR.out]
      exact ⟨rfl, hb⟩
    | ok kind k2 =>
      rw [hk] at hK
      have HG2 : Hid (geomS l (n + 1) home k = (bodyS l (geomS l n) little kind k2).bind fun r k' => .ok (r.1, little :: r.2) k') := by show _ = _; rw [HG1.out, hk]; rfl
      have hk2 : os.length + 1 ≤ k2 := by
        obtain ⟨y, jy, q3, q4⟩ := bind_inv (r := word l k1 4 little) hk
        have a := (word_ok q3).1
        split at q4
        · cases q4
        · split at q4
          · cases q4
          · injection q4 with q7 q8
            omega
      have hkk : 1 ≤ kind ∧ kind ≤ 7 := by
        obtain ⟨y, jy, q3, q4⟩ := bind_inv (r := word l k1 4 little) hk
        split at q4
        · cases q4
        · split at q4
          · cases q4
          · injection q4 with q7 q8
            omega
      clear hk HG1
      go_wp2_with fail
      refine hK.mono ?_
      rintro e w4 ⟨rfl, hS4, hC4⟩
      clear hK d1 d8 hS3a
      have g1c := g1b.ch hC4 hx1
      have g3c := g3b.ch hC4 hx3
      have g8c := g8.ch hC4 hx8
      have gzc := (hC4.block _ (lt_of_block gzb) hxz).trans gzb
      have HC4 : Hid (Ch (Ex gw gr v) w w4) := HC3a.out.trans hC4 (fun _ _ x => x)
      clear g1b g3b g8 gzb hC4 HC3a
      go_upto_region 4 with (fail)
      have hw4s : w.heap.size ≤ w4.heap.size := HC4.out.size
      obtain ⟨W4, hW4⟩ : ∃ W4, W4 = w4.alloc (.cells #[.int .i64 (kind : Int)] 3) := ⟨_, rfl⟩
      have hb4 : Below w4.heap.size w4 W4 := by rw [hW4]; exact alloc_below _
      have g9 : Bx W4 w4.heap.size 3 (.int .i64 (kind : Int)) := by rw [hW4]; exact Bx.new _ _ _
      rw [← hW4]
      obtain ⟨b9, hb9⟩ : ∃ b, b = w4.heap.size := ⟨_, rfl⟩
      rw [← hb9] at g9 ⊢
      have hx9 := hnx b9 (by omega)
      have HB9 : Hid (b9 = w4.heap.size) := hb9
      clear hb9
      have hS4a := hS4.later hb4
      have g1 := g1c.later hb4
      have g3 := g3c.later hb4
      have g8 := g8c.later hb4
      have gz := (hb4.block _ (lt_of_block gzc)).trans gzc
      have HC4a : Hid (Ch (Ex gw gr v) w W4) := HC4.out.trans (Ch.of_below (X := Ex gw gr v) hb4) (fun _ _ x => x)
      clear hW4 hb4 hS4 g1c g3c g8c gzc HC4
      obtain ⟨c0, c1, c2⟩ := hS4a.wk.cells
      have d1 := g1.cell
      have d3 := g3.cell
      have t1 : decide ((lev : Int) > D) = false := by simp; omega
      go_quiet (fail)
      obtain ⟨V, hV⟩ : ∃ V, V = W4.drewN nq := ⟨_, rfl⟩
      have hbV : Below W4.heap.size W4 V := by rw [hV]; exact below_drewN (Below.refl _ _) nq
      rw [← hV]
      clear hV c0 c1 c2 d1 d3
      have hSV := hS4a.later hbV
      have g1V := g1.later hbV
      have g3V := g3.later hbV
      have g8V := g8.later hbV
      have g9V := g9.later hbV
      have gzV := (hbV.block _ (lt_of_block gz)).trans gz
      have HCV : Hid (Ch (Ex gw gr v) w V) := HC4a.out.trans (Ch.of_below (X := Ex gw gr v) hbV) (fun _ _ x => x)
      clear hS4a g1 g3 g8 g9 gz HC4a hbV
      obtain ⟨va, vn, rfl, hva⟩ := hSV.row.slice
      obtain ⟨c0, c1, c2⟩ := hSV.wk.cells
      have z2 := hSV.wk.frozen 2
      have d1 := g1V.cell
      have d8 := g8V.cell
      have HSV : Hid (WkS w0 V gw gr D l k2 (.slice va os.length vn) os) := hSV
      have G1 : Hid (Bx V B0 164 (.pointer (some ⟨gw, 0, none⟩))) := g1V
      have G3 : Hid (Bx V (B0 + 1) 3 (.int .i64 (lev : Int))) := g3V
      have G8 : Hid (Bx V b8 4 (.bool little)) := g8V
      have G9 : Hid (Bx V b9 3 (.int .i64 (kind : Int))) := g9V
      have GZ : Hid (V.heap[B0 + 1 + 1]? = some (.cells #[.int .i64 0, .slice none 0 0, .slice none 0 0, .slice none 0 0] 31 (0, 0))) := gzV
      have hRB := fun (wA : World) (hA : Below V.heap.size V wA) (q : Nat) (hq : wA.cell? ⟨q, 0, none⟩ = some (.bool little)) => run_b (little := little) hSV (by omega) 53 hA hq
      clear hSV g1V g3V g8V g9V gzV
      have hVA : Below V.heap.size V (V.alloc (.cells #[.bool little] 4)) := alloc_below _
      have hVB : Below V.heap.size V (V.alloc (.cells #[.bool little] 4)).drew := ⟨hVA.os, hVA.tape, hVA.output, hVA.size, hVA.block⟩
      have hVC : Below V.heap.size V V.drew := ⟨rfl, rfl, rfl, Nat.le_refl _, fun _ _ => rfl⟩
      have q2 : (V.alloc (.cells #[.bool little] 4)).cell? ⟨gw, 2, none⟩ = some (.slice va os.length vn) := (hVA.cell (p := ⟨gw, 2, none⟩) (cell_lt c2)).trans c2
      have q1 : (V.alloc (.cells #[.bool little] 4)).cell? ⟨B0, 0, none⟩ = some (.pointer (some ⟨gw, 0, none⟩)) := (hVA.cell (p := ⟨B0, 0, none⟩) (cell_lt d1)).trans d1
      have q8 : (V.alloc (.cells #[.bool little] 4)).cell? ⟨b8, 0, none⟩ = some (.bool little) := (hVA.cell (p := ⟨b8, 0, none⟩) (cell_lt d8)).trans d8
      go_upto_region 6 with (fail)
      go_cut [] from 32 to 42 (fun wx => ∃ xa xc, Hid (WkS w0 wx gw gr D l k2 (.slice xa (os.length + 1) xc) (os ++ [little]) ∧ Ch (Ex gw gr (.slice va os.length vn)) V wx ∧ ((Value.slice xa (os.length + 1) xc).ownBlock = (Value.slice va os.length vn).ownBlock ∨ ∃ g, (Value.slice xa (os.length + 1) xc).ownBlock = some g ∧ V.heap.size ≤ g)))
      case first =>
        go_region_law (first | (refine step_b (by rfl) (.tmp 36) (.tmp 38) (by rfl) (little := little) HSV.out (by omega) (by rfl) (by rfl) (by first | exact hVB | exact hVA | exact hVC.alloc (by simp) _) (by simp) ?_; intro xa xc wB cB fB HB HCB; have y1 := (HCB.cell (p := ⟨B0, 0, none⟩) G1.out.lt hx1).trans G1.out.cell; have y8 := (HCB.cell (p := ⟨b8, 0, none⟩) G8.out.lt hx8).trans G8.out.cell))
        all_goals
          go_wp2_with fail
          go_meet
          exact ⟨xa, xc, HB⟩
      case rest =>
      obtain ⟨xa, xc, HX⟩ := hcut
      clear c0 c1 c2 z2 d1 d8 hRB hVA hVB hVC q1 q2 q8
      obtain ⟨L, hL⟩ : ∃ L, L = os.length + 1 := ⟨_, rfl⟩
      rw [← hL] at HX
      clear hL
      have hX := HX.out.1
      have hCX := HX.out.2.1
      have hOX := HX.out.2.2
      clear HX
      have hVs : w.heap.size ≤ V.heap.size := HCV.out.size
      have hnx1 : ∀ b, w.heap.size ≤ b → b < V.heap.size → ¬ Ex gw gr (.slice xa L xc) b := fun b h1 h2 q => hnx b h1 (ex_sub hOX b h2 q)
      have g1 := G1.out.ch hCX hx1
      have g3 := G3.out.ch hCX hx3
      have g8 := G8.out.ch hCX hx8
      have g9 := G9.out.ch hCX hx9
      have gz := (hCX.block _ (lt_of_block GZ.out) hxz).trans GZ.out
      have y1 := hnx1 B0 (by rw [← HB0.out]; exact Nat.le_refl _) G1.out.lt
      have y3 := hnx1 (B0 + 1) (by rw [← HB0.out]; omega) G3.out.lt
      have y8 := hnx1 b8 (by rw [HB8.out]; omega) G8.out.lt
      have y9 := hnx1 b9 (by rw [HB9.out]; omega) G9.out.lt
      have yz := hnx1 (B0 + 1 + 1) (by rw [← HB0.out]; omega) (lt_of_block GZ.out)
      have HCX : Hid (Ch (Ex gw gr (.slice va os.length vn)) w wc) := HCV.out.trans hCX (fun _ _ x => x)
      have hcs : V.heap.size ≤ wc.heap.size := hCX.size
      have HOX : Hid ((Value.slice xa L xc).ownBlock = (Value.slice va os.length vn).ownBlock ∨ ∃ g, (Value.slice xa L xc).ownBlock = some g ∧ w.heap.size ≤ g) := by
        rcases hOX with q | ⟨g, q, hg⟩
        · exact Or.inl q
        · exact Or.inr ⟨g, q, by omega⟩
      clear G1 G3 G8 G9 GZ hCX hOX HSV HCV hx1 hx3 hx8 hx9 hxz
      have d9 := g9.cell
      go_upto_region 8 with (fail)
      obtain ⟨W6, hW6⟩ : ∃ W6, W6 = wc.alloc (.cells #[.int .i64 (kind : Int), .slice none 0 0, .slice none 0 0, .slice none 0 0] 31) := ⟨_, rfl⟩
      have hb6 : Below wc.heap.size wc W6 := by rw [hW6]; exact alloc_below _
      have gA : W6.heap[wc.heap.size]? = some (.cells #[.int .i64 (kind : Int), .slice none 0 0, .slice none 0 0, .slice none 0 0] 31 (0, 0)) := by rw [hW6]; exact heap_alloc_new _ _
      rw [← hW6]
      obtain ⟨bA, hbA⟩ : ∃ b, b = wc.heap.size := ⟨_, rfl⟩
      rw [← hbA] at gA ⊢
      have HBA : Hid (bA = wc.heap.size) := hbA
      have eA := hX.old (b := bA) (by omega)
      have yA : ¬ Ex gw gr (.slice xa L xc) bA := fun q => by
        rcases q with q | q | q
        · exact eA.1 q
        · exact eA.2.1 q
        · exact eA.2.2.1 q
      have hS6 := hX.later hb6
      have G1 : Hid (Bx W6 B0 164 (.pointer (some ⟨gw, 0, none⟩))) := g1.later hb6
      have G3 : Hid (Bx W6 (B0 + 1) 3 (.int .i64 (lev : Int))) := g3.later hb6
      have G8 : Hid (Bx W6 b8 4 (.bool little)) := g8.later hb6
      have G9 : Hid (Bx W6 b9 3 (.int .i64 (kind : Int))) := g9.later hb6
      have GZ : Hid (W6.heap[B0 + 1 + 1]? = some (.cells #[.int .i64 0, .slice none 0 0, .slice none 0 0, .slice none 0 0] 31 (0, 0))) := (hb6.block _ (lt_of_block gz)).trans gz
      have GA : Hid (W6.heap[bA]? = some (.cells #[.int .i64 (kind : Int), .slice none 0 0, .slice none 0 0, .slice none 0 0] 31 (0, 0))) := gA
      have HC6 : Hid (Ch (Ex gw gr (.slice va os.length vn)) w W6) := HCX.out.trans (Ch.of_below (X := Ex gw gr (.slice va os.length vn)) hb6) (fun _ _ x => x)
      have EZ : Hid (B0 + 1 + 1 ≠ gr ∧ B0 + 1 + 1 ≠ gw ∧ w0.heap.size ≤ B0 + 1 + 1) := by
        have := hold (B0 + 1 + 1) (by rw [← HB0.out]; omega)
        exact ⟨this.1, this.2.1, this.2.2.2⟩
      have EA : Hid (bA ≠ gr ∧ bA ≠ gw ∧ w0.heap.size ≤ bA) := ⟨eA.1, eA.2.1, eA.2.2.2⟩
      have NE : Hid (bA ≠ B0 + 1 + 1 ∧ w.heap.size ≤ bA ∧ w.heap.size ≤ B0 + 1 + 1 ∧ bA < W6.heap.size ∧ B0 + 1 + 1 < W6.heap.size) := ⟨by have := lt_of_block gz; omega, by omega, by rw [← HB0.out]; omega, lt_of_block gA, lt_of_block GZ.out⟩
      have d1 := G1.out.cell
      have d8 := G8.out.cell
      have d9 := G9.out.cell
      have HG : Hid (geomS l (n + 1) home k = (bodyS l (geomS l n) little kind k2).bind fun r k' => .ok (r.1, little :: r.2) k') := HG2.out
      have HX6 : Hid (WkS w0 W6 gw gr D l k2 (.slice xa L xc) (os ++ [little])) := hS6
      have hk3 : (os ++ [little]).length ≤ k2 := by rw [List.length_append]; exact hk2
      clear g1 g3 g8 g9 gz gA hX hb6 hbA hW6 HCX HG2 hnx1 hw3s hw4s HB8 HB9 hVs hcs t1
      by_cases e1 : kind = 1
      · subst e1
        have hP := spot17_any hS6 hE little
        clear hS6 ih
        cases hr : spotS l k2 little with
        | bad p c =>
          rw [hr] at hP
          have HR : Hid (geomS l (n + 1) home k = .bad p c) := by show _ = _; rw [HG.out]; simp only [bodyS, if_pos]; rw [hr]; rfl
          clear hr
          go_wp2_with fail
          refine hP.mono ?_
          rintro e w7 ⟨hf, hb⟩
          rw [flw_of hf]
          clear hP
          go_wp2
          refine ⟨rfl, ?_⟩
          unfold Pge
          rw [HR.out]
          exact ⟨rfl, hb⟩
        | ok ps k7 =>
          rw [hr] at hP
          have HR : Hid (geomS l (n + 1) home k = .ok ((⟨1, ps, []⟩, .nil), [little]) k7) := by show _ = _; rw [HG.out]; simp only [bodyS, if_pos]; rw [hr]; rfl
          have HP9 : Hid (ps.length ≤ 1048576) := by
            show _ ≤ _
            obtain ⟨q, j, q1, q2⟩ := bind_inv (r := patsS l k2 little) hr
            split at q2
            · injection q2 with q3 q4; subst q3; simp
            · obtain ⟨q', j', q3, q4⟩ := bind_inv q2
              injection q4 with q5 q6; subst q5; simp
          clear hr
          go_wp2_with fail
          refine hP.mono ?_
          rintro e w7 ⟨u, rfl, hS7, hC7, hP7, ua, uc, hu, _⟩
          clear hP d1 d8 d9
          have hT : TV (fun i => W6.heap.size ≤ i ∧ i < w7.heap.size) w7 (.agg #[.int .i64 1, u, .slice none 0 0, .slice none 0 0]) (⟨1, ps, []⟩, .nil) := tv_of (t := (⟨1, ps, []⟩, .nil)) ⟨by simp, by simp⟩ (hP7 HP9.out) ⟨by simp, none, 0, rfl, fun i q hq => by cases hq⟩ ⟨by simp [Fo.len], by simp [Fo.len]⟩ trivial
          have gA7 : w7.heap[bA]? = some (.cells #[.int .i64 1, .slice none 0 0, .slice none 0 0, .slice none 0 0] 31 (0, 0)) := (hC7.block _ (lt_of_block GA.out) yA).trans GA.out
          have gz7 : w7.heap[B0 + 1 + 1]? = some (.cells #[.int .i64 0, .slice none 0 0, .slice none 0 0, .slice none 0 0] 31 (0, 0)) := (hC7.block _ (lt_of_block GZ.out) yz).trans GZ.out
          obtain ⟨Q, hQ⟩ : ∃ Q, .slice ua Q uc = u := ⟨_, hu.symm⟩
          subst hQ
          clear hu
          have HT : Hid (TV _ w7 _ _) := hT
          have HS7 : Hid (WkS w0 w7 gw gr D l k7 (.slice xa L xc) _) := hS7
          have HC7 : Hid (Ch (Ex gw gr (.slice xa L xc)) W6 w7) := hC7
          have HGA : Hid (w7.heap[bA]? = some (.cells #[.int .i64 1, .slice none 0 0, .slice none 0 0, .slice none 0 0] 31 (0, 0))) := gA7
          have HGZ : Hid (w7.heap[B0 + 1 + 1]? = some (.cells #[.int .i64 0, .slice none 0 0, .slice none 0 0, .slice none 0 0] 31 (0, 0))) := gz7
          have a0 := cell_of gA7 0
          have a1 := cell_of gA7 1
          have a2 := cell_of gA7 2
          have a3 := cell_of gA7 3
          simp only [List.getElem?_toArray, List.getElem?_cons_zero, List.getElem?_cons_succ] at a0 a1 a2 a3
          have f1 : w7.frozen? ⟨bA, 1, none⟩ = false := by simp [World.frozen?, gA7]
          clear hT hS7 hC7 gA7 gz7 hP7
          go_upto_region 18 with (fail)
          obtain ⟨w8, hw8⟩ : ∃ w8, w8 = w7.setCell ⟨bA, 1, none⟩ (.slice ua Q uc) := ⟨_, rfl⟩
          rw [← hw8]
          have hI1 : In bA (bA + 1) w7 w8 := by rw [hw8]; exact (In.refl _ _ _).set1 1 _
          have gA8 : w8.heap[bA]? = some (.cells #[.int .i64 1, (.slice ua Q uc), .slice none 0 0, .slice none 0 0] 31 (0, 0)) := by rw [hw8]; exact (set_cell4 HGA.out (.slice ua Q uc)).1
          have gz8 : w8.heap[B0 + 1 + 1]? = some (.cells #[.int .i64 0, .slice none 0 0, .slice none 0 0, .slice none 0 0] 31 (0, 0)) := (hI1.block _ (lt_of_block HGZ.out) (by have := NE.out.1; omega)).trans HGZ.out
          clear hw8 a0 a1 a2 a3 f1
          have a0 := cell_of gA8 0
          have a1 := cell_of gA8 1
          have a2 := cell_of gA8 2
          have a3 := cell_of gA8 3
          have b0 := cell_of gz8 0
          have b1 := cell_of gz8 1
          have b2 := cell_of gz8 2
          have b3 := cell_of gz8 3
          simp only [List.getElem?_toArray, List.getElem?_cons_zero, List.getElem?_cons_succ] at a0 a1 a2 a3 b0 b1 b2 b3
          have f0 : w8.frozen? ⟨B0 + 1 + 1, 0, none⟩ = false := by simp [World.frozen?, gz8]
          have f1 : w8.frozen? ⟨B0 + 1 + 1, 1, none⟩ = false := by simp [World.frozen?, gz8]
          have f2 : w8.frozen? ⟨B0 + 1 + 1, 2, none⟩ = false := by simp [World.frozen?, gz8]
          have f3 : w8.frozen? ⟨B0 + 1 + 1, 3, none⟩ = false := by simp [World.frozen?, gz8]
          have HZ8 : Hid (w8.heap[B0 + 1 + 1]? = some (.cells #[.int .i64 0, .slice none 0 0, .slice none 0 0, .slice none 0 0] 31 (0, 0))) := gz8
          clear gA8 gz8
          go_wp2
          have hF := set4_block HZ8.out (.int .i64 1) ((.slice ua Q uc)) (.slice none 0 0) (.slice none 0 0)
          have r0 := cell_of hF 0
          have r1 := cell_of hF 1
          have r2 := cell_of hF 2
          have r3 := cell_of hF 3
          simp only [List.getElem?_toArray, List.getElem?_cons_zero, List.getElem?_cons_succ] at r0 r1 r2 r3
          refine bodyPost_ret (v := .agg #[.int .i64 1, (.slice ua Q uc), .slice none 0 0, .slice none 0 0]) (by simp [results, Tryz.results54, go_sem, r0, r1, r2, r3]) rfl ?_
          have hI2 : In (B0 + 1 + 1) (B0 + 1 + 1 + 1) w8 ((((w8.setCell ⟨B0 + 1 + 1, 0, none⟩ (.int .i64 1)).setCell ⟨B0 + 1 + 1, 1, none⟩ ((.slice ua Q uc))).setCell ⟨B0 + 1 + 1, 2, none⟩ (.slice none 0 0)).setCell ⟨B0 + 1 + 1, 3, none⟩ (.slice none 0 0)) := ((((In.refl _ _ _).set1 0 _).set1 1 _).set1 2 _).set1 3 _
          have hne := NE.out
          have hsz7 := HC7.out.size
          have hz6 := HC6.out.size
          have hCw : Ch (Ex gw gr (.slice va os.length vn)) w w7 := HC6.out.trans HC7.out (fun i hi => ex_sub HOX.out i hi)
          have hvA : Value.ownBlock (.slice xa L xc) ≠ some bA := fun e => yA (Or.inr (Or.inr e))
          have hvZ : Value.ownBlock (.slice xa L xc) ≠ some (B0 + 1 + 1) := fun e => yz (Or.inr (Or.inr e))
          have hfin := fin_ge HS7.out hCw hI1 hI2 hne.2.1 hne.2.2.1 (NoB.four HGA.out (by simp [NB8]) (by simp [NB8]) (by simp [NB8]) (by simp [NB8])) (NoB.four HZ8.out (by simp [NB8]) (by simp [NB8]) (by simp [NB8]) (by simp [NB8])) ⟨EA.out.1, EA.out.2.1, hvA, EA.out.2.2⟩ ⟨EZ.out.1, EZ.out.2.1, hvZ, EZ.out.2.2⟩ HT.out (fun i hi => by
            have q1 := hi.1
            exact ⟨by omega, hi.2, fun e => by have := (HX6.out.row.blk e).2.1; omega, by omega, by omega⟩)
          unfold Pge
          rw [HR.out]
          exact ⟨_, (.slice xa L xc), rfl, hfin.1, hfin.2.1, HOX.out, hfin.2.2⟩
      · by_cases e2 : kind = 2
        · subst e2
          have hP := line17_any hS6 hE hl little
          clear hS6 ih e1
          cases hr : lineS l k2 little with
          | bad p c =>
            rw [hr] at hP
            have HR : Hid (geomS l (n + 1) home k = .bad p c) := by show _ = _; rw [HG.out]; show ((lineS l k2 little).bind _).bind _ = _; rw [hr]; rfl
            clear hr
            go_wp2_with fail
            refine hP.mono ?_
            rintro e w7 ⟨hf, hb⟩
            rw [flw_of hf]
            clear hP
            go_wp2
            refine ⟨rfl, ?_⟩
            unfold Pge
            rw [HR.out]
            exact ⟨rfl, hb⟩
          | ok ps k7 =>
            rw [hr] at hP
            have HR : Hid (geomS l (n + 1) home k = .ok ((⟨2, ps, []⟩, .nil), [little]) k7) := by show _ = _; rw [HG.out]; show ((lineS l k2 little).bind _).bind _ = _; rw [hr]; rfl
            have HP9 : Hid (ps.length ≤ 1048576) := line_len hl hr
            clear hr
            go_wp2_with fail
            refine hP.mono ?_
            rintro e w7 ⟨u, rfl, hS7, hC7, hP7, ua, uc, hu, _⟩
            clear hP d1 d8 d9
            have hT : TV (fun i => W6.heap.size ≤ i ∧ i < w7.heap.size) w7 (.agg #[.int .i64 2, u, .slice none 0 0, .slice none 0 0]) (⟨2, ps, []⟩, .nil) := tv_of (t := (⟨2, ps, []⟩, .nil)) ⟨by simp, by simp⟩ (hP7 HP9.out) ⟨by simp, none, 0, rfl, fun i q hq => by cases hq⟩ ⟨by simp [Fo.len], by simp [Fo.len]⟩ trivial
            have gA7 : w7.heap[bA]? = some (.cells #[.int .i64 2, .slice none 0 0, .slice none 0 0, .slice none 0 0] 31 (0, 0)) := (hC7.block _ (lt_of_block GA.out) yA).trans GA.out
            have gz7 : w7.heap[B0 + 1 + 1]? = some (.cells #[.int .i64 0, .slice none 0 0, .slice none 0 0, .slice none 0 0] 31 (0, 0)) := (hC7.block _ (lt_of_block GZ.out) yz).trans GZ.out
            obtain ⟨Q, hQ⟩ : ∃ Q, .slice ua Q uc = u := ⟨_, hu.symm⟩
            subst hQ
            clear hu
            have HT : Hid (TV _ w7 _ _) := hT
            have HS7 : Hid (WkS w0 w7 gw gr D l k7 (.slice xa L xc) _) := hS7
            have HC7 : Hid (Ch (Ex gw gr (.slice xa L xc)) W6 w7) := hC7
            have HGA : Hid (w7.heap[bA]? = some (.cells #[.int .i64 2, .slice none 0 0, .slice none 0 0, .slice none 0 0] 31 (0, 0))) := gA7
            have HGZ : Hid (w7.heap[B0 + 1 + 1]? = some (.cells #[.int .i64 0, .slice none 0 0, .slice none 0 0, .slice none 0 0] 31 (0, 0))) := gz7
            have a0 := cell_of gA7 0
            have a1 := cell_of gA7 1
            have a2 := cell_of gA7 2
            have a3 := cell_of gA7 3
            simp only [List.getElem?_toArray, List.getElem?_cons_zero, List.getElem?_cons_succ] at a0 a1 a2 a3
            have f1 : w7.frozen? ⟨bA, 1, none⟩ = false := by simp [World.frozen?, gA7]
            clear hT hS7 hC7 gA7 gz7 hP7
            go_upto_region 18 with (fail)
            obtain ⟨w8, hw8⟩ : ∃ w8, w8 = w7.setCell ⟨bA, 1, none⟩ (.slice ua Q uc) := ⟨_, rfl⟩
            rw [← hw8]
            have hI1 : In bA (bA + 1) w7 w8 := by rw [hw8]; exact (In.refl _ _ _).set1 1 _
            have gA8 : w8.heap[bA]? = some (.cells #[.int .i64 2, (.slice ua Q uc), .slice none 0 0, .slice none 0 0] 31 (0, 0)) := by rw [hw8]; exact (set_cell4 HGA.out (.slice ua Q uc)).1
            have gz8 : w8.heap[B0 + 1 + 1]? = some (.cells #[.int .i64 0, .slice none 0 0, .slice none 0 0, .slice none 0 0] 31 (0, 0)) := (hI1.block _ (lt_of_block HGZ.out) (by have := NE.out.1; omega)).trans HGZ.out
            clear hw8 a0 a1 a2 a3 f1
            have a0 := cell_of gA8 0
            have a1 := cell_of gA8 1
            have a2 := cell_of gA8 2
            have a3 := cell_of gA8 3
            have b0 := cell_of gz8 0
            have b1 := cell_of gz8 1
            have b2 := cell_of gz8 2
            have b3 := cell_of gz8 3
            simp only [List.getElem?_toArray, List.getElem?_cons_zero, List.getElem?_cons_succ] at a0 a1 a2 a3 b0 b1 b2 b3
            have f0 : w8.frozen? ⟨B0 + 1 + 1, 0, none⟩ = false := by simp [World.frozen?, gz8]
            have f1 : w8.frozen? ⟨B0 + 1 + 1, 1, none⟩ = false := by simp [World.frozen?, gz8]
            have f2 : w8.frozen? ⟨B0 + 1 + 1, 2, none⟩ = false := by simp [World.frozen?, gz8]
            have f3 : w8.frozen? ⟨B0 + 1 + 1, 3, none⟩ = false := by simp [World.frozen?, gz8]
            have HZ8 : Hid (w8.heap[B0 + 1 + 1]? = some (.cells #[.int .i64 0, .slice none 0 0, .slice none 0 0, .slice none 0 0] 31 (0, 0))) := gz8
            clear gA8 gz8
            go_wp2
            have hF := set4_block HZ8.out (.int .i64 2) ((.slice ua Q uc)) (.slice none 0 0) (.slice none 0 0)
            have r0 := cell_of hF 0
            have r1 := cell_of hF 1
            have r2 := cell_of hF 2
            have r3 := cell_of hF 3
            simp only [List.getElem?_toArray, List.getElem?_cons_zero, List.getElem?_cons_succ] at r0 r1 r2 r3
            refine bodyPost_ret (v := .agg #[.int .i64 2, (.slice ua Q uc), .slice none 0 0, .slice none 0 0]) (by simp [results, Tryz.results54, go_sem, r0, r1, r2, r3]) rfl ?_
            have hI2 : In (B0 + 1 + 1) (B0 + 1 + 1 + 1) w8 ((((w8.setCell ⟨B0 + 1 + 1, 0, none⟩ (.int .i64 2)).setCell ⟨B0 + 1 + 1, 1, none⟩ ((.slice ua Q uc))).setCell ⟨B0 + 1 + 1, 2, none⟩ (.slice none 0 0)).setCell ⟨B0 + 1 + 1, 3, none⟩ (.slice none 0 0)) := ((((In.refl _ _ _).set1 0 _).set1 1 _).set1 2 _).set1 3 _
            have hne := NE.out
            have hsz7 := HC7.out.size
            have hz6 := HC6.out.size
            have hCw : Ch (Ex gw gr (.slice va os.length vn)) w w7 := HC6.out.trans HC7.out (fun i hi => ex_sub HOX.out i hi)
            have hvA : Value.ownBlock (.slice xa L xc) ≠ some bA := fun e => yA (Or.inr (Or.inr e))
            have hvZ : Value.ownBlock (.slice xa L xc) ≠ some (B0 + 1 + 1) := fun e => yz (Or.inr (Or.inr e))
            have hfin := fin_ge HS7.out hCw hI1 hI2 hne.2.1 hne.2.2.1 (NoB.four HGA.out (by simp [NB8]) (by simp [NB8]) (by simp [NB8]) (by simp [NB8])) (NoB.four HZ8.out (by simp [NB8]) (by simp [NB8]) (by simp [NB8]) (by simp [NB8])) ⟨EA.out.1, EA.out.2.1, hvA, EA.out.2.2⟩ ⟨EZ.out.1, EZ.out.2.1, hvZ, EZ.out.2.2⟩ HT.out (fun i hi => by
              have q1 := hi.1
              exact ⟨by omega, hi.2, fun e => by have := (HX6.out.row.blk e).2.1; omega, by omega, by omega⟩)
            unfold Pge
            rw [HR.out]
            exact ⟨_, (.slice xa L xc), rfl, hfin.1, hfin.2.1, HOX.out, hfin.2.2⟩
        · by_cases e3 : kind = 3
          · subst e3
            have hCt := count17_any hS6 hE 20 (by decide) little
            clear ih e1 e2
            cases hc : countS l 20 k2 little with
            | bad p c =>
              rw [hc] at hCt
              have HR : Hid (geomS l (n + 1) home k = .bad p c) := by show _ = _; rw [HG.out]; show ((countS l 20 k2 little).bind _).bind _ = _; rw [hc]; rfl
              clear hc hS6
              go_wp2_with fail
              refine hCt.mono ?_
              rintro e w7 ⟨hf, hb⟩
              rw [flw_of hf]
              clear hCt
              go_wp2
              refine ⟨rfl, ?_⟩
              unfold Pge
              rw [HR.out]
              exact ⟨rfl, hb⟩
            | ok N k3 =>
              rw [hc] at hCt
              have HGc : Hid (geomS l (n + 1) home k = ((many (fun j => ringS l j little) N k3).bind fun rs k' => Rs.ok (((⟨3, [], rs⟩, .nil) : Tree), ([] : List Bool)) k').bind fun r k' => .ok (r.1, little :: r.2) k') := by show _ = _; rw [HG.out]; show ((countS l 20 k2 little).bind _).bind _ = _; rw [hc]; rfl
              have hcn := count_ok hc
              have hN9 : N ≤ 100000 := by omega
              clear hc hcn HG hS6
              go_wp2_with fail
              refine hCt.mono ?_
              rintro e wk ⟨rfl, hSk, hCk⟩
              clear hCt d1 d8 d9
              have hM := members_rg hSk hE hl (G1.out.ch hCk y1) (G8.out.ch hCk y8) y1 y8 hN9
              clear hSk
              cases hr : many (fun j => ringS l j little) N k3 with
              | bad p c =>
                rw [hr] at hM
                have HR : Hid (geomS l (n + 1) home k = .bad p c) := by show _ = _; rw [HGc.out, hr]; rfl
                clear hr
                go_wp2_with fail
                refine hM.mono ?_
                rintro e w7 ⟨hf, hb⟩
                rw [flw_of hf]
                clear hM
                go_wp2
                refine ⟨rfl, ?_⟩
                unfold Pge
                rw [HR.out]
                exact ⟨rfl, hb⟩
              | ok rs k7 =>
                rw [hr] at hM
                have HR : Hid (geomS l (n + 1) home k = .ok ((⟨3, [], rs⟩, .nil), [little]) k7) := by show _ = _; rw [HGc.out, hr]; rfl
                have HP9 : Hid (rs.length ≤ 1048576) := by show _ ≤ _; have := many_len hr; omega
                clear hr
                go_wp2_with fail
                refine hM.mono ?_
                rintro e w7 ⟨u, rfl, hS7, hC7a, hP7⟩
                clear hM
                obtain ⟨ua, uc, hu⟩ := (hP7 HP9.out).slc
                have hC7 : Ch (Ex gw gr (.slice xa L xc)) W6 w7 := hCk.trans hC7a (fun _ _ x => x)
                have hks := hCk.size
                have hT : TV (fun i => W6.heap.size ≤ i ∧ i < w7.heap.size) w7 (.agg #[.int .i64 3, .slice none 0 0, u, .slice none 0 0]) (⟨3, [], rs⟩, .nil) := tv_of (t := (⟨3, [], rs⟩, .nil)) ⟨by simp, by simp⟩ ⟨by simp, none, 0, rfl, fun i q hq => by cases hq⟩ ((hP7 HP9.out).mono (fun i hi => ⟨by have := hi.1; omega, hi.2⟩)) ⟨by simp [Fo.len], by simp [Fo.len]⟩ trivial
                clear hC7a hCk
                have gA7 : w7.heap[bA]? = some (.cells #[.int .i64 3, .slice none 0 0, .slice none 0 0, .slice none 0 0] 31 (0, 0)) := (hC7.block _ (lt_of_block GA.out) yA).trans GA.out
                have gz7 : w7.heap[B0 + 1 + 1]? = some (.cells #[.int .i64 0, .slice none 0 0, .slice none 0 0, .slice none 0 0] 31 (0, 0)) := (hC7.block _ (lt_of_block GZ.out) yz).trans GZ.out
                obtain ⟨Q, hQ⟩ : ∃ Q, .slice ua Q uc = u := ⟨_, hu.symm⟩
                subst hQ
                clear hu
                have HT : Hid (TV _ w7 _ _) := hT
                have HS7 : Hid (WkS w0 w7 gw gr D l k7 (.slice xa L xc) _) := hS7
                have HC7 : Hid (Ch (Ex gw gr (.slice xa L xc)) W6 w7) := hC7
                have HGA : Hid (w7.heap[bA]? = some (.cells #[.int .i64 3, .slice none 0 0, .slice none 0 0, .slice none 0 0] 31 (0, 0))) := gA7
                have HGZ : Hid (w7.heap[B0 + 1 + 1]? = some (.cells #[.int .i64 0, .slice none 0 0, .slice none 0 0, .slice none 0 0] 31 (0, 0))) := gz7
                have a0 := cell_of gA7 0
                have a1 := cell_of gA7 1
                have a2 := cell_of gA7 2
                have a3 := cell_of gA7 3
                simp only [List.getElem?_toArray, List.getElem?_cons_zero, List.getElem?_cons_succ] at a0 a1 a2 a3
                have f2 : w7.frozen? ⟨bA, 2, none⟩ = false := by simp [World.frozen?, gA7]
                clear hT hS7 hC7 gA7 gz7 hP7
                go_upto_region 18 with (fail)
                obtain ⟨w8, hw8⟩ : ∃ w8, w8 = w7.setCell ⟨bA, 2, none⟩ (.slice ua Q uc) := ⟨_, rfl⟩
                rw [← hw8]
                have hI1 : In bA (bA + 1) w7 w8 := by rw [hw8]; exact (In.refl _ _ _).set1 2 _
                have gA8 : w8.heap[bA]? = some (.cells #[.int .i64 3, .slice none 0 0, (.slice ua Q uc), .slice none 0 0] 31 (0, 0)) := by rw [hw8]; exact (set_cell4 HGA.out (.slice ua Q uc)).2.1
                have gz8 : w8.heap[B0 + 1 + 1]? = some (.cells #[.int .i64 0, .slice none 0 0, .slice none 0 0, .slice none 0 0] 31 (0, 0)) := (hI1.block _ (lt_of_block HGZ.out) (by have := NE.out.1; omega)).trans HGZ.out
                clear hw8 a0 a1 a2 a3 f2
                have a0 := cell_of gA8 0
                have a1 := cell_of gA8 1
                have a2 := cell_of gA8 2
                have a3 := cell_of gA8 3
                have b0 := cell_of gz8 0
                have b1 := cell_of gz8 1
                have b2 := cell_of gz8 2
                have b3 := cell_of gz8 3
                simp only [List.getElem?_toArray, List.getElem?_cons_zero, List.getElem?_cons_succ] at a0 a1 a2 a3 b0 b1 b2 b3
                have f0 : w8.frozen? ⟨B0 + 1 + 1, 0, none⟩ = false := by simp [World.frozen?, gz8]
                have f1 : w8.frozen? ⟨B0 + 1 + 1, 1, none⟩ = false := by simp [World.frozen?, gz8]
                have f2 : w8.frozen? ⟨B0 + 1 + 1, 2, none⟩ = false := by simp [World.frozen?, gz8]
                have f3 : w8.frozen? ⟨B0 + 1 + 1, 3, none⟩ = false := by simp [World.frozen?, gz8]
                have HZ8 : Hid (w8.heap[B0 + 1 + 1]? = some (.cells #[.int .i64 0, .slice none 0 0, .slice none 0 0, .slice none 0 0] 31 (0, 0))) := gz8
                clear gA8 gz8
                go_wp2
                have hF := set4_block HZ8.out (.int .i64 3) (.slice none 0 0) ((.slice ua Q uc)) (.slice none 0 0)
                have r0 := cell_of hF 0
                have r1 := cell_of hF 1
                have r2 := cell_of hF 2
                have r3 := cell_of hF 3
                simp only [List.getElem?_toArray, List.getElem?_cons_zero, List.getElem?_cons_succ] at r0 r1 r2 r3
                refine bodyPost_ret (v := .agg #[.int .i64 3, .slice none 0 0, (.slice ua Q uc), .slice none 0 0]) (by simp [results, Tryz.results54, go_sem, r0, r1, r2, r3]) rfl ?_
                have hI2 : In (B0 + 1 + 1) (B0 + 1 + 1 + 1) w8 ((((w8.setCell ⟨B0 + 1 + 1, 0, none⟩ (.int .i64 3)).setCell ⟨B0 + 1 + 1, 1, none⟩ (.slice none 0 0)).setCell ⟨B0 + 1 + 1, 2, none⟩ ((.slice ua Q uc))).setCell ⟨B0 + 1 + 1, 3, none⟩ (.slice none 0 0)) := ((((In.refl _ _ _).set1 0 _).set1 1 _).set1 2 _).set1 3 _
                have hne := NE.out
                have hsz7 := HC7.out.size
                have hz6 := HC6.out.size
                have hCw : Ch (Ex gw gr (.slice va os.length vn)) w w7 := HC6.out.trans HC7.out (fun i hi => ex_sub HOX.out i hi)
                have hvA : Value.ownBlock (.slice xa L xc) ≠ some bA := fun e => yA (Or.inr (Or.inr e))
                have hvZ : Value.ownBlock (.slice xa L xc) ≠ some (B0 + 1 + 1) := fun e => yz (Or.inr (Or.inr e))
                have hfin := fin_ge HS7.out hCw hI1 hI2 hne.2.1 hne.2.2.1 (NoB.four HGA.out (by simp [NB8]) (by simp [NB8]) (by simp [NB8]) (by simp [NB8])) (NoB.four HZ8.out (by simp [NB8]) (by simp [NB8]) (by simp [NB8]) (by simp [NB8])) ⟨EA.out.1, EA.out.2.1, hvA, EA.out.2.2⟩ ⟨EZ.out.1, EZ.out.2.1, hvZ, EZ.out.2.2⟩ HT.out (fun i hi => by
                  have q1 := hi.1
                  exact ⟨by omega, hi.2, fun e => by have := (HX6.out.row.blk e).2.1; omega, by omega, by omega⟩)
                unfold Pge
                rw [HR.out]
                exact ⟨_, (.slice xa L xc), rfl, hfin.1, hfin.2.1, HOX.out, hfin.2.2⟩
          · have hCt : ∀ w', Below W6.heap.size W6 w' → Calls Tryz.prog 85 #[.pointer (some ⟨gw, 0, none⟩), .int .i64 ((least kind : Nat) : Int), .bool little] w' (Pst w0 W6 gw gr D l (.slice xa L xc) (os ++ [little]) (countS l (least kind) k2 little) (fun n => .int .i64 (n : Int))) := fun w' hb => (count17_any (hS6.later hb) hE (least kind) (by unfold least; split <;> omega) little).mono (fun e w'' h => h.mono (Ch.of_below hb))
            have hLp := fun w => leastPart_any kind w
            have t1 : ((kind : Int) == 1) = false := by simp; omega
            have t2 : ((kind : Int) == 2) = false := by simp; omega
            have t3 : ((kind : Int) == 3) = false := by simp; omega
            have HB : Hid (bodyS l (geomS l n) little kind k2 = (countS l (least kind) k2 little).bind fun n1 k1 => (many (geomS l n kind) n1 k1).bind fun ts k' => .ok ((⟨(kind : Int), [], []⟩, foOf (ts.map (·.1))), (ts.map (·.2)).flatten) k') := by
              show _ = _
              simp only [bodyS, if_neg e1, if_neg e2, if_neg e3]
            obtain ⟨ls, hls⟩ : ∃ ls, ls = least kind := ⟨_, rfl⟩
            rw [← hls] at hCt hLp HB
            have HLS : Hid (ls = least kind) := hls
            clear hls e1 e2 e3
            cases hc : countS l ls k2 little with
            | bad p c =>
              rw [hc] at hCt
              have HR : Hid (geomS l (n + 1) home k = .bad p c) := by show _ = _; rw [HG.out, HB.out, hc]; rfl
              clear hc hS6 HB HG ih
              have HPP : ∀ w', Below w0.heap.size w0 w' → Pge w0 w gw gr D l (.slice va os.length vn) os (geomS l (n + 1) home k) (.panicked [{ v := .iface 161 (.agg #[.int .i64 (p : Int), .int .i64 (c : Int)]), recovered := false }]) w' := fun w' hb => by
                unfold Pge
                rw [HR.out]
                exact ⟨rfl, hb⟩
              go_upto_region 9 with (fail)
              go_region_with (first | (go_at_call 89; refine (hLp _).mono ?_; rintro e wA ⟨rfl, rfl⟩) | (go_at_call 85; refine (hCt _ (by first | exact Below.refl _ _ | exact below_drewN (Below.refl _ _) _ | exact below_drew1 _)).mono ?_; rintro e wA hh; rcases e with vr | ch | _; rotate_left; (have hx := flw_of hh.1; injection hx with hx; subst hx; exact And.intro rfl (HPP _ hh.2)); (exact absurd (flw_of hh.1) (by simp))))
              all_goals exact absurd (flw_of hh.1) (by simp)
            | ok N k3 =>
              rw [hc] at hCt
              have HGc : Hid (geomS l (n + 1) home k = ((many (geomS l n kind) N k3).bind fun ts k' => Rs.ok (((⟨(kind : Int), [], []⟩, foOf (ts.map (·.1))) : Tree), (ts.map (·.2)).flatten) k').bind fun r k' => .ok (r.1, little :: r.2) k') := by show _ = _; rw [HG.out, HB.out, hc]; rfl
              have hcn := count_ok hc
              have hls9 : 9 ≤ ls := by rw [HLS.out]; unfold least; split <;> omega
              have hN9 : N ≤ 100000 := by
                have := hcn.2.1
                have := Nat.mul_le_mul_left N hls9
                omega
              have hk33 : (os ++ [little]).length ≤ k3 := by omega
              clear hc hcn HG HB hS6 hls9
              go_upto_region 9 with (fail)
              go_region_held3 (fun w' => w'.cell? ⟨B0, 0, none⟩ = some (.pointer (some ⟨gw, 0, none⟩)) ∧ w'.cell? ⟨b9, 0, none⟩ = some (.int .i64 (kind : Int)) ∧ w'.cell? ⟨b8, 0, none⟩ = some (.bool little)) (go_keep) (first | (go_at_call 89; refine (hLp _).mono ?_; rintro e wA ⟨rfl, rfl⟩) | (go_at_call 85; refine (hCt _ (by first | exact Below.refl _ _ | exact below_drewN (Below.refl _ _) _ | exact below_drew1 _)).mono ?_; rintro e wk ⟨rfl, hSk, hCk⟩; have m1 := (G1.out.ch hCk y1).cell; have m9 := (G9.out.ch hCk y9).cell; have m8 := (G8.out.ch hCk y8).cell))
              clear hCt hLp d1 d8 d9 m1 m8 m9
              have hM := members_gm hSk hk33 (kind := kind) (lev := lev) (n := n) (fun {w1} {k1'} {v1} {os1} h1 h2 => by
                have := ih kind (lev + 1) (by have := HN.out; omega) (by omega) h1 h2
                rw [show ((lev + 1 : Nat) : Int) = (lev : Int) + 1 by omega] at this
                exact this) hlev (G1.out.ch hCk y1) (G9.out.ch hCk y9) (G3.out.ch hCk y3) y1 y9 y3 hN9
              clear hSk ih
              cases hr : many (geomS l n kind) N k3 with
              | bad p c =>
                rw [hr] at hM
                have HR : Hid (geomS l (n + 1) home k = .bad p c) := by show _ = _; rw [HGc.out, hr]; rfl
                clear hr
                go_wp2_with fail
                refine hM.mono ?_
                rintro e w7 ⟨hf, hb⟩
                rw [flw_of hf]
                clear hM
                go_wp2
                refine ⟨rfl, ?_⟩
                unfold Pge
                rw [HR.out]
                exact ⟨rfl, hb⟩
              | ok ts k7 =>
                rw [hr] at hM
                have HR : Hid (geomS l (n + 1) home k = .ok ((⟨(kind : Int), [], []⟩, foOf (ts.map (·.1))), little :: (ts.map (·.2)).flatten) k7) := by show _ = _; rw [HGc.out, hr]; rfl
                have HP9 : Hid (ts.length ≤ 1048576) := by show _ ≤ _; have := many_len hr; omega
                clear hr
                go_wp2_with fail
                refine hM.mono ?_
                rintro e w7 ⟨v7, ua, uc, rfl, hpc, hS7, hC7a, ho7, hF7⟩
                clear hM
                obtain ⟨u, hu0⟩ : ∃ u, u = Value.slice ua ts.length uc := ⟨_, rfl⟩
                have hu : u = Value.slice ua ts.length uc := hu0
                rw [← hu0]
                clear hu0
                have hC7 : Ch (Ex gw gr (.slice xa L xc)) W6 w7 := hCk.trans hC7a (fun _ _ x => x)
                have hks := hCk.size
                have hfl : (foOf (ts.map (·.1))).len = ts.length := by rw [foOf_len, List.length_map]
                have hP7 : True := trivial
                have hT : TV (fun i => W6.heap.size ≤ i ∧ i < w7.heap.size ∧ v7.ownBlock ≠ some i) w7 (.agg #[.int .i64 (kind : Int), .slice none 0 0, .slice none 0 0, u]) (⟨(kind : Int), [], []⟩, foOf (ts.map (·.1))) := by
                  have := tv_of (S := fun i => W6.heap.size ≤ i ∧ i < w7.heap.size ∧ v7.ownBlock ≠ some i) (w := w7) (v1 := .slice none 0 0) (v2 := .slice none 0 0) (pa := ua) (pc := uc) (t := (⟨(kind : Int), [], []⟩, foOf (ts.map (·.1)))) ⟨by simp only; omega, by simp only; omega⟩ ⟨by simp, none, 0, rfl, fun i q hq => by cases hq⟩ ⟨by simp, none, 0, rfl, fun i q hq => by cases hq⟩ (by simp only [hfl]; exact ⟨HP9.out, hpc⟩) (hF7.mono (fun i hi => ⟨by have := hi.1; omega, hi.2.1, hi.2.2⟩))
                  simp only [hfl] at this
                  rw [hu]
                  exact this
                rw [List.append_assoc] at hS7
                have HO7 : Hid (v7.ownBlock = (Value.slice xa L xc).ownBlock ∨ ∃ g, v7.ownBlock = some g ∧ W6.heap.size ≤ g) := by
                  rcases ho7 with q | ⟨g, q, hg⟩
                  · exact Or.inl q
                  · exact Or.inr ⟨g, q, by omega⟩
                have hov7 : ∀ b, b < W6.heap.size → (Value.slice xa L xc).ownBlock ≠ some b → v7.ownBlock ≠ some b := fun b hb hv e => by
                  rcases HO7.out with q | ⟨g, q, hg⟩
                  · exact hv (q ▸ e)
                  · rw [q] at e; cases e; omega
                have hown7 : v7.ownBlock = (Value.slice va os.length vn).ownBlock ∨ ∃ g, v7.ownBlock = some g ∧ w.heap.size ≤ g := by
                  have := HC6.out.size
                  rcases HO7.out with q | ⟨g, q, hg⟩
                  · rw [q]; exact HOX.out
                  · exact Or.inr ⟨g, q, by omega⟩
                clear hC7a hCk ho7 hF7 hpc
                have gA7 : w7.heap[bA]? = some (.cells #[.int .i64 (kind:Int), .slice none 0 0, .slice none 0 0, .slice none 0 0] 31 (0, 0)) := (hC7.block _ (lt_of_block GA.out) yA).trans GA.out
                have gz7 : w7.heap[B0 + 1 + 1]? = some (.cells #[.int .i64 0, .slice none 0 0, .slice none 0 0, .slice none 0 0] 31 (0, 0)) := (hC7.block _ (lt_of_block GZ.out) yz).trans GZ.out
                obtain ⟨Q, hQ⟩ : ∃ Q, .slice ua Q uc = u := ⟨_, hu.symm⟩
                subst hQ
                clear hu
                have HT : Hid (TV _ w7 _ _) := hT
                have HS7 : Hid (WkS w0 w7 gw gr D l k7 v7 _) := hS7
                have HC7 : Hid (Ch (Ex gw gr (.slice xa L xc)) W6 w7) := hC7
                have HGA : Hid (w7.heap[bA]? = some (.cells #[.int .i64 (kind:Int), .slice none 0 0, .slice none 0 0, .slice none 0 0] 31 (0, 0))) := gA7
                have HGZ : Hid (w7.heap[B0 + 1 + 1]? = some (.cells #[.int .i64 0, .slice none 0 0, .slice none 0 0, .slice none 0 0] 31 (0, 0))) := gz7
                have a0 := cell_of gA7 0
                have a1 := cell_of gA7 1
                have a2 := cell_of gA7 2
                have a3 := cell_of gA7 3
                simp only [List.getElem?_toArray, List.getElem?_cons_zero, List.getElem?_cons_succ] at a0 a1 a2 a3
                have f3 : w7.frozen? ⟨bA, 3, none⟩ = false := by simp [World.frozen?, gA7]
                clear hT hS7 hC7 gA7 gz7 hP7
                go_upto_region 18 with (fail)
                obtain ⟨w8, hw8⟩ : ∃ w8, w8 = w7.setCell ⟨bA, 3, none⟩ (.slice ua Q uc) := ⟨_, rfl⟩
                rw [← hw8]
                have hI1 : In bA (bA + 1) w7 w8 := by rw [hw8]; exact (In.refl _ _ _).set1 3 _
                have gA8 : w8.heap[bA]? = some (.cells #[.int .i64 (kind:Int), .slice none 0 0, .slice none 0 0, (.slice ua Q uc)] 31 (0, 0)) := by rw [hw8]; exact (set_cell4 HGA.out (.slice ua Q uc)).2.2
                have gz8 : w8.heap[B0 + 1 + 1]? = some (.cells #[.int .i64 0, .slice none 0 0, .slice none 0 0, .slice none 0 0] 31 (0, 0)) := (hI1.block _ (lt_of_block HGZ.out) (by have := NE.out.1; omega)).trans HGZ.out
                clear hw8 a0 a1 a2 a3 f3
                have a0 := cell_of gA8 0
                have a1 := cell_of gA8 1
                have a2 := cell_of gA8 2
                have a3 := cell_of gA8 3
                have b0 := cell_of gz8 0
                have b1 := cell_of gz8 1
                have b2 := cell_of gz8 2
                have b3 := cell_of gz8 3
                simp only [List.getElem?_toArray, List.getElem?_cons_zero, List.getElem?_cons_succ] at a0 a1 a2 a3 b0 b1 b2 b3
                have f0 : w8.frozen? ⟨B0 + 1 + 1, 0, none⟩ = false := by simp [World.frozen?, gz8]
                have f1 : w8.frozen? ⟨B0 + 1 + 1, 1, none⟩ = false := by simp [World.frozen?, gz8]
                have f2 : w8.frozen? ⟨B0 + 1 + 1, 2, none⟩ = false := by simp [World.frozen?, gz8]
                have f3 : w8.frozen? ⟨B0 + 1 + 1, 3, none⟩ = false := by simp [World.frozen?, gz8]
                have HZ8 : Hid (w8.heap[B0 + 1 + 1]? = some (.cells #[.int .i64 0, .slice none 0 0, .slice none 0 0, .slice none 0 0] 31 (0, 0))) := gz8
                clear gA8 gz8
                go_wp2
                have hF := set4_block HZ8.out (.int .i64 (kind:Int)) (.slice none 0 0) (.slice none 0 0) ((.slice ua Q uc))
                have r0 := cell_of hF 0
                have r1 := cell_of hF 1
                have r2 := cell_of hF 2
                have r3 := cell_of hF 3
                simp only [List.getElem?_toArray, List.getElem?_cons_zero, List.getElem?_cons_succ] at r0 r1 r2 r3
                refine bodyPost_ret (v := .agg #[.int .i64 (kind:Int), .slice none 0 0, .slice none 0 0, (.slice ua Q uc)]) (by simp [results, Tryz.results54, go_sem, r0, r1, r2, r3]) rfl ?_
                have hI2 : In (B0 + 1 + 1) (B0 + 1 + 1 + 1) w8 ((((w8.setCell ⟨B0 + 1 + 1, 0, none⟩ (.int .i64 (kind:Int))).setCell ⟨B0 + 1 + 1, 1, none⟩ (.slice none 0 0)).setCell ⟨B0 + 1 + 1, 2, none⟩ (.slice none 0 0)).setCell ⟨B0 + 1 + 1, 3, none⟩ ((.slice ua Q uc))) := ((((In.refl _ _ _).set1 0 _).set1 1 _).set1 2 _).set1 3 _
                have hne := NE.out
                have hsz7 := HC7.out.size
                have hz6 := HC6.out.size
                have hCw : Ch (Ex gw gr (.slice va os.length vn)) w w7 := HC6.out.trans HC7.out (fun i hi => ex_sub HOX.out i hi)
                have hvA : Value.ownBlock v7 ≠ some bA := hov7 bA hne.2.2.2.1 eA.2.2.1
                have hvZ : Value.ownBlock v7 ≠ some (B0 + 1 + 1) := hov7 _ hne.2.2.2.2 (fun e => yz (Or.inr (Or.inr e)))
                have hfin := fin_ge HS7.out hCw hI1 hI2 hne.2.1 hne.2.2.1 (NoB.four HGA.out (by simp [NB8]) (by simp [NB8]) (by simp [NB8]) (by simp [NB8])) (NoB.four HZ8.out (by simp [NB8]) (by simp [NB8]) (by simp [NB8]) (by simp [NB8])) ⟨EA.out.1, EA.out.2.1, hvA, EA.out.2.2⟩ ⟨EZ.out.1, EZ.out.2.1, hvZ, EZ.out.2.2⟩ HT.out (fun i hi => by
                  have q1 := hi.1
                  exact ⟨by omega, hi.2.1, hi.2.2, by omega, by omega⟩)
                unfold Pge
                rw [HR.out]
                exact ⟨_, v7, rfl, hfin.1, hfin.2.1, hown7, hfin.2.2⟩
end Go.Proofs.YtgobnjeankjkjaaGreatDoor

/- Layer 17: the document's Equal of two that are one tree; alike. -/
namespace Go.Proofs.YtgobnjeankjkjaaGreatDoor
open Go.ChangeShapes Go.WideShapes Go.ChangeAt Go.RowKit
open Ep Oc Tr Wk
set_option linter.unusedVariables false
namespace Wk
theorem below_dr {B : Nat} {w w' : World} (h : Below B w w') : Below B w w'.drew := ⟨h.os, h.tape, h.output, h.size, h.block⟩
theorem gm_slc {S : Nat → Prop} {w : World} {v : Value} {t : Tree} (h : TV S w v t) : ∃ a1 c1 a2 c2 a3 c3, v = .agg #[.int .i64 t.1.kind, .slice a1 t.1.line.length c1, .slice a2 t.1.rings.length c2, .slice a3 t.2.len c3] ∧ Pts S w (.slice a1 t.1.line.length c1) t.1.line ∧ Rgs S w (.slice a2 t.1.rings.length c2) t.1.rings ∧ t.2.len ≤ c3 ∧ FoAt S w t.2 a3 := by
  obtain ⟨v1, v2, pa, pc, rfl, hk9, hP1, hR1, hl9, hf9⟩ := h.parts
  obtain ⟨a1, d1, rfl⟩ := hP1.slc
  obtain ⟨a2, d2, rfl⟩ := hR1.slc
  exact ⟨a1, d1, a2, d2, pa, pc, rfl, hP1, hR1, hl9.2, hf9⟩
end Wk
end Go.Proofs.YtgobnjeankjkjaaGreatDoor

