import Derived.Below
import Derived.BigQuiet
import Derived.ChangeOld
import Derived.Deep.DeepCutAuto
import Derived.Deep.DeepFit
import Derived.Deep.LoopGhost
import Derived.Deep.QuietTactic
import Derived.Deep.RegionHeld3
import Derived.Deep.RegionWith
import Derived.Defers
import Derived.KernelRfl
import Derived.Laws.BitsAllLaws
import Derived.Laws.CopyRow
import Derived.Laws.EntriesVeiled
import Derived.Laws.IdiomCopy
import Derived.Laws.IdiomRangeMap
import Derived.OpenShut
import Derived.Orders
import Derived.OwnWalk
import Derived.ProofKit
import Derived.Recover
import Derived.Scope
import Derived.ShutString
import Derived.WalkKit
import Derived.WalkLawsBesides
import Derived.WalkMore
import Derived.WalkSpells
import Derived.Test.YtienpliknhkbjaaGreatDoorRs8
import Derived.Test.YtienpliknhkbjaaGreatDoorRs11
import Derived.Test.YtienpliknhkbjaaGreatDoorRs12
/- package seg: rows of places that grow; what meet reckons with. -/
namespace Go.Proofs.YtienpliknhkbjaaGreatDoor
open Go.ChangeShapes Go.WideShapes Go.ChangeAt Go.RowKit
open Na Ar
set_option linter.unusedVariables false
def plcs : List (Int × Int) → List Value
  | [] => []
  | p :: l => .int .i64 p.1 :: .int .i64 p.2 :: plcs l
theorem plcs_snoc : ∀ (l : List (Int × Int)) (p : Int × Int), plcs (l ++ [p]) = plcs l ++ [.int .i64 p.1, .int .i64 p.2]
  | [], p => rfl
  | q :: l, p => by show _ :: _ :: plcs (l ++ [p]) = _; rw [plcs_snoc l p]; rfl
theorem plcs_get : ∀ (l : List (Int × Int)) (i : Nat) (p : Int × Int), l[i]? = some p → (plcs l)[i * 2]? = some (.int .i64 p.1) ∧ (plcs l)[i * 2 + 1]? = some (.int .i64 p.2)
  | [], i, p, h => by simp at h
  | q :: l, 0, p, h => by simp at h; subst h; exact ⟨rfl, rfl⟩
  | q :: l, i + 1, p, h => by
    have := plcs_get l i p (by simpa using h)
    rw [show (i + 1) * 2 = i * 2 + 2 by omega]
    exact this
/-- places in a row of their own -/
def Rz (w : World) (base : Nat) (v : Value) (L : List (Int × Int)) : Prop := w.ownsRow base 78 2 v L.length (plcs L)
theorem Rz.nil (w : World) (base : Nat) : Rz w base (.slice none 0 0) [] := World.ownsRow_nil _ _ _ _
theorem Rz.later {w w' : World} {base : Nat} {v : Value} {L : List (Int × Int)} (h : Rz w base v L) (hb : Below w.heap.size w w') : Rz w' base v L :=
  World.ownsRow.kept (row := none) h ⟨hb.os, hb.tape, hb.output, hb.size, fun k hk _ => hb.block k hk⟩ (by cases hv : v.ownBlock <;> simp)
theorem Rz.open {w : World} {base : Nat} {v : Value} {m : Int × Int} {l : List (Int × Int)} (h : Rz w base v (m :: l)) : ∃ b c, v = .slice (some ⟨b, 0, none⟩) (m :: l).length c ∧ b < w.heap.size ∧ RwAt w b 0 (m :: l) := by
  have h' := h
  rcases h.2 with ⟨_, hn⟩ | ⟨b, cap, cur, hv, _⟩
  · simp at hn
  · have ho : v.ownBlock = some b := by rw [hv]; rfl
    refine ⟨b, cap, hv, (World.ownsRow.lt h' b ho).2, fun i p hi => ?_⟩
    have hc := World.ownsRow.cells h' ho
    obtain ⟨e1, e2⟩ := plcs_get _ i p hi
    have k1 := hc _ _ e1
    have k2 := hc _ _ e2
    have ad : ∀ j, (⟨b, 0, none⟩ : Addr).add j = ⟨b, j, none⟩ := fun j => by unfold Addr.add; split <;> simp_all
    rw [ad] at k1 k2
    rw [Nat.zero_add]
    exact ⟨k1, k2⟩
theorem Rz.slice {w : World} {base : Nat} {v : Value} {L : List (Int × Int)} (h : Rz w base v L) : ∃ a c, v = .slice a L.length c := by
  rcases h.2 with ⟨hv, hn⟩ | ⟨b, cap, cur, hv, _⟩
  · rw [hn]; exact ⟨none, 0, hv⟩
  · exact ⟨some ⟨b, 0, none⟩, cap, hv⟩
/-- what grows a row leaves all below it as it was -/
theorem grown_low {w0 W w5 : World} {B base : Nat} {v : Value} {n : Nat} {e : TypeId} {size : Nat} {xs : List Value} (hB : Below B w0 W) (hg : W.grownBy w5 v.ownBlock) (hr : W.ownsRow base e size v n xs) (hb : B ≤ base) (hBw : B ≤ W.heap.size) : Below B w0 w5 := by
  refine ⟨hg.os.trans hB.os, hg.tape.trans hB.tape, hg.output.trans hB.output, Nat.le_trans hB.size hg.size, fun k hk => ?_⟩
  rw [hg.block k (by omega) (fun e => ?_)]
  · exact hB.block k hk
  · have := World.ownsRow.lt hr k e.symm
    omega
theorem Rz.step {wV wx w' : World} {v : Value} {L : List (Int × Int)} (hB : Below wV.heap.size wV wx) (hR : Rz wx wV.heap.size v L) (hb : Below wx.heap.size wx w') : Below wV.heap.size wV w' ∧ Rz w' wV.heap.size v L := ⟨hB.trans (hb.mono hB.size), hR.later hb⟩
theorem info_pl23 : (Tryz.prog.info? 78).map (fun i => (i.zero, i.size, i.bytes)) = some (some (.agg #[.int .i64 0, .int .i64 0]), 2, 16) := by kernel_rfl
theorem info_parts23 {e : TypeId} {z : Value} {n b : Nat} (h : (Tryz.prog.info? e).map (fun i => (i.zero, i.size, i.bytes)) = some (some z, n, b)) : ∃ i, Tryz.prog.info? e = some i ∧ i.zero = some z ∧ i.size = n ∧ i.bytes = b := by
  cases hi : Tryz.prog.info? e with
  | none => rw [hi] at h; cases h
  | some i =>
    rw [hi] at h
    simp only [Option.map_some, Option.some.injEq, Prod.mk.injEq] at h
    exact ⟨i, rfl, h.1, h.2.1, h.2.2⟩
/-- a block of a meeting: six cells written over -/
theorem Pb.put6 {w : World} {g : Nat} {t : TypeId} {x0 x1 x2 x3 x4 x5 : Value} (h : Pb w g t #[x0, x1, x2, x3, x4, x5]) (a b c d e f : Value) :
    Pb ((((((w.setCell ⟨g, 0, none⟩ a).setCell ⟨g, 1, none⟩ b).setCell ⟨g, 2, none⟩ c).setCell ⟨g, 3, none⟩ d).setCell ⟨g, 4, none⟩ e).setCell ⟨g, 5, none⟩ f) g t #[a, b, c, d, e, f] := ((((((h.set 0 a).set 1 b).set 2 c).set 3 d).set 4 e).set 5 f)
theorem Pb.cells6 {w : World} {g : Nat} {t : TypeId} {x0 x1 x2 x3 x4 x5 : Value} (h : Pb w g t #[x0, x1, x2, x3, x4, x5]) : w.cell? ⟨g, 0, none⟩ = some x0 ∧ w.cell? ⟨g, 1, none⟩ = some x1 ∧ w.cell? ⟨g, 2, none⟩ = some x2 ∧ w.cell? ⟨g, 3, none⟩ = some x3 ∧ w.cell? ⟨g, 4, none⟩ = some x4 ∧ w.cell? ⟨g, 5, none⟩ = some x5 := ⟨h.cell 0 rfl, h.cell 1 rfl, h.cell 2 rfl, h.cell 3 rfl, h.cell 4 rfl, h.cell 5 rfl⟩
theorem Pb.free6 {w : World} {g : Nat} {t : TypeId} {x : Array Value} (h : Pb w g t x) : w.frozen? ⟨g, 0, none⟩ = false ∧ w.frozen? ⟨g, 1, none⟩ = false ∧ w.frozen? ⟨g, 2, none⟩ = false ∧ w.frozen? ⟨g, 3, none⟩ = false ∧ w.frozen? ⟨g, 4, none⟩ = false ∧ w.frozen? ⟨g, 5, none⟩ = false := ⟨h.frozen _, h.frozen _, h.frozen _, h.frozen _, h.frozen _, h.frozen _⟩
/-- a meeting's value -/
def mtV (M : (Int × Bool) × (Int × Int) × (Int × Int)) : Value := .agg #[.int .i64 M.1.1, .bool M.1.2, .int .u64 M.2.1.1, .int .u64 M.2.1.2, .int .u64 M.2.2.1, .int .u64 M.2.2.2]
end Go.Proofs.YtienpliknhkbjaaGreatDoor

/- package near: Rat. -/
namespace Go.Proofs.YtienpliknhkbjaaGreatDoor
open Go.ChangeShapes Go.WideShapes Go.ChangeAt Go.RowKit
open Na Ar
set_option linter.unusedVariables false
section
variable {w : World} {s : Bool} {a b : Option Addr} {n c m d : Nat} {q : Rat} {k : Nat}
set_option maxHeartbeats 3200000 in
set_option maxRecDepth 100000 in
theorem nearRat_ok {mode : Int} (h : Rt w s a n c b m d q) (z : Sz q k) (hk : k ≤ 4096) (h0 : 0 ≤ mode) (h1 : mode ≤ 4) (hG : GrVar w) :
    Calls Tryz.prog 22 #[.agg #[.bool s, .slice a n c, .slice b m d], .int .i64 mode] w fun e w' => ∃ v E, e = .returned (.tuple #[.int .u64 v, .int .i64 E]) ∧ RoundIs (scA (q.num.natAbs : Int) 0) (scB (q.den : Int) 0) false s mode v E ∧ U v ∧ Below w.heap.size w w' := by
  have t0 := st_new w (.bool s) (.slice a n c) (.slice b m d) 45
  have hb0 := alloc_below (w := w) (.cells #[.bool s, .slice a n c, .slice b m d] 45)
  obtain ⟨w0, hw0⟩ : ∃ w0, w0 = w.alloc (.cells #[.bool s, .slice a n c, .slice b m d] 45) := ⟨_, rfl⟩
  rw [← hw0] at t0 hb0
  have h' := h.later hb0
  have G0 := hG.later hb0
  have hk1 := known_yes h0 h1 w0
  have hC := check_ok h' z hk
  have ln := h'.le z
  have lm := h'.leD z
  have pD : (0 : Int) < (q.den : Int) := by have := q.den_pos; omega
  have vN := num_words (N := (q.num.natAbs : Int)) (by omega)
  have vD := num_words (N := (q.den : Int)) (by omega)
  clear h hG
  obtain ⟨g, hg⟩ : ∃ g, g = w.heap.size := ⟨_, rfl⟩
  have HB0 : Below w.heap.size w w0 := hb0
  rw [← hg] at t0
  obtain ⟨x0, x1, x2⟩ := t0.cells
  go_enter Tryz.func22, Tryz.ntmps22
  go_wp2_with fail
  rw [← hw0, ← hg]
  clear hw0 hg
  refine hk1.mono ?_
  rintro e w1 ⟨rfl, rfl⟩
  clear hk1
  go_wp2_with fail
  refine hC.mono ?_
  rintro e w1 ⟨rfl, hb1⟩
  have t1 := t0.later hb1
  have h2 := h'.later hb1
  have HB1 := HB0.trans (hb1.mono HB0.size)
  have hQ := quotient_any (mode := mode) (neg := s) h2.nu h2.de (Dg_words _) (Dg_words _) (by omega) (by omega) h0 h1 (by rw [vD]; exact pD) (G0.later hb1)
  rw [vN, vD] at hQ
  clear hC x0 x1 x2 t0 h'
  obtain ⟨x0, x1, x2⟩ := t1.cells
  go_wp2_with fail
  refine hQ.mono ?_
  rintro e w2 ⟨v, E, rfl, hr, hu, hb2⟩
  have hb9 := HB1.trans (hb2.mono HB1.size)
  clear hQ x0 x1 x2
  go_wp2
  go_ret2
  exact ⟨_, _, rfl, hr, hu, hb9⟩
end
end Go.Proofs.YtienpliknhkbjaaGreatDoor

/- package seg: placesOf. -/
namespace Go.Proofs.YtienpliknhkbjaaGreatDoor
open Go.ChangeShapes Go.WideShapes Go.ChangeAt Go.RowKit
open Na Ar
set_option linter.unusedVariables false
theorem info_place23 : (Tryz.prog.info? 78).map (fun i => (i.zero, i.size, i.bytes)) = some (some (.agg #[.int .i64 0, .int .i64 0]), 2, 16) := by kernel_rfl
theorem under_place23 : Tryz.prog.underlying 73 = some (.slice 78) := by kernel_rfl
theorem make23 (w : World) (n : Nat) (hn : n ≤ 1000000) : ∃ cs, cs.size = n * 2 ∧ (Instr.makeSlice 73 (.int .i64 (n : Int)) (.int .i64 (n : Int))).run Tryz.prog w = .ok (.slice (some ⟨w.heap.size, 0, none⟩) n n) (w.alloc (.cells cs 78)) := by
  cases hi : Tryz.prog.info? 78 with
  | none => have h := info_place23; rw [hi] at h; cases h
  | some i =>
    have h := info_place23
    rw [hi] at h
    simp only [Option.map_some, Option.some.injEq, Prod.mk.injEq] at h
    obtain ⟨h1, h2, h3⟩ := h
    have hr := run_make (P := Tryz.prog) w 73 78 i _ under_place23 hi h1 .i64 .i64 (n : Int) (n : Int) (by omega) (by omega) (by rw [h3]; omega) (by omega)
    refine ⟨_, ?_, by simpa using hr⟩
    rw [size_madeCells, h2]
/-- the place number t of a block of places -/
def PcAt (cs : Array Value) (t : Nat) (p : Int × Int) : Prop := cs[t * 2]? = some (.int .i64 p.1) ∧ cs[t * 2 + 1]? = some (.int .i64 p.2)
/-- the place of a point -/
def rkP (p : Int × Int) : Int × Int := (rk0 p.1, rk0 p.2)
theorem rkP_ok {p : Int × Int} (hu : U2 p) (hf : fin2 p) : pOk (rkP p) := ⟨rk_ok hu.1 hf.1, rk_ok hu.2 hf.2⟩
theorem two_at {w : World} {g : Nat} {t : TypeId} {cs : Array Value} (h : Pb w g t cs) (i : Nat) (hi : i + 1 < cs.size) : (∃ v, w.cell? ⟨g, i, none⟩ = some v) ∧ (∃ v, w.cell? ⟨g, i + 1, none⟩ = some v) ∧ w.frozen? ⟨g, i, none⟩ = false ∧ w.frozen? ⟨g, i + 1, none⟩ = false :=
  ⟨⟨cs[i], h.cell i (by simp [show i < cs.size by omega])⟩, ⟨cs[i + 1], h.cell (i + 1) (by simp [show i + 1 < cs.size by omega])⟩, h.frozen _, h.frozen _⟩
theorem pc_set {cs : Array Value} {T k : Nat} {x y : Int} (hk : k = T * 2) (hT : k + 1 < cs.size) : PcAt ((cs.setIfInBounds k (.int .i64 x)).setIfInBounds (k + 1) (.int .i64 y)) T (x, y) ∧ ∀ t p, t ≠ T → PcAt cs t p → PcAt ((cs.setIfInBounds k (.int .i64 x)).setIfInBounds (k + 1) (.int .i64 y)) t p := by
  subst hk
  refine ⟨⟨?_, ?_⟩, ?_⟩
  · simp [show T * 2 < cs.size by omega]
  · simp [show T * 2 + 1 < cs.size by omega]
  · rintro t p ht ⟨e1, e2⟩
    refine ⟨?_, ?_⟩
    · rw [Array.getElem?_setIfInBounds_ne (by omega), Array.getElem?_setIfInBounds_ne (by omega)]; exact e1
    · rw [Array.getElem?_setIfInBounds_ne (by omega), Array.getElem?_setIfInBounds_ne (by omega)]; exact e2
/-- what placesOf answers -/
def PlQ (w : World) (n : Nat) (P : Nat → Int × Int) (e : Ending) (w' : World) : Prop :=
  ((∀ i, i < n → fin2 (P i)) ∧ ∃ o cs, e = .returned (.tuple #[.slice (some ⟨o, 0, none⟩) n n, .int .i64 0]) ∧ Pb w' o 78 cs ∧ w.heap.size ≤ o ∧ cs.size = n * 2 ∧ (∀ i, i < n → PcAt cs i (rkP (P i))) ∧ Below w.heap.size w w') ∨
  ((∃ i, i < n ∧ ¬ fin2 (P i)) ∧ e = .returned (.tuple #[.slice none 0 0, .int .i64 220]) ∧ Below w.heap.size w w')
set_option maxHeartbeats 6400000 in
set_option maxRecDepth 100000 in
theorem places23_any {w : World} {g n c : Nat} {P : Nat → Int × Int} (hP : PtAt w g 0 P n) (hg : g < w.heap.size) (hn : n ≤ 1000000) :
    Calls Tryz.prog 34 #[.slice (some ⟨g, 0, none⟩) n c] w fun e w' => PlQ w n P e w' := by
  obtain ⟨cs0, hcs0, hmk⟩ := make23 w n hn
  have hb0 := alloc_below (w := w) (.cells cs0 78)
  have p0 := Pb.new w 78 cs0
  obtain ⟨o, ho⟩ : ∃ o, o = w.heap.size := ⟨_, rfl⟩
  have HO : Hid (w.heap.size = o) := ho.symm
  rw [← ho] at hmk p0
  clear ho
  go_enter Tryz.func34, Tryz.ntmps34
  go_wp2
  clear hmk
  generalize w.alloc (.cells cs0 78) = w0 at *
  go_loopw [16] (fun i wr => ∃ (j : Nat) (cs : Array Value), j ≤ n ∧ i = .int .i64 j ∧ Pb wr o 78 cs ∧ cs.size = n * 2 ∧ (∀ t, t < j → fin2 (P t) ∧ PcAt cs t (rkP (P t))) ∧ Below w.heap.size w wr) (fun i _ => n - (intOf i).toNat)
  case atStart => exact ⟨0, cs0, Nat.zero_le _, rfl, p0, hcs0, fun t ht => absurd ht (by omega), hb0⟩
  case round =>
    obtain ⟨j, cs, hj, rfl, hPb, hcs, hT, hB⟩ := hrel
    clear p0 hb0
    by_cases hlt : j < n
    · have i1 : (j : Int) < (n : Int) := by omega
      have hi0 : (0 : Int) ≤ (j : Int) := by omega
      obtain ⟨x0, x1, ux, uy⟩ := hP j hlt
      simp only [Nat.zero_add] at x0 x1
      have X0 := (hB.cell (p := ⟨g, j * 2, none⟩) hg).trans x0
      have X1 := (hB.cell (p := ⟨g, j * 2 + 1, none⟩) hg).trans x1
      have HX : Hid (P j = ((P j).1, (P j).2)) := rfl
      clear x0 x1
      generalize (P j).1 = x at *
      generalize (P j).2 = y at *
      have al := alloc_below (w := wr) (.cells #[.int .u64 x, .int .u64 y] 24)
      have ob := hPb.lt
      have oH := HO.out
      have wo : w.heap.size ≤ o := by rw [oH]; exact Nat.le_refl _
      clear oH
      have hBs := hB.size
      have P1 := hPb.later al
      have B1 := hB.trans (al.mono hBs)
      obtain ⟨nb0, nb1⟩ := (Pb.new wr 24 #[.int .u64 x, .int .u64 y]).two
      have r1 := f6Rank_any ux
      have r2 := f6Rank_any uy
      by_cases fx : ef x = 2047
      · have Fx : Hid (¬ fin2 (P j)) := fun h => by rw [HX.out] at h; exact h.1 fx
        rw [fiE_inf fx] at r1
        go_wp2_with fail
        generalize wr.alloc (.cells #[.int .u64 x, .int .u64 y] 24) = w1 at *
        clear X0 X1
        refine (r1 _).mono ?_
        rintro e wX ⟨rfl, rfl⟩
        go_wp2_with fail
        refine (r2 _).mono ?_
        rintro e wX ⟨rfl, rfl⟩
        go_wp2
        go_ret2
        exact Or.inr ⟨⟨j, hlt, Fx.out⟩, rfl, B1⟩
      · rw [fiE_fin fx, rkW_fin fx] at r1
        by_cases fy : ef y = 2047
        · have Fx : Hid (¬ fin2 (P j)) := fun h => by rw [HX.out] at h; exact h.2 fy
          rw [fiE_inf fy] at r2
          go_wp2_with fail
          generalize wr.alloc (.cells #[.int .u64 x, .int .u64 y] 24) = w1 at *
          clear X0 X1
          refine (r1 _).mono ?_
          rintro e wX ⟨rfl, rfl⟩
          go_wp2_with fail
          refine (r2 _).mono ?_
          rintro e wX ⟨rfl, rfl⟩
          go_wp2
          go_ret2
          exact Or.inr ⟨⟨j, hlt, Fx.out⟩, rfl, B1⟩
        · rw [fiE_fin fy, rkW_fin fy] at r2
          have Fx : Hid (fin2 (P j)) := by show fin2 (P j); rw [HX.out]; exact ⟨fx, fy⟩
          have HY : Hid (rkP (P j) = (rk0 x, rk0 y)) := by show rkP (P j) = _; rw [HX.out]; rfl
          generalize rk0 x = rx at *
          generalize rk0 y = ry at *
          obtain ⟨⟨c0, k0⟩, ⟨c1, k1⟩, f0, f1⟩ := two_at P1 (j * 2) (by omega)
          go_wp2_with fail
          generalize wr.alloc (.cells #[.int .u64 x, .int .u64 y] 24) = w1 at *
          clear X0 X1
          refine (r1 _).mono ?_
          rintro e wX ⟨rfl, rfl⟩
          go_wp2_with fail
          refine (r2 _).mono ?_
          rintro e wX ⟨rfl, rfl⟩
          go_wp2
          obtain ⟨q1, q2⟩ := pc_set (x := rx) (y := ry) (rfl : j * 2 = j * 2) (show j * 2 + 1 < cs.size by omega)
          have P2 := (P1.set (j * 2) (.int .i64 rx)).set (j * 2 + 1) (.int .i64 ry)
          have I2 : In o (o + 1) w1 ((w1.setCell ⟨o, j * 2, none⟩ (.int .i64 rx)).setCell ⟨o, j * 2 + 1, none⟩ (.int .i64 ry)) := ((In.refl o (o + 1) w1).set1 _ _).set1 _ _
          go_roundw
          case rel =>
            refine ⟨j + 1, _, by omega, rfl, P2, by simpa using hcs, fun t ht => ?_, below_in B1 I2 wo (Nat.le_refl _)⟩
            by_cases e : t = j
            · subst e; rw [HY.out]; exact ⟨Fx.out, q1⟩
            · exact ⟨(hT t (by omega)).1, q2 t _ e (hT t (by omega)).2⟩
          case measure => simp [intOf]; omega
    · have i1 : ¬ (j : Int) < (n : Int) := by omega
      have HJ : Hid (j = n) := by show j = n; omega
      go_wp2
      go_ret2
      have e := HJ.out
      subst e
      exact Or.inl ⟨fun i hi => (hT i hi).1, o, cs, rfl, hPb, Nat.le_of_eq HO.out, hcs, fun i hi => (hT i hi).2, hB⟩
end Go.Proofs.YtienpliknhkbjaaGreatDoor

/- NearBack. -/
namespace Go.Proofs.YtienpliknhkbjaaGreatDoor
open Go.ChangeShapes Go.WideShapes Go.ChangeAt Go.RowKit
open Na Ar
set_option linter.unusedVariables false
namespace Na
theorem ordR_self (p : Rat) : ordR p p = 0 := by
  unfold ordR
  rw [if_neg Rat.lt_irrefl, if_pos rfl]
theorem valR_neg {b : Int} (h : U b) (hf : ef b ≠ 2047) : valR b + valR (negW b) = ((0 : Int) : Rat) := by
  have e1 : spM (negW b) = spM b := by unfold spM; rw [ef_negW h, fr_negW h]
  have e3 : spX (negW b) = spX b := by unfold spX; rw [ef_negW h]
  have e4 : spS (negW b) = !spS b := by
    unfold spS; rw [ef_negW h, if_neg hf, if_neg hf]
    unfold U at h
    unfold negW
    rw [Bool.eq_iff_iff]
    simp
    split <;> omega
  unfold valR
  rw [e1, e3, e4]
  unfold mkR
  have s : sg (!spS b) (spM b * e2 (spX b)) = -(sg (spS b) (spM b * e2 (spX b))) := by
    unfold sg
    cases spS b <;> simp
  rw [s, ← Rat.neg_mkRat, Rat.add_neg_cancel]
  rfl
theorem fin_size {b : Int} (h : U b) (hf : ef b ≠ 2047) : 0 ≤ mg b ∧ mg b ≤ mostP ∧ numW (mg b) = numW b := by
  have b1 := mg_bd b
  have b2 := mg_parts b
  have b3 := ef_bd b
  have b4 := fr_bd b
  have l : mg b ≤ mostP := by unfold mostP; omega
  obtain ⟨u1, f1, m1⟩ := size_fin b1.1 l
  exact ⟨b1.1, l, (num_ord u1 h f1 hf).2 m1⟩
theorem want_is {b : Int} (h : U b) (hf : ef b ≠ 2047) : mg b + sgB (decide ((valR b).num < 0)) = wantB b := by
  obtain ⟨p, e1, e2', e3, e4, e5, e6, e7⟩ := num_parts h hf
  have pp := pat_parts h hf
  by_cases hz : spM b = 0
  · have q : valR b = ((0 : Int) : Rat) := by rw [binQ_val, hz, binQ_zero]
    have hm : mg b = 0 := by omega
    rw [q, hm]
    unfold wantB
    unfold mg at hm
    unfold U at h
    show (0 : Int) + 0 = _
    split <;> omega
  · obtain ⟨K, o, hmo, ho2, ho0, hzn, hdv⟩ := two_form (M := spM b) (by omega)
    have q : valR b = binQ (spS b) o (spX b + K) := by rw [binQ_val, hmo]; exact binQ_move _ (by omega) K _
    obtain ⟨a1, a2, a3⟩ := binQ_odd ho2 ho0 (spS b) (spX b + K)
    rw [q, a3]
    unfold wantB
    rw [if_neg]
    · omega
    · intro r
      have : mg b = 0 := by rw [r]; rfl
      omega
theorem round_val {b v E mode : Int} {s : Bool} (h : U b) (hf : ef b ≠ 2047) (hs : s = decide ((valR b).num < 0)) (hr : RoundIs (scA ((valR b).num.natAbs : Int) 0) (scB ((valR b).den : Int) 0) false s mode v E) : v = wantB b ∧ E = 0 := by
  obtain ⟨f1, f2, f3⟩ := fin_size h hf
  have pD : (0 : Int) < ((valR b).den : Int) := by have := (valR b).den_pos; omega
  have pB : 0 < scB ((valR b).den : Int) 0 := by unfold scB; exact Int.mul_pos pD (e2_pos _)
  have eq : scA ((valR b).num.natAbs : Int) 0 = numW (mg b) * scB ((valR b).den : Int) 0 := by
    rw [f3]
    unfold scA scB
    rw [e2_zero (show -(0 + 1074 : Int) ≤ 0 by omega), Int.mul_one, Int.zero_add]
    have nn : 0 ≤ numW b := by rw [← f3]; exact num_nonneg' f1 f2
    have p1 := e2_pos 1074
    have c := mkR_cross (spS b) nn p1
    rw [← valR_num h hf] at c
    have c2 := congrArg (fun z : Int => (z.natAbs : Int)) c
    simp only [Int.natAbs_mul, Int.natCast_mul] at c2
    rw [sg_abs _ nn] at c2
    have q1 : ((e2 1074).natAbs : Int) = e2 1074 := by omega
    rw [q1] at c2
    rw [c2]
    simp
  have rs := round_self (neg := s) (mode := mode) pB f1 f2 eq
  have u := roundIs_uniq pB hr rs
  rw [u.1, hs, want_is h hf]
  exact ⟨rfl, u.2⟩
end Na
end Go.Proofs.YtienpliknhkbjaaGreatDoor

