import Derived.Below
import Derived.BigQuiet
import Derived.ChangeOld
import Derived.Deep.DeepCutAuto
import Derived.Deep.DeepFit
import Derived.Deep.LoopGhost
import Derived.Deep.QuietTactic
import Derived.Deep.RegionHeld3
import Derived.Deep.RegionWith
import Derived.Defers
import Derived.KernelRfl
import Derived.Laws.BitsAllLaws
import Derived.Laws.CopyRow
import Derived.Laws.EntriesVeiled
import Derived.Laws.IdiomCopy
import Derived.Laws.IdiomRangeMap
import Derived.OpenShut
import Derived.Orders
import Derived.OwnWalk
import Derived.ProofKit
import Derived.Recover
import Derived.Scope
import Derived.ShutString
import Derived.WalkKit
import Derived.WalkLawsBesides
import Derived.WalkMore
import Derived.WalkSpells
import Derived.Test.YtienpliknhkbjaaGreatDoorRc8
import Derived.Test.YtienpliknhkbjaaGreatDoorRc11
import Derived.Test.YtienpliknhkbjaaGreatDoorRc12
/- package seg: placesOf. -/
namespace Go.Proofs.YtienpliknhkbjaaGreatDoor
open Go.ChangeShapes Go.WideShapes Go.ChangeAt Go.RowKit
open Na Ar
set_option linter.unusedVariables false
theorem info_place23 : (Tryz.prog.info? 78).map (fun i => (i.zero, i.size, i.bytes)) = some (some (.agg #[.int .i64 0, .int .i64 0]), 2, 16) := by kernel_rfl
theorem under_place23 : Tryz.prog.underlying 73 = some (.slice 78) := by kernel_rfl
theorem make23 (w : World) (n : Nat) (hn : n ≤ 1000000) : ∃ cs, cs.size = n * 2 ∧ (Instr.makeSlice 73 (.int .i64 (n : Int)) (.int .i64 (n : Int))).run Tryz.prog w = .ok (.slice (some ⟨w.heap.size, 0, none⟩) n n) (w.alloc (.cells cs 78)) := by
  cases hi : Tryz.prog.info? 78 with
  | none => have h := info_place23; rw [hi] at h; cases h
  | some i =>
    have h := info_place23
    rw [hi] at h
    simp only [Option.map_some, Option.some.injEq, Prod.mk.injEq] at h
    obtain ⟨h1, h2, h3⟩ := h
    have hr := run_make (P := Tryz.prog) w 73 78 i _ under_place23 hi h1 .i64 .i64 (n : Int) (n : Int) (by omega) (by omega) (by rw [h3]; omega) (by omega)
    refine ⟨_, ?_, by simpa using hr⟩
    rw [size_madeCells, h2]
/-- the place number t of a block of places -/
def PcAt (cs : Array Value) (t : Nat) (p : Int × Int) : Prop := cs[t * 2]? = some (.int .i64 p.1) ∧ cs[t * 2 + 1]? = some (.int .i64 p.2)
/-- the place of a point -/
def rkP (p : Int × Int) : Int × Int := (rk0 p.1, rk0 p.2)
theorem rkP_ok {p : Int × Int} (hu : U2 p) (hf : fin2 p) : pOk (rkP p) := ⟨rk_ok hu.1 hf.1, rk_ok hu.2 hf.2⟩
theorem two_at {w : World} {g : Nat} {t : TypeId} {cs : Array Value} (h : Pb w g t cs) (i : Nat) (hi : i + 1 < cs.size) : (∃ v, w.cell? ⟨g, i, none⟩ = some v) ∧ (∃ v, w.cell? ⟨g, i + 1, none⟩ = some v) ∧ w.frozen? ⟨g, i, none⟩ = false ∧ w.frozen? ⟨g, i + 1, none⟩ = false :=
  ⟨⟨cs[i], h.cell i (by simp [show i < cs.size by omega])⟩, ⟨cs[i + 1], h.cell (i + 1) (by simp [show i + 1 < cs.size by omega])⟩, h.frozen _, h.frozen _⟩
theorem pc_set {cs : Array Value} {T k : Nat} {x y : Int} (hk : k = T * 2) (hT : k + 1 < cs.size) : PcAt ((cs.setIfInBounds k (.int .i64 x)).setIfInBounds (k + 1) (.int .i64 y)) T (x, y) ∧ ∀ t p, t ≠ T → PcAt cs t p → PcAt ((cs.setIfInBounds k (.int .i64 x)).setIfInBounds (k + 1) (.int .i64 y)) t p := by
  subst hk
  refine ⟨⟨?_, ?_⟩, ?_⟩
  · simp [show T * 2 < cs.size by omega]
  · simp [show T * 2 + 1 < cs.size by omega]
  · rintro t p ht ⟨e1, e2⟩
    refine ⟨?_, ?_⟩
    · rw [Array.getElem?_setIfInBounds_ne (by omega), Array.getElem?_setIfInBounds_ne (by omega)]; exact e1
    · rw [Array.getElem?_setIfInBounds_ne (by omega), Array.getElem?_setIfInBounds_ne (by omega)]; exact e2
/-- what placesOf answers -/
def PlQ (w : World) (n : Nat) (P : Nat → Int × Int) (e : Ending) (w' : World) : Prop :=
  ((∀ i, i < n → fin2 (P i)) ∧ ∃ o cs, e = .returned (.tuple #[.slice (some ⟨o, 0, none⟩) n n, .int .i64 0]) ∧ Pb w' o 78 cs ∧ w.heap.size ≤ o ∧ cs.size = n * 2 ∧ (∀ i, i < n → PcAt cs i (rkP (P i))) ∧ Below w.heap.size w w') ∨
  ((∃ i, i < n ∧ ¬ fin2 (P i)) ∧ e = .returned (.tuple #[.slice none 0 0, .int .i64 220]) ∧ Below w.heap.size w w')
set_option maxHeartbeats 6400000 in
set_option maxRecDepth 100000 in
theorem places23_any {w : World} {g n c : Nat} {P : Nat → Int × Int} (hP : PtAt w g 0 P n) (hg : g < w.heap.size) (hn : n ≤ 1000000) :
    Calls Tryz.prog 34 #[.slice (some ⟨g, 0, none⟩) n c] w fun e w' => PlQ w n P e w' := by
  obtain ⟨cs0, hcs0, hmk⟩ := make23 w n hn
  have hb0 := alloc_below (w := w) (.cells cs0 78)
  have p0 := Pb.new w 78 cs0
  obtain ⟨o, ho⟩ : ∃ o, o = w.heap.size := ⟨_, rfl⟩
  have HO : Hid (w.heap.size = o) := ho.symm
  rw [← ho] at hmk p0
  clear ho
  go_enter Tryz.func34, Tryz.ntmps34
  go_wp2
  clear hmk
  generalize w.alloc (.cells cs0 78) = w0 at *
  go_loopw [16] (fun i wr => ∃ (j : Nat) (cs : Array Value), j ≤ n ∧ i = .int .i64 j ∧ Pb wr o 78 cs ∧ cs.size = n * 2 ∧ (∀ t, t < j → fin2 (P t) ∧ PcAt cs t (rkP (P t))) ∧ Below w.heap.size w wr) (fun i _ => n - (intOf i).toNat)
  case atStart => exact ⟨0, cs0, Nat.zero_le _, rfl, p0, hcs0, fun t ht => absurd ht (by omega), hb0⟩
  case round =>
    obtain ⟨j, cs, hj, rfl, hPb, hcs, hT, hB⟩ := hrel
    clear p0 hb0
    by_cases hlt : j < n
    · have i1 : (j : Int) < (n : Int) := by omega
      have hi0 : (0 : Int) ≤ (j : Int) := by omega
      obtain ⟨x0, x1, ux, uy⟩ := hP j hlt
      simp only [Nat.zero_add] at x0 x1
      have X0 := (hB.cell (p := ⟨g, j * 2, none⟩) hg).trans x0
      have X1 := (hB.cell (p := ⟨g, j * 2 + 1, none⟩) hg).trans x1
      have HX : Hid (P j = ((P j).1, (P j).2)) := rfl
      clear x0 x1
      generalize (P j).1 = x at *
      generalize (P j).2 = y at *
      have al := alloc_below (w := wr) (.cells #[.int .u64 x, .int .u64 y] 24)
      have ob := hPb.lt
      have oH := HO.out
      have wo : w.heap.size ≤ o := by rw [oH]; exact Nat.le_refl _
      clear oH
      have hBs := hB.size
      have P1 := hPb.later al
      have B1 := hB.trans (al.mono hBs)
      obtain ⟨nb0, nb1⟩ := (Pb.new wr 24 #[.int .u64 x, .int .u64 y]).two
      have r1 := f6Rank_any ux
      have r2 := f6Rank_any uy
      by_cases fx : ef x = 2047
      · have Fx : Hid (¬ fin2 (P j)) := fun h => by rw [HX.out] at h; exact h.1 fx
        rw [fiE_inf fx] at r1
        go_wp2_with fail
        generalize wr.alloc (.cells #[.int .u64 x, .int .u64 y] 24) = w1 at *
        clear X0 X1
        refine (r1 _).mono ?_
        rintro e wX ⟨rfl, rfl⟩
        go_wp2_with fail
        refine (r2 _).mono ?_
        rintro e wX ⟨rfl, rfl⟩
        go_wp2
        go_ret2
        exact Or.inr ⟨⟨j, hlt, Fx.out⟩, rfl, B1⟩
      · rw [fiE_fin fx, rkW_fin fx] at r1
        by_cases fy : ef y = 2047
        · have Fx : Hid (¬ fin2 (P j)) := fun h => by rw [HX.out] at h; exact h.2 fy
          rw [fiE_inf fy] at r2
          go_wp2_with fail
          generalize wr.alloc (.cells #[.int .u64 x, .int .u64 y] 24) = w1 at *
          clear X0 X1
          refine (r1 _).mono ?_
          rintro e wX ⟨rfl, rfl⟩
          go_wp2_with fail
          refine (r2 _).mono ?_
          rintro e wX ⟨rfl, rfl⟩
          go_wp2
          go_ret2
          exact Or.inr ⟨⟨j, hlt, Fx.out⟩, rfl, B1⟩
        · rw [fiE_fin fy, rkW_fin fy] at r2
          have Fx : Hid (fin2 (P j)) := by show fin2 (P j); rw [HX.out]; exact ⟨fx, fy⟩
          have HY : Hid (rkP (P j) = (rk0 x, rk0 y)) := by show rkP (P j) = _; rw [HX.out]; rfl
          generalize rk0 x = rx at *
          generalize rk0 y = ry at *
          obtain ⟨⟨c0, k0⟩, ⟨c1, k1⟩, f0, f1⟩ := two_at P1 (j * 2) (by omega)
          go_wp2_with fail
          generalize wr.alloc (.cells #[.int .u64 x, .int .u64 y] 24) = w1 at *
          clear X0 X1
          refine (r1 _).mono ?_
          rintro e wX ⟨rfl, rfl⟩
          go_wp2_with fail
          refine (r2 _).mono ?_
          rintro e wX ⟨rfl, rfl⟩
          go_wp2
          obtain ⟨q1, q2⟩ := pc_set (x := rx) (y := ry) (rfl : j * 2 = j * 2) (show j * 2 + 1 < cs.size by omega)
          have P2 := (P1.set (j * 2) (.int .i64 rx)).set (j * 2 + 1) (.int .i64 ry)
          have I2 : In o (o + 1) w1 ((w1.setCell ⟨o, j * 2, none⟩ (.int .i64 rx)).setCell ⟨o, j * 2 + 1, none⟩ (.int .i64 ry)) := ((In.refl o (o + 1) w1).set1 _ _).set1 _ _
          go_roundw
          case rel =>
            refine ⟨j + 1, _, by omega, rfl, P2, by simpa using hcs, fun t ht => ?_, below_in B1 I2 wo (Nat.le_refl _)⟩
            by_cases e : t = j
            · subst e; rw [HY.out]; exact ⟨Fx.out, q1⟩
            · exact ⟨(hT t (by omega)).1, q2 t _ e (hT t (by omega)).2⟩
          case measure => simp [intOf]; omega
    · have i1 : ¬ (j : Int) < (n : Int) := by omega
      have HJ : Hid (j = n) := by show j = n; omega
      go_wp2
      go_ret2
      have e := HJ.out
      subst e
      exact Or.inl ⟨fun i hi => (hT i hi).1, o, cs, rfl, hPb, Nat.le_of_eq HO.out, hcs, fun i hi => (hT i hi).2, hB⟩
end Go.Proofs.YtienpliknhkbjaaGreatDoor

/- NearBack. -/
namespace Go.Proofs.YtienpliknhkbjaaGreatDoor
open Go.ChangeShapes Go.WideShapes Go.ChangeAt Go.RowKit
open Na Ar
set_option linter.unusedVariables false
namespace Na
theorem ordR_self (p : Rat) : ordR p p = 0 := by
  unfold ordR
  rw [if_neg Rat.lt_irrefl, if_pos rfl]
theorem valR_neg {b : Int} (h : U b) (hf : ef b ≠ 2047) : valR b + valR (negW b) = ((0 : Int) : Rat) := by
  have e1 : spM (negW b) = spM b := by unfold spM; rw [ef_negW h, fr_negW h]
  have e3 : spX (negW b) = spX b := by unfold spX; rw [ef_negW h]
  have e4 : spS (negW b) = !spS b := by
    unfold spS; rw [ef_negW h, if_neg hf, if_neg hf]
    unfold U at h
    unfold negW
    rw [Bool.eq_iff_iff]
    simp
    split <;> omega
  unfold valR
  rw [e1, e3, e4]
  unfold mkR
  have s : sg (!spS b) (spM b * e2 (spX b)) = -(sg (spS b) (spM b * e2 (spX b))) := by
    unfold sg
    cases spS b <;> simp
  rw [s, ← Rat.neg_mkRat, Rat.add_neg_cancel]
  rfl
theorem fin_size {b : Int} (h : U b) (hf : ef b ≠ 2047) : 0 ≤ mg b ∧ mg b ≤ mostP ∧ numW (mg b) = numW b := by
  have b1 := mg_bd b
  have b2 := mg_parts b
  have b3 := ef_bd b
  have b4 := fr_bd b
  have l : mg b ≤ mostP := by unfold mostP; omega
  obtain ⟨u1, f1, m1⟩ := size_fin b1.1 l
  exact ⟨b1.1, l, (num_ord u1 h f1 hf).2 m1⟩
theorem want_is {b : Int} (h : U b) (hf : ef b ≠ 2047) : mg b + sgB (decide ((valR b).num < 0)) = wantB b := by
  obtain ⟨p, e1, e2', e3, e4, e5, e6, e7⟩ := num_parts h hf
  have pp := pat_parts h hf
  by_cases hz : spM b = 0
  · have q : valR b = ((0 : Int) : Rat) := by rw [binQ_val, hz, binQ_zero]
    have hm : mg b = 0 := by omega
    rw [q, hm]
    unfold wantB
    unfold mg at hm
    unfold U at h
    show (0 : Int) + 0 = _
    split <;> omega
  · obtain ⟨K, o, hmo, ho2, ho0, hzn, hdv⟩ := two_form (M := spM b) (by omega)
    have q : valR b = binQ (spS b) o (spX b + K) := by rw [binQ_val, hmo]; exact binQ_move _ (by omega) K _
    obtain ⟨a1, a2, a3⟩ := binQ_odd ho2 ho0 (spS b) (spX b + K)
    rw [q, a3]
    unfold wantB
    rw [if_neg]
    · omega
    · intro r
      have : mg b = 0 := by rw [r]; rfl
      omega
theorem round_val {b v E mode : Int} {s : Bool} (h : U b) (hf : ef b ≠ 2047) (hs : s = decide ((valR b).num < 0)) (hr : RoundIs (scA ((valR b).num.natAbs : Int) 0) (scB ((valR b).den : Int) 0) false s mode v E) : v = wantB b ∧ E = 0 := by
  obtain ⟨f1, f2, f3⟩ := fin_size h hf
  have pD : (0 : Int) < ((valR b).den : Int) := by have := (valR b).den_pos; omega
  have pB : 0 < scB ((valR b).den : Int) 0 := by unfold scB; exact Int.mul_pos pD (e2_pos _)
  have eq : scA ((valR b).num.natAbs : Int) 0 = numW (mg b) * scB ((valR b).den : Int) 0 := by
    rw [f3]
    unfold scA scB
    rw [e2_zero (show -(0 + 1074 : Int) ≤ 0 by omega), Int.mul_one, Int.zero_add]
    have nn : 0 ≤ numW b := by rw [← f3]; exact num_nonneg' f1 f2
    have p1 := e2_pos 1074
    have c := mkR_cross (spS b) nn p1
    rw [← valR_num h hf] at c
    have c2 := congrArg (fun z : Int => (z.natAbs : Int)) c
    simp only [Int.natAbs_mul, Int.natCast_mul] at c2
    rw [sg_abs _ nn] at c2
    have q1 : ((e2 1074).natAbs : Int) = e2 1074 := by omega
    rw [q1] at c2
    rw [c2]
    simp
  have rs := round_self (neg := s) (mode := mode) pB f1 f2 eq
  have u := roundIs_uniq pB hr rs
  rw [u.1, hs, want_is h hf]
  exact ⟨rfl, u.2⟩
end Na
end Go.Proofs.YtienpliknhkbjaaGreatDoor

