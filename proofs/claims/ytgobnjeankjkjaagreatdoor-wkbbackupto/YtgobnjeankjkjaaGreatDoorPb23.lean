import Derived.Deep.RegionHeld3
import Derived.Below
import Derived.BigQuiet
import Derived.ChangeOld
import Derived.Deep.CutRange
import Derived.Deep.DeepCutAuto
import Derived.Deep.QuietTactic
import Derived.Deep.RegionLaw
import Derived.Deep.RegionWith
import Derived.LaidEql
import Derived.Laws.AppendOwn
import Derived.Laws.BitsAllLaws
import Derived.Laws.CopyRow
import Derived.Laws.IdiomCopy
import Derived.Laws.IdiomRangeMap
import Derived.Laws.Rows
import Derived.Laws.StructEq
import Derived.LoopIn
import Derived.LoopNIn
import Derived.Maps.AppendAt
import Derived.OpenShut
import Derived.Orders
import Derived.OrdersIn
import Derived.OwnWalk
import Derived.OwnWalkIn
import Derived.ProofKit
import Derived.RangeFuncBound
import Derived.RangeFuncCalls
import Derived.RangeFuncLeaves
import Derived.RangeFuncNested
import Derived.Recover
import Derived.RowKitTokens
import Derived.Shelf.Abstract
import Derived.Shelf.RegionOpen
import Derived.ShutString
import Derived.StillTailTactics
import Derived.Stop.Asserts
import Derived.Tactics2
import Derived.TacticsIn
import Derived.TacticsInMore
import Derived.WalkKit
import Derived.WalkLawsBesides
import Derived.WalkSpells
import Derived.Test.YtgobnjeankjkjaaGreatDoorPb8
import Derived.Test.YtgobnjeankjkjaaGreatDoorPb10
import Derived.Test.YtgobnjeankjkjaaGreatDoorPb16
import Derived.Test.YtgobnjeankjkjaaGreatDoorPb19
import Derived.Test.YtgobnjeankjkjaaGreatDoorPb20
import Derived.Test.YtgobnjeankjkjaaGreatDoorPb21
import Derived.Test.YtgobnjeankjkjaaGreatDoorPb22
/- Layer 17: the law's alive. -/
namespace Go.Proofs.YtgobnjeankjkjaaGreatDoor
open Go.ChangeShapes Go.WideShapes Go.ChangeAt Go.RowKit
open Ep Oc Tr Wk Mk
set_option linter.unusedVariables false
namespace Wk
/-- the point that alive writes -/
def T0 : Tree := (⟨1, [(4607182418800017408, 4611686018427387904)], []⟩, .nil)
theorem T0_ok : OkT T0 := ⟨⟨⟨by decide, by decide, by decide⟩, trivial, trivial⟩, by decide⟩
def bs0 : List UInt8 := mixB [true] 0 (ndsT T0)
theorem bs0_len : bs0.length = 21 := by decide +kernel
theorem bs0_read : parseS bs0 1 21 = .ok (T0, [true]) 21 := by kernel_rfl
theorem bs0_hex : hexL bs0 = [48, 49, 48, 49, 48, 48, 48, 48, 48, 48, 48, 48, 48, 48, 48, 48, 48, 48, 48, 48, 48, 48, 102, 48, 51, 102, 48, 48, 48, 48, 48, 48, 48, 48, 48, 48, 48, 48, 48, 48, 52, 48] := by decide +kernel
end Wk
set_option maxHeartbeats 3200000 in
set_option maxRecDepth 100000 in
theorem alive17_any {w : World} (hE : ErrVar w) : Calls Tryz.prog 11 #[] w fun e w' => e = .returned (.bool true) ∧ Below w.heap.size w w' := by
  obtain ⟨V1, hV1⟩ : ∃ V1, V1 = w.alloc (.cells #[.int .u64 4607182418800017408, .int .u64 4611686018427387904] 39) := ⟨_, rfl⟩
  obtain ⟨V, hV⟩ : ∃ V, V = V1.alloc (.cells #[.int .i64 1, .slice (some ⟨w.heap.size, 0, none⟩) 1 1, .slice none 0 0, .slice none 0 0] 31) := ⟨_, rfl⟩
  have hb1 : Below w.heap.size w V1 := by rw [hV1]; exact alloc_below _
  have hb2 : Below V1.heap.size V1 V := by rw [hV]; exact alloc_below _
  have hz1 : V1.heap.size = w.heap.size + 1 := by rw [hV1]; simp
  have hbV : Below w.heap.size w V := hb1.trans (hb2.mono (by omega))
  have gP : V.heap[w.heap.size]? = some (.cells #[.int .u64 4607182418800017408, .int .u64 4611686018427387904] 39 (0, 0)) := (hb2.block w.heap.size (by omega)).trans (by rw [hV1]; exact heap_alloc_new _ _)
  have gG : V.heap[w.heap.size + 1]? = some (.cells #[.int .i64 1, .slice (some ⟨w.heap.size, 0, none⟩) 1 1, .slice none 0 0, .slice none 0 0] 31 (0, 0)) := by rw [hV, ← hz1]; exact heap_alloc_new _ _
  have hT : TV (fun k => k < V.heap.size) V (.agg #[.int .i64 1, .slice (some ⟨w.heap.size, 0, none⟩) 1 1, .slice none 0 0, .slice none 0 0]) T0 := by
    refine tv_of (t := T0) (v1 := .slice (some ⟨w.heap.size, 0, none⟩) 1 1) (v2 := .slice none 0 0) (pa := none) (pc := 0) ⟨by decide, by decide⟩ ⟨by decide, _, 1, rfl, fun i p hi => ?_⟩ ⟨by decide, none, 0, rfl, fun i p hi => by cases hi⟩ ⟨by decide, by decide⟩ trivial
    have hi0 : i = 0 := by
      have := (List.getElem?_eq_some_iff.1 hi).1
      have e : T0.1.line.length = 1 := rfl
      omega
    subst hi0
    cases hi
    exact ⟨w.heap.size, 0, rfl, lt_of_block gP, ⟨by decide, by decide⟩, ⟨by decide, by decide⟩, cell_of gP 0, cell_of gP 1⟩
  have hPr := print_tree (fun k hk => hk) hT T0_ok true
  have HT := Wk.hidQ hT
  have HbV := Wk.hidQ hbV
  have HEV := Wk.hidQ (hE.later hbV)
  have HV : Hid ((w.alloc (.cells #[.int .u64 4607182418800017408, .int .u64 4611686018427387904] 39)).alloc (.cells #[.int .i64 1, .slice (some ⟨w.heap.size, 0, none⟩) 1 1, .slice none 0 0, .slice none 0 0] 31) = V) := by show _ = _; rw [hV, hV1]
  have HgG := Wk.hidQ gG
  have g0 := cell_of gG 0
  have g1 := cell_of gG 1
  have g2 := cell_of gG 2
  have g3 := cell_of gG 3
  simp only [List.getElem?_toArray, List.getElem?_cons_zero, List.getElem?_cons_succ] at g0 g1 g2 g3
  obtain ⟨B, hB⟩ : ∃ B, B = mixB [true] 0 (ndsT T0) := ⟨_, rfl⟩
  have HB : Hid (B = bs0) := hB
  rw [← hB] at hPr
  have hBl : B.length = 21 := by rw [HB.out]; exact bs0_len
  clear hV hV1 hb1 hb2 hbV gP gG hT hz1 hB hE
  go_enter Tryz.func11, Tryz.ntmps11
  go_upto_region 2 with (fail)
  rw [HV.out]
  go_wp2_with fail
  refine hPr.mono ?_
  rintro e W1 ⟨v, rfl, hO, hb1⟩
  clear hPr
  obtain ⟨a, c, rfl, hR⟩ := hO.row
  rw [hBl] at hR
  have HR := Wk.hidQ hR
  have Hb1 := Wk.hidQ hb1
  have hPa := parse17_any hR (by omega) (HEV.out.later hb1) (md := 1) (mb := 21) (D := 1) (lim := 21) (by decide) (by decide)
  rw [show (1 : Int).toNat = 1 from rfl, HB.out, bs0_read] at hPa
  have HG1 : Hid (W1.heap[w.heap.size + 1]? = some (.cells #[.int .i64 1, .slice (some ⟨w.heap.size, 0, none⟩) 1 1, .slice none 0 0, .slice none 0 0] 31 (0, 0))) := (hb1.block _ (lt_of_block HgG.out)).trans HgG.out
  clear hR hb1 hO g0 g1 g2 g3
  rw [hBl]
  clear hBl
  go_wp2_with fail
  refine hPa.mono ?_
  rintro e W2 ⟨u, rfl, hb2, hTu⟩
  clear hPa
  obtain ⟨a1, c1, a2, c2, a3, c3, eu, _⟩ := gm_slc hTu
  have eu' : u = .agg #[.int .i64 1, .slice a1 1 c1, .slice a2 0 c2, .slice a3 0 c3] := eu
  subst eu'
  have HTu : Hid (TV (fun i => W1.heap.size ≤ i ∧ i < W2.heap.size) W2 (.agg #[.int .i64 1, .slice a1 1 c1, .slice a2 0 c2, .slice a3 0 c3]) T0) := hTu
  have Hb2 := Wk.hidQ hb2
  obtain ⟨W3, hW3⟩ : ∃ W3, W3 = W2.alloc (.cells #[.int .i64 1, .slice a1 1 c1, .slice a2 0 c2, .slice a3 0 c3] 31) := ⟨_, rfl⟩
  have hb3 : Below W2.heap.size W2 W3 := by rw [hW3]; exact alloc_below _
  have gU : W3.heap[W2.heap.size]? = some (.cells #[.int .i64 1, .slice a1 1 c1, .slice a2 0 c2, .slice a3 0 c3] 31 (0, 0)) := by rw [hW3]; exact heap_alloc_new _ _
  have Hb13 : Hid (Below W1.heap.size W1 W3) := hb2.trans (hb3.mono hb2.size)
  have hHx := hex16_any (HR.out.later Hb13.out) (by omega)
  rw [HB.out, bs0_hex] at hHx
  have HW3 : Hid (W2.alloc (.cells #[.int .i64 1, .slice a1 1 c1, .slice a2 0 c2, .slice a3 0 c3] 31) = W3) := hW3.symm
  have HgU := Wk.hidQ gU
  have Hb3 := Wk.hidQ hb3
  clear hTu hb2 eu hW3 hb3 gU
  go_upto_region 4 with (fail)
  rw [HW3.out]
  go_wp2_with fail
  refine hHx.mono ?_
  rintro e W4 ⟨rfl, hb4⟩
  clear hHx
  have Hb4 : Hid (Below W3.heap.size W3 W4) := hb4
  have k1 := (hb4.block _ (by have := Hb13.out.size; have := lt_of_block HG1.out; omega)).trans ((Hb13.out.block _ (lt_of_block HG1.out)).trans HG1.out)
  have k2 := (hb4.block _ (lt_of_block HgU.out)).trans HgU.out
  have g0 := cell_of k1 0
  have g1 := cell_of k1 1
  have g2 := cell_of k1 2
  have g3 := cell_of k1 3
  have m0 := cell_of k2 0
  have m1 := cell_of k2 1
  have m2 := cell_of k2 2
  have m3 := cell_of k2 3
  simp only [List.getElem?_toArray, List.getElem?_cons_zero, List.getElem?_cons_succ] at g0 g1 g2 g3 m0 m1 m2 m3
  have hbV4 : Below V.heap.size V W4 := (Hb1.out.trans (Hb13.out.mono Hb1.out.size)).trans (hb4.mono (by have := Hb1.out.size; have := Hb13.out.size; omega))
  have hb24 : Below W2.heap.size W2 W4 := Hb3.out.trans (hb4.mono Hb3.out.size)
  have hEq := treeEq_same (w := W4) (S1 := fun k => k < V.heap.size) (S2 := fun i => W1.heap.size ≤ i ∧ i < W2.heap.size) (fun k hk => by have := hbV4.size; omega) (fun k hk => by have := hb24.size; omega) (HT.out.below (Kp.of_below hbV4 (fun k hk => hk))) (HTu.out.below (Kp.of_below hb24 (fun k hk => hk.2))) T0_ok
  have HbW4 : Hid (Below w.heap.size w W4) := HbV.out.trans (hbV4.mono HbV.out.size)
  clear k1 k2 hbV4 hb24 hb4
  go_wp2_with fail
  refine hEq.mono ?_
  rintro e W5 ⟨rfl, hb5⟩
  have Hb5 : Hid (Below w.heap.size w W5) := HbW4.out.trans (hb5.mono HbW4.out.size)
  clear hEq hb5 g0 g1 g2 g3 m0 m1 m2 m3
  go_wp2
  go_ret
  exact ⟨rfl, Hb5.out⟩
end Go.Proofs.YtgobnjeankjkjaaGreatDoor

/- Layer 17: the same bytes; a list of truths among the inputs; how long bytes are. -/
namespace Go.Proofs.YtgobnjeankjkjaaGreatDoor
open Go.ChangeShapes Go.WideShapes Go.ChangeAt Go.RowKit
open Ep Oc Tr Wk Mk
set_option linter.unusedVariables false
namespace Wk
/-- truths in memory -/
def BsAt (w : World) (a : Option Addr) (n c : Nat) (os : List Bool) : Prop :=
  os.length = n ∧ n ≤ c ∧ ∀ (i : Nat) x, os[i]? = some x → ∃ b o, a = some ⟨b, o, none⟩ ∧ b < w.heap.size ∧ w.cell? ⟨b, o + i, none⟩ = some (.bool x)
theorem BsAt.later {w w' : World} {a : Option Addr} {n c : Nat} {os : List Bool} (h : BsAt w a n c os) (hb : Below w.heap.size w w') : BsAt w' a n c os :=
  ⟨h.1, h.2.1, fun i x hi => by
    obtain ⟨b, o, e, h1, h2⟩ := h.2.2 i x hi
    exact ⟨b, o, e, by have := hb.size; omega, (hb.cell (p := ⟨b, o + i, none⟩) h1).trans h2⟩⟩
theorem body_ord (d : Nd) (x y : Bool) : (d.body x).length = (d.body y).length := by
  have hr : ∀ (l : List Nat) (ps : List Pt), (rgB x l ps).length = (rgB y l ps).length := by
    intro l
    induction l with
    | nil => intro ps; rfl
    | cons z r ih =>
      intro ps
      show (lnB x (ps.take z) ++ rgB x r (ps.drop z)).length = (lnB y (ps.take z) ++ rgB y r (ps.drop z)).length
      rw [List.length_append, List.length_append, lnB_len, lnB_len, ih]
  unfold Nd.body
  split
  · rw [spB_len, spB_len]
  · split
    · rw [lnB_len, lnB_len]
    · split
      · rw [List.length_append, List.length_append, ord_len, ord_len, hr]
      · rw [ord_len, ord_len]
theorem fB_ord (os os' : List Bool) : ∀ (f : Fo) (i i' : Nat), (fB os i f).length = (fB os' i' f).length
  | .nil, _, _ => rfl
  | .cons g c r, i, i' => by
    show ((ndG g c.len).bytes (orO os i) ++ (fB os (i + 1) c ++ fB os (i + 1 + c.cnt) r)).length = ((ndG g c.len).bytes (orO os' i') ++ (fB os' (i' + 1) c ++ fB os' (i' + 1 + c.cnt) r)).length
    rw [List.length_append, List.length_append, List.length_append, List.length_append, bytes_len, bytes_len, body_ord _ (orO os i) (orO os' i'), fB_ord os os' c (i + 1) (i' + 1), fB_ord os os' r (i + 1 + c.cnt) (i' + 1 + c.cnt)]
theorem bo_at {w : World} {base : Nat} {v : Value} {os : List Bool} (h : Bo w base v os) : ∃ a c, v = .slice a os.length c ∧ ∀ i x, os[i]? = some x → ∃ g, a = some ⟨g, 0, none⟩ ∧ w.cell? ⟨g, i, none⟩ = some (.bool x) := by
  rcases h with ⟨rfl, rfl⟩ | ⟨g, cap, cur, rfl, hb, hg, h3, h4, h5, h6, h7⟩
  · exact ⟨none, 0, rfl, fun i x hx => by cases hx⟩
  · refine ⟨_, cap, rfl, fun i x hx => ⟨g, rfl, ?_⟩⟩
    rw [cell_of hg i]
    have : (os.map Value.bool)[i]? = some (.bool x) := by rw [List.getElem?_map, hx]; rfl
    rw [← h6, List.getElem?_take] at this
    split at this
    · simpa using this
    · cases this
end Wk
set_option maxHeartbeats 3200000 in
set_option maxRecDepth 100000 in
theorem same17_same {w : World} {a1 a2 : Option Addr} {n c1 c2 : Nat} {l : List UInt8} (h1 : Rb w a1 n c1 l) (h2 : Rb w a2 n c2 l) :
    Calls Tryz.prog 22 #[.slice a1 n c1, .slice a2 n c2] w fun e w' => e = .returned (.bool true) ∧ ∃ d, w' = w.drewN d := by
  have hc := h1.2
  have hcl : ∀ {a : Option Addr} {c : Nat}, Rb w a n c l → ∀ j, j < n → ∃ g o, a = some ⟨g, o, none⟩ ∧ w.cell? ⟨g, o + j, none⟩ = some (.int .u8 ((l.getD j 0).toNat : Int)) := by
    intro a c h j hj
    obtain ⟨g, o, e, _, hx⟩ := h.cells (by omega)
    exact ⟨g, o, e, hx j hj⟩
  have HC1 := hidM (hcl h1)
  have HC2 := hidM (hcl h2)
  clear h1 h2 hcl
  go_enter Tryz.func22, Tryz.ntmps22
  go_wp2
  go_loopw [5] (fun i wr => ∃ (j d : Nat), i = .int .i64 (j : Int) ∧ j ≤ n ∧ wr = w.drewN d) (fun i _ => n - (intOf i).toNat)
  case atStart => exact ⟨0, 0, rfl, Nat.zero_le _, rfl⟩
  case round =>
    obtain ⟨j, d, rfl, hj, rfl⟩ := hrel
    by_cases hlt : j < n
    · obtain ⟨g1, o1, rfl, k1⟩ := HC1.out j hlt
      obtain ⟨g2, o2, rfl, k2⟩ := HC2.out j hlt
      obtain ⟨X, hX⟩ : ∃ X : Int, X = ((l.getD j 0).toNat : Int) := ⟨_, rfl⟩
      rw [← hX] at k1 k2
      have hx : (X != X) = false := by simp
      clear hX HC1 HC2
      go_wp2
      go_quiet (fail)
      go_wp2
      go_roundw
      case rel => exact ⟨j + 1, d + nq, by go_num, by omega, by simp [World.drewN]⟩
      case measure => simp [intOf]; omega
    · go_wp2
      go_ret
      exact ⟨rfl, d, rfl⟩
theorem cells_boolM : Tryz.prog.cellsOf 4 = 1 := by kernel_rfl
set_option maxRecDepth 100000 in
theorem open_sbools {H : Type} {enc : TypeId × Value → H} {w : World} {r : Reach} {base b0 : Nat} {spare : Nat → Bool} {held : Bool} {v : Value} {d : DataW H} {p : List MemPlace}
    (hv : Value.okWide Tryz.prog w r b0 53 v) (h : DataW.Trod enc Tryz.prog w base spare held 53 v d p) (hall : ∀ g, spare g = true) (hb : Rows.uptoBulk d ≤ 1048576) :
    ∃ a n c os, v = .slice a n c ∧ BsAt w a n c os ∧ n ≤ 1048576 := by
  obtain ⟨a, n, c, rfl⟩ := okWide_slice Tryz.underlying53 hv
  obtain ⟨fuel, hf⟩ := h
  rcases DataW.trod_slice Tryz.underlying53 hf with ⟨hcs, _⟩ | ⟨x, len, cap, elems, rest, m, _, hcs, hd, hbb, hl, hm, hlen, hel, hsp, hns⟩
  · simp [Value.cells] at hcs
    obtain ⟨rfl, rfl, rfl⟩ := hcs
    exact ⟨none, 0, 0, [], rfl, ⟨rfl, Nat.le_refl _, fun i t ht => by cases ht⟩, by omega⟩
  · simp [Value.cells] at hcs
    obtain ⟨rfl, rfl, rfl⟩ := hcs
    simp only [Prod.mk.injEq] at hd
    rw [hd.1] at hb
    simp only [Rows.uptoBulk] at hb
    have hlen9 : n ≤ 1048576 := by
      have h1 : (elems.map (·.1)).length ≤ Rows.uptoBulkAll (elems.map (·.1)) := by
        generalize elems.map (·.1) = es
        induction es with
        | nil => exact Nat.zero_le _
        | cons e t ih =>
          have : 1 ≤ Rows.uptoBulk e := by cases e with
            | lit x => cases x <;> simp [Rows.uptoBulk]
            | nil => simp [Rows.uptoBulk]
            | ptr d => simp [Rows.uptoBulk]
            | slice a b => simp [Rows.uptoBulk]
            | agg a => simp [Rows.uptoBulk]
            | iface a b => simp [Rows.uptoBulk]
            | map a => simp [Rows.uptoBulk]
            | held a => simp [Rows.uptoBulk]
          simp only [Rows.uptoBulkAll, List.length_cons]
          omega
      rw [List.length_map, hlen] at h1
      omega
    have each : ∀ i, i < n → ∃ t : Bool, ∃ b o, x = ⟨b, o, none⟩ ∧ w.cell? ⟨b, o + i, none⟩ = some (.bool t) := by
      intro i hi
      have hb' := hel i hi
      rw [List.getElem?_eq_getElem (by omega), cells_boolM, Option.bind_eq_some_iff] at hb'
      obtain ⟨cs', hcs, hy⟩ := hb'
      obtain ⟨t, rfl, _⟩ := DataW.trod_bool Tryz.underlying4 hy
      obtain ⟨_, _, hcell⟩ := World.cells?_some hcs
      have q := hcell 0 (by omega)
      have spot : ∃ b o, x = ⟨b, o, none⟩ := by
        have hb0 := hel 0 (by omega)
        rw [List.getElem?_eq_getElem (by omega), cells_boolM, Option.bind_eq_some_iff] at hb0
        obtain ⟨cs0, hcs0, hy0⟩ := hb0
        obtain ⟨t0, rfl, _⟩ := DataW.trod_bool Tryz.underlying4 hy0
        obtain ⟨_, _, hcell0⟩ := World.cells?_some hcs0
        have q0 := hcell0 0 (by omega)
        have e : x.add (0 * 1) = x := by unfold Addr.add; simp
        rw [e] at q0
        exact spot_ofM q0
      obtain ⟨b, o, rfl⟩ := spot
      rw [add_noneM, add_noneM] at q
      exact ⟨t, b, o, rfl, by simpa using q⟩
    have pick : ∃ f : Nat → Bool, ∀ i, i < n → ∃ b o, x = ⟨b, o, none⟩ ∧ w.cell? ⟨b, o + i, none⟩ = some (.bool (f i)) := by
      refine ⟨fun i => if hi : i < n then (each i hi).choose else false, fun i hi => ?_⟩
      simp only [dif_pos hi]
      exact (each i hi).choose_spec
    obtain ⟨f, hf2⟩ := pick
    refine ⟨some x, n, c, (List.range n).map f, rfl, ⟨by simp, hl, fun i t ht => ?_⟩, hlen9⟩
    rw [List.getElem?_map] at ht
    obtain ⟨k, hk, rfl⟩ := Option.map_eq_some_iff.mp ht
    obtain ⟨hi, e⟩ := List.getElem?_eq_some_iff.mp hk
    rw [List.length_range] at hi
    rw [List.getElem_range] at e
    subst e
    obtain ⟨b, o, hx2, q0⟩ := hf2 i hi
    exact ⟨b, o, by rw [hx2], cell_lt q0, q0⟩
end Go.Proofs.YtgobnjeankjkjaaGreatDoor

/- Layer 17: there and back (written by genwkba.py). -/
namespace Go.Proofs.YtgobnjeankjkjaaGreatDoor
open Go.ChangeShapes Go.WideShapes Go.ChangeAt Go.RowKit
open Ep Oc Tr Wk Mk
set_option linter.unusedVariables false
set_option maxHeartbeats 6400000 in
set_option maxRecDepth 100000 in
theorem back_walk17 {w : World} {v : Value} {l : List Nde} {oa : Option Addr} {on oc : Nat} {os : List Bool} (hN : NdsAt (· < w.heap.size) w v l) (hO : BsAt w oa on oc os) (hn9 : on ≤ 1048576) (hE : ErrVar w) :
    Calls Tryz.prog 6 #[v, .slice oa on oc] w fun e w' => e = .returned (.bool true) ∧ Below w.heap.size w w' := by
  obtain ⟨T, hT0⟩ : ∃ T, T = treeN l := ⟨_, rfl⟩
  have hGr := grown17_any hN
  rw [← hT0] at hGr
  have HE := Wk.hidQ hE
  have HOs := Wk.hidQ hO
  clear hN hE hT0 hO
  go_enter Tryz.func6, Tryz.ntmps6
  go_wp2_with fail
  refine hGr.mono ?_
  rintro e W1 ⟨u, rfl, hTV, hOk, hb1⟩
  clear hGr
  obtain ⟨a1, c1, a2, c2, a3, c3, rfl, _⟩ := gm_slc hTV
  obtain ⟨K0, hK0⟩ : ∃ K0, K0 = T.1.kind := ⟨_, rfl⟩
  obtain ⟨n1, hn1⟩ : ∃ n1, n1 = T.1.line.length := ⟨_, rfl⟩
  obtain ⟨n2, hn2⟩ : ∃ n2, n2 = T.1.rings.length := ⟨_, rfl⟩
  obtain ⟨n3, hn3⟩ : ∃ n3, n3 = T.2.len := ⟨_, rfl⟩
  have HKn := Wk.hidQ (show K0 = T.1.kind ∧ n1 = T.1.line.length ∧ n2 = T.1.rings.length ∧ n3 = T.2.len from ⟨hK0, hn1, hn2, hn3⟩)
  rw [← hK0, ← hn1, ← hn2, ← hn3] at hTV ⊢
  clear hK0 hn1 hn2 hn3
  have HTV : Hid (TV (fun k => k < W1.heap.size) W1 (.agg #[.int .i64 K0, .slice a1 n1 c1, .slice a2 n2 c2, .slice a3 n3 c3]) T) := hTV.mono (fun k hk => hk.2)
  have HOk := Wk.hidQ hOk
  have HE1 : Hid (ErrVar W1) := HE.out.later hb1
  have B_w : Hid (Below w.heap.size w W1) := hb1
  clear hTV hOk hb1
  have B_W1 : Hid (Below W1.heap.size W1 W1) := Below.refl _ _
  obtain ⟨W2, hW2⟩ : ∃ W2, W2 = W1.alloc (.cells #[.int .i64 K0, .slice a1 n1 c1, .slice a2 n2 c2, .slice a3 n3 c3] 31) := ⟨_, rfl⟩
  have HW2 : Hid (W1.alloc (.cells #[.int .i64 K0, .slice a1 n1 c1, .slice a2 n2 c2, .slice a3 n3 c3] 31) = W2) := hW2.symm
  have hbW2 : Below W1.heap.size W1 W2 := by rw [hW2]; exact alloc_below _
  have GW2 : Hid (W2.heap[W1.heap.size]? = some (.cells #[.int .i64 K0, .slice a1 n1 c1, .slice a2 n2 c2, .slice a3 n3 c3] 31 (0, 0))) := by rw [hW2]; exact heap_alloc_new _ _
  replace B_w : Hid (Below w.heap.size w W2) := B_w.out.trans (hbW2.mono B_w.out.size)
  replace B_W1 : Hid (Below W1.heap.size W1 W2) := B_W1.out.trans (hbW2.mono B_W1.out.size)
  clear hW2 hbW2
  go_upto_region 2 with (fail)
  rw [HW2.out]
  have hAl := alive17_any (HE1.out.later B_W1.out)
  go_wp2_with fail
  refine hAl.mono ?_
  rintro e W3 ⟨rfl, hb3⟩
  clear hAl
  have B_W2 : Hid (Below W2.heap.size W2 W2) := Below.refl _ _
  replace B_w : Hid (Below w.heap.size w W3) := B_w.out.trans (hb3.mono B_w.out.size)
  replace B_W1 : Hid (Below W1.heap.size W1 W3) := B_W1.out.trans (hb3.mono B_W1.out.size)
  replace B_W2 : Hid (Below W2.heap.size W2 W3) := B_W2.out.trans (hb3.mono B_W2.out.size)
  clear hb3
  have g5 := (B_W2.out.block _ (lt_of_block GW2.out)).trans GW2.out
  have x0 := cell_of g5 0
  have x1 := cell_of g5 1
  have x2 := cell_of g5 2
  have x3 := cell_of g5 3
  simp only [List.getElem?_toArray, List.getElem?_cons_zero, List.getElem?_cons_succ] at x0 x1 x2 x3
  clear g5
  obtain ⟨N, hN0⟩ : ∃ N, N = (fB [true] 0 (fo1 T)).length := ⟨_, rfl⟩
  have HN0 := Wk.hidQ hN0
  have hSz := size_tree (S := fun k => k < W1.heap.size) (fun k hk => by have := B_W1.out.size; omega) (HTV.out.below (Kp.of_below B_W1.out (fun k hk => hk))) HOk.out [true]
  rw [← hN0] at hSz
  clear hN0
  have HNl : Hid (∀ os, (fB os 0 (fo1 T)).length = N) := fun os => by rw [HN0.out]; exact fB_ord _ _ _ _ _
  go_wp2_with fail
  refine hSz.mono ?_
  rintro e W4 ⟨rfl, hb4⟩
  clear hSz x0 x1 x2 x3
  replace B_w : Hid (Below w.heap.size w W4) := B_w.out.trans (hb4.mono B_w.out.size)
  replace B_W1 : Hid (Below W1.heap.size W1 W4) := B_W1.out.trans (hb4.mono B_W1.out.size)
  replace B_W2 : Hid (Below W2.heap.size W2 W4) := B_W2.out.trans (hb4.mono B_W2.out.size)
  clear hb4
  by_cases hbig : 65536 < N
  · have d0 : decide ((65536 : Int) < (N : Int)) = true := by simp; omega
    go_wp2
    go_ret
    exact ⟨rfl, B_w.out⟩
  · have hN6 : N ≤ 65536 := by omega
    clear hbig
    have Hwf : Hid (Wf 0 (fo1 T)) := wf_tree HTV.out HOk.out
    obtain ⟨d, hd⟩ : ∃ d, d = dpF (fo1 T) := ⟨_, rfl⟩
    have Hd := Wk.hidQ hd
    have hd9 : d ≤ 256 := by rw [hd, ← dep_tree]; exact dep_le _ _ (fun it hi => (good_pre (fo1 T) 1 0 HOk.out.good it hi).1)
    clear hd
    obtain ⟨CN, hCN⟩ : ∃ CN, CN = (fo1 T).cnt := ⟨_, rfl⟩
    have HCN := Wk.hidQ hCN
    have hCN9 : CN ≤ 65536 := by rw [hCN]; have := cnt_fsum (fo1 T); have := HOk.out.sum; omega
    obtain ⟨PS, hPS⟩ : ∃ PS, PS = psum ((fo1 T).pre 1 0) := ⟨_, rfl⟩
    have hCo := callsIn_wide.1 (count_any (n := 0) (w := W4) (f := fo1 T) (((HTV.out.below (Kp.of_below B_W1.out (fun k hk => hk)))).mono (S' := fun k => k < W4.heap.size) (fun k hk => by have := B_W1.out.size; omega)) (by have := cnt_fsum (fo1 T); have := HOk.out.sum; omega) (fun it hi => by have := tot_fsum (fo1 T) 1 0 it hi; have := HOk.out.sum; omega) (by rw [fsum_pre]; have := HOk.out.sum; omega))
    rw [← hCN, ← hPS] at hCo
    clear hCN hPS
    have d0 : decide ((65536 : Int) < (N : Int)) = false := by simp; omega
    have g5 := (B_W2.out.block _ (lt_of_block GW2.out)).trans GW2.out
    have x0 := cell_of g5 0
    have x1 := cell_of g5 1
    have x2 := cell_of g5 2
    have x3 := cell_of g5 3
    simp only [List.getElem?_toArray, List.getElem?_cons_zero, List.getElem?_cons_succ] at x0 x1 x2 x3
    clear g5
    go_wp2_with fail
    refine hCo.mono ?_
    rintro e W5 ⟨rfl, hb5⟩
    clear hCo x0 x1 x2 x3 d0
    replace B_w : Hid (Below w.heap.size w W5) := B_w.out.trans (hb5.mono B_w.out.size)
    replace B_W1 : Hid (Below W1.heap.size W1 W5) := B_W1.out.trans (hb5.mono B_W1.out.size)
    replace B_W2 : Hid (Below W2.heap.size W2 W5) := B_W2.out.trans (hb5.mono B_W2.out.size)
    clear hb5
    have B_W5 : Hid (Below W5.heap.size W5 W5) := Below.refl _ _
    go_upto_region 9 with (fail)
    obtain ⟨V, hV⟩ : ∃ V, V = ((W5.alloc (.cells #[.bool true] 4)).alloc (.cells #[.bool false] 4)).alloc (.cells #[.slice (some ⟨W5.heap.size, 0, none⟩) 1 1, .slice (some ⟨W5.heap.size + 1, 0, none⟩) 1 1, .slice none 0 0, .slice oa on oc] 53) := ⟨_, rfl⟩
    have hbV : Below W5.heap.size W5 V := by rw [hV]; exact ((alloc_below _).trans ((alloc_below _).mono (alloc_below _).size)).trans ((alloc_below _).mono (by simp; omega))
    have gT : V.heap[W5.heap.size]? = some (.cells #[.bool true] 4 (0, 0)) := by
      rw [hV]
      refine (Below.heap_alloc _ _ _ (by simp; omega)).trans ((Below.heap_alloc _ _ _ (by simp)).trans (heap_alloc_new _ _))
    have gF : V.heap[W5.heap.size + 1]? = some (.cells #[.bool false] 4 (0, 0)) := by
      rw [hV]
      have := heap_alloc_new (W5.alloc (.cells #[.bool true] 4)) (.cells #[.bool false] 4 (0, 0))
      refine (Below.heap_alloc _ _ _ (by simp)).trans (by simpa using this)
    have GA : Hid (V.heap[W5.heap.size + 2]? = some (.cells #[.slice (some ⟨W5.heap.size, 0, none⟩) 1 1, .slice (some ⟨W5.heap.size + 1, 0, none⟩) 1 1, .slice none 0 0, .slice oa on oc] 53 (0, 0))) := by
      show _ = _
      rw [hV]
      have := heap_alloc_new ((W5.alloc (.cells #[.bool true] 4)).alloc (.cells #[.bool false] 4)) (.cells #[.slice (some ⟨W5.heap.size, 0, none⟩) 1 1, .slice (some ⟨W5.heap.size + 1, 0, none⟩) 1 1, .slice none 0 0, .slice oa on oc] 53 (0, 0))
      simpa using this
    have HV : Hid (((W5.alloc (.cells #[.bool true] 4)).alloc (.cells #[.bool false] 4)).alloc (.cells #[.slice (some ⟨W5.heap.size, 0, none⟩) 1 1, .slice (some ⟨W5.heap.size + 1, 0, none⟩) 1 1, .slice none 0 0, .slice oa on oc] 53) = V) := hV.symm
    replace B_w : Hid (Below w.heap.size w V) := B_w.out.trans (hbV.mono B_w.out.size)
    replace B_W1 : Hid (Below W1.heap.size W1 V) := B_W1.out.trans (hbV.mono B_W1.out.size)
    replace B_W2 : Hid (Below W2.heap.size W2 V) := B_W2.out.trans (hbV.mono B_W2.out.size)
    replace B_W5 : Hid (Below W5.heap.size W5 V) := B_W5.out.trans (hbV.mono B_W5.out.size)
    have B_V : Hid (Below V.heap.size V V) := Below.refl _ _
    have HAll : Hid (∀ j : Nat, j < 4 → ∃ xa xn xc xs, V.cell? ⟨W5.heap.size + 2, j, none⟩ = some (.slice xa xn xc) ∧ BsAt V xa xn xc xs ∧ xn ≤ 1048576 ∧ (j = 0 → xs = [true]) ∧ (j = 1 → xs = [false])) := by
      intro j hj
      match j, hj with
      | 0, _ => exact ⟨_, _, _, [true], cell_of GA.out 0, ⟨rfl, Nat.le_refl _, fun i x hi => by
          match i, hi with
          | 0, hi => cases hi; exact ⟨_, 0, rfl, lt_of_block gT, cell_of gT 0⟩⟩, by omega, fun _ => rfl, fun h => by omega⟩
      | 1, _ => exact ⟨_, _, _, [false], cell_of GA.out 1, ⟨rfl, Nat.le_refl _, fun i x hi => by
          match i, hi with
          | 0, hi => cases hi; exact ⟨_, 0, rfl, lt_of_block gF, cell_of gF 0⟩⟩, by omega, fun h => by omega, fun _ => rfl⟩
      | 2, _ => exact ⟨_, _, _, [], cell_of GA.out 2, ⟨rfl, Nat.le_refl _, fun i x hi => by cases hi⟩, by omega, fun h => by omega, fun h => by omega⟩
      | 3, _ => exact ⟨_, _, _, os, cell_of GA.out 3, HOs.out.later B_w.out, hn9, fun h => by omega, fun h => by omega⟩
    obtain ⟨A3, hA3⟩ : ∃ A3, A3 = W5.heap.size + 2 := ⟨_, rfl⟩
    have e3 : W5.heap.size + 1 + 1 = A3 := by omega
    rw [← hA3] at HAll
    have HltA : Hid (A3 < V.heap.size) := by rw [hA3]; exact lt_of_block GA.out
    clear hV hbV gT gF GA hA3
    rw [HV.out]
    skip
    go_wp2
    (try rw [e3])
    clear e3
    go_loopw [12] (fun i wr => ∃ j : Nat, i = .int .i64 (j : Int) ∧ j ≤ 4 ∧ Hid (Below V.heap.size V wr)) (fun i _ => 4 - (intOf i).toNat)
    case atStart => exact ⟨0, rfl, Nat.zero_le _, Below.refl _ _⟩
    case round =>
      obtain ⟨j, rfl, hj, HBV⟩ := hrel
      replace B_w : Hid (Below w.heap.size w wr) := B_w.out.trans (HBV.out.mono B_w.out.size)
      replace B_W1 : Hid (Below W1.heap.size W1 wr) := B_W1.out.trans (HBV.out.mono B_W1.out.size)
      replace B_W2 : Hid (Below W2.heap.size W2 wr) := B_W2.out.trans (HBV.out.mono B_W2.out.size)
      replace B_W5 : Hid (Below W5.heap.size W5 wr) := B_W5.out.trans (HBV.out.mono B_W5.out.size)
      replace B_V : Hid (Below V.heap.size V wr) := HBV.out
      clear HBV
      by_cases hlt : j < 4
      · obtain ⟨xa, xn, xc, xs, y0, hBs, hxn, hj0, hj1⟩ := HAll.out j hlt
        have HBs := Wk.hidQ hBs
        have HJ := Wk.hidQ (And.intro hj0 hj1)
        have HY := Wk.hidQ y0
        replace y0 := (B_V.out.cell (p := ⟨A3, j, none⟩) HltA.out).trans y0
        obtain ⟨B, hB⟩ : ∃ B, B = fB xs 0 (fo1 T) := ⟨_, rfl⟩
        have HB := Wk.hidQ hB
        have hMx := fun (w' : World) (hb : Below wr.heap.size wr w') => mixed_tree (w := w') (S := fun k => k < W1.heap.size) (fun k hk => by have := B_W1.out.size; have := hb.size; omega) (HTV.out.below (Kp.of_below (B_W1.out.trans (hb.mono B_W1.out.size)) (fun k hk => hk))) HOk.out (oa := xa) (oc := xc) (os := xs) (by rw [hBs.1]; omega) ((hBs.later B_V.out).later hb).2.2
        simp only [mix_tree, ← hB, hBs.1] at hMx
        clear hB hBs hj0 hj1
        have g5 := (B_W2.out.block _ (lt_of_block GW2.out)).trans GW2.out
        have x0 := cell_of g5 0
        have x1 := cell_of g5 1
        have x2 := cell_of g5 2
        have x3 := cell_of g5 3
        simp only [List.getElem?_toArray, List.getElem?_cons_zero, List.getElem?_cons_succ] at x0 x1 x2 x3
        clear g5
        have HKeep : Hid (∀ w', Below wr.heap.size wr w' → (w'.cell? ⟨A3, j, none⟩ = some (.slice xa xn xc)) ∧ (w'.cell? ⟨W1.heap.size, 0, none⟩ = some (.int .i64 K0) ∧ w'.cell? ⟨W1.heap.size, 1, none⟩ = some (.slice a1 n1 c1) ∧ w'.cell? ⟨W1.heap.size, 2, none⟩ = some (.slice a2 n2 c2) ∧ w'.cell? ⟨W1.heap.size, 3, none⟩ = some (.slice a3 n3 c3))) := fun w' hb => ⟨(hb.cell (p := ⟨A3, j, none⟩) (cell_lt y0)).trans y0, (hb.cell (p := ⟨W1.heap.size, 0, none⟩) (cell_lt x0)).trans x0, (hb.cell (p := ⟨W1.heap.size, 1, none⟩) (cell_lt x1)).trans x1, (hb.cell (p := ⟨W1.heap.size, 2, none⟩) (cell_lt x2)).trans x2, (hb.cell (p := ⟨W1.heap.size, 3, none⟩) (cell_lt x3)).trans x3⟩
        go_upto_region 12 with (fail)
        go_region_held3 (fun w' => (w'.cell? ⟨A3, j, none⟩ = some (.slice xa xn xc)) ∧ (w'.cell? ⟨W1.heap.size, 0, none⟩ = some (.int .i64 K0) ∧ w'.cell? ⟨W1.heap.size, 1, none⟩ = some (.slice a1 n1 c1) ∧ w'.cell? ⟨W1.heap.size, 2, none⟩ = some (.slice a2 n2 c2) ∧ w'.cell? ⟨W1.heap.size, 3, none⟩ = some (.slice a3 n3 c3))) (first | go_keep | (exact HKeep.out _ HBA.out)) (first | (go_at_call 19; refine (hMx _ (by first | exact Below.refl _ _ | exact Wk.below_dr (Below.refl _ _) | exact below_drewN (Below.refl _ _) _)).mono ?_; rintro e W6 ⟨v6, rfl, hO6, hb6⟩; obtain ⟨a, c, rfl, hR⟩ := hO6.row; have HBA : Hid (Below wr.heap.size wr W6) := (by first | exact hb6 | exact (Wk.below_dr (Below.refl _ _)).trans hb6 | exact ⟨hb6.os, hb6.tape, hb6.output, hb6.size, hb6.block⟩); have HOO := Wk.hidQ hR; clear hR hO6))
        skip
        clear hMx x0 x1 x2 x3 y0 HKeep
        have hBl : B.length = N := by rw [HB.out]; exact HNl.out xs
        rw [hBl] at HOO ⊢
        have HBl := Wk.hidQ hBl
        clear hBl
        replace B_w : Hid (Below w.heap.size w W6) := B_w.out.trans (HBA.out.mono B_w.out.size)
        replace B_W1 : Hid (Below W1.heap.size W1 W6) := B_W1.out.trans (HBA.out.mono B_W1.out.size)
        replace B_W2 : Hid (Below W2.heap.size W2 W6) := B_W2.out.trans (HBA.out.mono B_W2.out.size)
        replace B_W5 : Hid (Below W5.heap.size W5 W6) := B_W5.out.trans (HBA.out.mono B_W5.out.size)
        replace B_V : Hid (Below V.heap.size V W6) := B_V.out.trans (HBA.out.mono B_V.out.size)
        clear HBA
        have B_W6 : Hid (Below W6.heap.size W6 W6) := Below.refl _ _
        have g5 := (B_W2.out.block _ (lt_of_block GW2.out)).trans GW2.out
        have x0 := cell_of g5 0
        have x1 := cell_of g5 1
        have x2 := cell_of g5 2
        have x3 := cell_of g5 3
        simp only [List.getElem?_toArray, List.getElem?_cons_zero, List.getElem?_cons_succ] at x0 x1 x2 x3
        clear g5
        have hDp := callsIn_wide.1 (depth_any (n := 0) (w := W6) (f := fo1 T) (((HTV.out.below (Kp.of_below B_W1.out (fun k hk => hk)))).mono (S' := fun k => k < W6.heap.size) (fun k hk => by have := B_W1.out.size; omega)) (by have := cnt_fsum (fo1 T); have := HOk.out.sum; omega) (fun it hi => by have := tot_fsum (fo1 T) 1 0 it hi; have := HOk.out.sum; omega) (by rw [fsum_pre]; have := HOk.out.sum; omega))
        rw [dep_tree, ← Hd.out] at hDp
        go_wp2_with fail
        refine hDp.mono ?_
        rintro e W7 ⟨rfl, hb7⟩
        clear hDp x0 x1 x2 x3
        replace B_w : Hid (Below w.heap.size w W7) := B_w.out.trans (hb7.mono B_w.out.size)
        replace B_W1 : Hid (Below W1.heap.size W1 W7) := B_W1.out.trans (hb7.mono B_W1.out.size)
        replace B_W2 : Hid (Below W2.heap.size W2 W7) := B_W2.out.trans (hb7.mono B_W2.out.size)
        replace B_W5 : Hid (Below W5.heap.size W5 W7) := B_W5.out.trans (hb7.mono B_W5.out.size)
        replace B_V : Hid (Below V.heap.size V W7) := B_V.out.trans (hb7.mono B_V.out.size)
        replace B_W6 : Hid (Below W6.heap.size W6 W7) := B_W6.out.trans (hb7.mono B_W6.out.size)
        clear hb7
        have HS1 : Hid (parseS B ((d : Nat) : Int).toNat N = .ok (T, (List.range' 0 (fo1 T).cnt).map (orO xs)) (fB xs 0 (fo1 T)).length) := by show _ = _; rw [HB.out]; exact parse_tree Hwf.out xs (by rw [← Hd.out]; omega) (by rw [HNl.out]; omega)
        have HS2 : Hid (parseS B 256 65536 = .ok (T, (List.range' 0 (fo1 T).cnt).map (orO xs)) (fB xs 0 (fo1 T)).length) := by show _ = _; rw [HB.out]; exact parse_tree Hwf.out xs (by rw [← Hd.out]; omega) (by rw [HNl.out]; omega)
        have hPa := parse17_any (HOO.out.later B_W6.out) (by omega) (HE1.out.later B_W1.out) (md := (d : Int)) (mb := (N : Int)) (D := (d : Int)) (lim := N) (by omega) (by omega)
        rw [HS1.out] at hPa
        clear HS1
        go_wp2_with fail
        refine hPa.mono ?_
        rintro e W8 ⟨u1, rfl, hb8, hTu1⟩
        clear hPa
        obtain ⟨p1, q1, p2, q2, p3, q3, eu1, _⟩ := gm_slc hTu1
        subst eu1
        have HTu1 : Hid (TV (fun k => k < W8.heap.size) W8 (.agg #[.int .i64 K0, .slice p1 n1 q1, .slice p2 n2 q2, .slice p3 n3 q3]) T) := by obtain ⟨e0, e1, e2, e3⟩ := HKn.out; rw [e0, e1, e2, e3]; exact hTu1.mono (fun k hk => hk.2)
        clear hTu1
        replace B_w : Hid (Below w.heap.size w W8) := B_w.out.trans (hb8.mono B_w.out.size)
        replace B_W1 : Hid (Below W1.heap.size W1 W8) := B_W1.out.trans (hb8.mono B_W1.out.size)
        replace B_W2 : Hid (Below W2.heap.size W2 W8) := B_W2.out.trans (hb8.mono B_W2.out.size)
        replace B_W5 : Hid (Below W5.heap.size W5 W8) := B_W5.out.trans (hb8.mono B_W5.out.size)
        replace B_V : Hid (Below V.heap.size V W8) := B_V.out.trans (hb8.mono B_V.out.size)
        replace B_W6 : Hid (Below W6.heap.size W6 W8) := B_W6.out.trans (hb8.mono B_W6.out.size)
        clear hb8
        have B_W8 : Hid (Below W8.heap.size W8 W8) := Below.refl _ _
        obtain ⟨e0, e1, e2, e3⟩ := HKn.out
        simp only at e0 e1 e2 e3 ⊢
        rw [← e0, ← e1, ← e2, ← e3]
        clear e0 e1 e2 e3
        obtain ⟨X8, hX8⟩ : ∃ X8, X8 = W8.alloc (.cells #[.int .i64 K0, .slice p1 n1 q1, .slice p2 n2 q2, .slice p3 n3 q3] 31) := ⟨_, rfl⟩
        have HX8 : Hid (W8.alloc (.cells #[.int .i64 K0, .slice p1 n1 q1, .slice p2 n2 q2, .slice p3 n3 q3] 31) = X8) := hX8.symm
        have hbX8 : Below W8.heap.size W8 X8 := by rw [hX8]; exact alloc_below _
        have GX8 : Hid (X8.heap[W8.heap.size]? = some (.cells #[.int .i64 K0, .slice p1 n1 q1, .slice p2 n2 q2, .slice p3 n3 q3] 31 (0, 0))) := by rw [hX8]; exact heap_alloc_new _ _
        replace B_w : Hid (Below w.heap.size w X8) := B_w.out.trans (hbX8.mono B_w.out.size)
        replace B_W1 : Hid (Below W1.heap.size W1 X8) := B_W1.out.trans (hbX8.mono B_W1.out.size)
        replace B_W2 : Hid (Below W2.heap.size W2 X8) := B_W2.out.trans (hbX8.mono B_W2.out.size)
        replace B_W5 : Hid (Below W5.heap.size W5 X8) := B_W5.out.trans (hbX8.mono B_W5.out.size)
        replace B_V : Hid (Below V.heap.size V X8) := B_V.out.trans (hbX8.mono B_V.out.size)
        replace B_W6 : Hid (Below W6.heap.size W6 X8) := B_W6.out.trans (hbX8.mono B_W6.out.size)
        replace B_W8 : Hid (Below W8.heap.size W8 X8) := B_W8.out.trans (hbX8.mono B_W8.out.size)
        clear hX8 hbX8
        go_upto_region 14 with (fail)
        rw [HX8.out]
        have B_X8 : Hid (Below X8.heap.size X8 X8) := Below.refl _ _
        have hOr := orders17_any (HOO.out.later B_W6.out) (by omega) (HE1.out.later B_W1.out)
        rw [HS2.out] at hOr
        clear HS2
        go_wp2_with fail
        refine hOr.mono ?_
        rintro e W9 ⟨ov, rfl, hb9, hBo⟩
        clear hOr
        obtain ⟨va, vc, ev, hvc⟩ := bo_at hBo
        simp only [List.length_map, List.length_range', ← HCN.out] at ev
        subst ev
        have HVc : Hid (∀ (i : Nat), i < CN → ∃ g, va = some ⟨g, 0, none⟩ ∧ W9.cell? ⟨g, i, none⟩ = some (.bool (orO xs i))) := fun i hi => hvc i _ (by rw [List.getElem?_map, List.getElem?_range' (by rw [← HCN.out]; exact hi)]; simp)
        clear hvc hBo
        replace B_w : Hid (Below w.heap.size w W9) := B_w.out.trans (hb9.mono B_w.out.size)
        replace B_W1 : Hid (Below W1.heap.size W1 W9) := B_W1.out.trans (hb9.mono B_W1.out.size)
        replace B_W2 : Hid (Below W2.heap.size W2 W9) := B_W2.out.trans (hb9.mono B_W2.out.size)
        replace B_W5 : Hid (Below W5.heap.size W5 W9) := B_W5.out.trans (hb9.mono B_W5.out.size)
        replace B_V : Hid (Below V.heap.size V W9) := B_V.out.trans (hb9.mono B_V.out.size)
        replace B_W6 : Hid (Below W6.heap.size W6 W9) := B_W6.out.trans (hb9.mono B_W6.out.size)
        replace B_W8 : Hid (Below W8.heap.size W8 W9) := B_W8.out.trans (hb9.mono B_W8.out.size)
        replace B_X8 : Hid (Below X8.heap.size X8 W9) := B_X8.out.trans (hb9.mono B_X8.out.size)
        clear hb9
        have B_W9 : Hid (Below W9.heap.size W9 W9) := Below.refl _ _
        have g5 := (B_W2.out.block _ (lt_of_block GW2.out)).trans GW2.out
        have x0 := cell_of g5 0
        have x1 := cell_of g5 1
        have x2 := cell_of g5 2
        have x3 := cell_of g5 3
        simp only [List.getElem?_toArray, List.getElem?_cons_zero, List.getElem?_cons_succ] at x0 x1 x2 x3
        clear g5
        have g8 := (B_X8.out.block _ (lt_of_block GX8.out)).trans GX8.out
        have z0 := cell_of g8 0
        have z1 := cell_of g8 1
        have z2 := cell_of g8 2
        have z3 := cell_of g8 3
        simp only [List.getElem?_toArray, List.getElem?_cons_zero, List.getElem?_cons_succ] at z0 z1 z2 z3
        clear g8
        have hQ1 := treeEq_same (w := W9) (S1 := fun k => k < W1.heap.size) (S2 := fun k => k < W8.heap.size) (fun k hk => by have := B_W1.out.size; omega) (fun k hk => by have := B_W8.out.size; omega) (HTV.out.below (Kp.of_below B_W1.out (fun k hk => hk))) (HTu1.out.below (Kp.of_below B_W8.out (fun k hk => hk))) HOk.out
        have dn : ((N : Int) != (N : Int)) = false := by simp
        have dc : ((CN : Int) != (CN : Int)) = false := by simp
        go_wp2_with fail
        refine hQ1.mono ?_
        rintro e W10 ⟨rfl, hb10⟩
        clear hQ1 x0 x1 x2 x3 z0 z1 z2 z3 dn
        replace B_w : Hid (Below w.heap.size w W10) := B_w.out.trans (hb10.mono B_w.out.size)
        replace B_W1 : Hid (Below W1.heap.size W1 W10) := B_W1.out.trans (hb10.mono B_W1.out.size)
        replace B_W2 : Hid (Below W2.heap.size W2 W10) := B_W2.out.trans (hb10.mono B_W2.out.size)
        replace B_W5 : Hid (Below W5.heap.size W5 W10) := B_W5.out.trans (hb10.mono B_W5.out.size)
        replace B_V : Hid (Below V.heap.size V W10) := B_V.out.trans (hb10.mono B_V.out.size)
        replace B_W6 : Hid (Below W6.heap.size W6 W10) := B_W6.out.trans (hb10.mono B_W6.out.size)
        replace B_W8 : Hid (Below W8.heap.size W8 W10) := B_W8.out.trans (hb10.mono B_W8.out.size)
        replace B_X8 : Hid (Below X8.heap.size X8 W10) := B_X8.out.trans (hb10.mono B_X8.out.size)
        replace B_W9 : Hid (Below W9.heap.size W9 W10) := B_W9.out.trans (hb10.mono B_W9.out.size)
        clear hb10
        have B_W10 : Hid (Below W10.heap.size W10 W10) := Below.refl _ _
        go_wp2
        go_loopw [19] (fun i wk => ∃ k : Nat, i = .int .i64 (k : Int) ∧ k ≤ CN ∧ Hid (Below W10.heap.size W10 wk)) (fun i _ => CN - (intOf i).toNat)
        case atStart => exact ⟨0, rfl, Nat.zero_le _, Below.refl _ _⟩
        case round =>
          obtain ⟨k, rfl, hk, HBk⟩ := hrel
          replace B_w : Hid (Below w.heap.size w wr) := B_w.out.trans (HBk.out.mono B_w.out.size)
          replace B_W1 : Hid (Below W1.heap.size W1 wr) := B_W1.out.trans (HBk.out.mono B_W1.out.size)
          replace B_W2 : Hid (Below W2.heap.size W2 wr) := B_W2.out.trans (HBk.out.mono B_W2.out.size)
          replace B_W5 : Hid (Below W5.heap.size W5 wr) := B_W5.out.trans (HBk.out.mono B_W5.out.size)
          replace B_V : Hid (Below V.heap.size V wr) := B_V.out.trans (HBk.out.mono B_V.out.size)
          replace B_W6 : Hid (Below W6.heap.size W6 wr) := B_W6.out.trans (HBk.out.mono B_W6.out.size)
          replace B_W8 : Hid (Below W8.heap.size W8 wr) := B_W8.out.trans (HBk.out.mono B_W8.out.size)
          replace B_X8 : Hid (Below X8.heap.size X8 wr) := B_X8.out.trans (HBk.out.mono B_X8.out.size)
          replace B_W9 : Hid (Below W9.heap.size W9 wr) := B_W9.out.trans (HBk.out.mono B_W9.out.size)
          replace B_W10 : Hid (Below W10.heap.size W10 wr) := B_W10.out.trans (HBk.out.mono B_W10.out.size)
          clear HBk
          by_cases hlt2 : k < CN
          · have y0 := (B_V.out.cell (p := ⟨A3, j, none⟩) HltA.out).trans HY.out
            obtain ⟨g, rfl, o0⟩ := HVc.out k hlt2
            replace o0 := (B_W9.out.cell (p := ⟨g, k, none⟩) (cell_lt o0)).trans o0
            have hBs := HBs.out.later B_V.out
            obtain ⟨X, hX⟩ : ∃ X, X = orO xs k := ⟨_, rfl⟩
            have HX := Wk.hidQ hX
            rw [← hX] at o0
            clear hX
            have HBl2 := B_W10
            by_cases hx0 : xn = 0
            · have hXf : X = false := by
                rw [HX.out]
                have e : xs = [] := List.eq_nil_of_length_eq_zero (by rw [hBs.1]; exact hx0)
                rw [e]; rfl
              subst hXf
              subst hx0
              clear hBs
              go_wp2
              go_roundw
              case rel => exact ⟨k + 1, by go_num, by omega, B_W10⟩
              case measure => simp [intOf]; omega
            · obtain ⟨m, hm⟩ : ∃ m, m = min k (xn - 1) := ⟨_, rfl⟩
              obtain ⟨bb, oo, k1⟩ : ∃ bb oo, xa = some ⟨bb, oo, none⟩ ∧ wr.cell? ⟨bb, oo + m, none⟩ = some (.bool X) := by
                have hml : m < xs.length := by rw [hBs.1]; omega
                obtain ⟨b, o, e, _, hc⟩ := hBs.2.2 m (xs[m]) (List.getElem?_eq_getElem hml)
                refine ⟨b, o, e, ?_⟩
                have e2 : X = xs[m] := by
                  rw [HX.out]
                  unfold orO
                  rw [hBs.1, ← hm, List.getD_eq_getElem?_getD, List.getElem?_eq_getElem hml]
                  rfl
                rw [e2]
                exact hc
              obtain ⟨rfl, k1⟩ := k1
              have dx : decide ((0 : Int) < (xn : Int)) = true := by simp; omega
              have hXX : (X != X) = false := by simp
              have hxc := hBs.2.1
              clear hBs
              obtain ⟨Z, rfl⟩ : ∃ Z, xn = Z + 1 := ⟨xn - 1, by omega⟩
              by_cases hle : k ≤ Z
              · have e1 : m = k := by omega
                rw [e1] at k1
                clear e1 hm
                go_upto_region 22 with (fail)
                go_quiet (fail)
                go_wp2
                go_roundw
                case rel => exact ⟨k + 1, by go_num, by omega, ⟨B_W10.out.os, B_W10.out.tape, B_W10.out.output, B_W10.out.size, B_W10.out.block⟩⟩
                case measure => simp [intOf]; omega
              · have e1 : m = Z := by omega
                have hZk : Z < k := by omega
                rw [e1] at k1
                clear e1 hm
                go_upto_region 22 with (fail)
                go_quiet (fail)
                go_wp2
                go_roundw
                case rel => exact ⟨k + 1, by go_num, by omega, ⟨B_W10.out.os, B_W10.out.tape, B_W10.out.output, B_W10.out.size, B_W10.out.block⟩⟩
                case measure => simp [intOf]; omega
          · skip
            clear HVc HY HBs
            by_cases hj2 : j < 2
            · have hj01 : j = 0 ∨ j = 1 := by omega
              rcases hj01 with hj0 | hj0
              · subst hj0
                have hxs : xs = [true] := HJ.out.1 rfl
                have HB2 : Hid (B = fB [true] 0 (fo1 T)) := by rw [← hxs]; exact HB.out
                clear hxs
                have g5 := (B_W2.out.block _ (lt_of_block GW2.out)).trans GW2.out
                have x0 := cell_of g5 0
                have x1 := cell_of g5 1
                have x2 := cell_of g5 2
                have x3 := cell_of g5 3
                simp only [List.getElem?_toArray, List.getElem?_cons_zero, List.getElem?_cons_succ] at x0 x1 x2 x3
                clear g5
                have hPr := print_tree (w := wr) (S := fun k => k < W1.heap.size) (fun k hk => by have := B_W1.out.size; omega) (HTV.out.below (Kp.of_below B_W1.out (fun k hk => hk))) HOk.out true
                rw [mix_tree, ← HB2.out] at hPr
                go_wp2_with fail
                refine hPr.mono ?_
                rintro e W11 ⟨v11, rfl, hO11, hb11⟩
                obtain ⟨a11, c11, rfl, hR11⟩ := hO11.row
                rw [HBl.out] at hR11 ⊢
                clear hPr hO11 x0 x1 x2 x3
                replace B_w : Hid (Below w.heap.size w W11) := B_w.out.trans (hb11.mono B_w.out.size)
                replace B_W1 : Hid (Below W1.heap.size W1 W11) := B_W1.out.trans (hb11.mono B_W1.out.size)
                replace B_W2 : Hid (Below W2.heap.size W2 W11) := B_W2.out.trans (hb11.mono B_W2.out.size)
                replace B_W5 : Hid (Below W5.heap.size W5 W11) := B_W5.out.trans (hb11.mono B_W5.out.size)
                replace B_V : Hid (Below V.heap.size V W11) := B_V.out.trans (hb11.mono B_V.out.size)
                replace B_W6 : Hid (Below W6.heap.size W6 W11) := B_W6.out.trans (hb11.mono B_W6.out.size)
                replace B_W8 : Hid (Below W8.heap.size W8 W11) := B_W8.out.trans (hb11.mono B_W8.out.size)
                replace B_X8 : Hid (Below X8.heap.size X8 W11) := B_X8.out.trans (hb11.mono B_X8.out.size)
                replace B_W9 : Hid (Below W9.heap.size W9 W11) := B_W9.out.trans (hb11.mono B_W9.out.size)
                replace B_W10 : Hid (Below W10.heap.size W10 W11) := B_W10.out.trans (hb11.mono B_W10.out.size)
                clear hb11
                have hSm := same17_same (HOO.out.later B_W6.out) hR11
                clear hR11
                go_wp2_with fail
                refine hSm.mono ?_
                rintro e W12 ⟨rfl, dd, rfl⟩
                clear hSm
                go_wp2
                go_roundw
                case rel => exact ⟨0 + 1, by go_num, by omega, ⟨B_V.out.os, B_V.out.tape, B_V.out.output, B_V.out.size, B_V.out.block⟩⟩
                case measure => simp [intOf]
              · subst hj0
                have hxs : xs = [false] := HJ.out.2 rfl
                have HB2 : Hid (B = fB [false] 0 (fo1 T)) := by rw [← hxs]; exact HB.out
                clear hxs
                have g5 := (B_W2.out.block _ (lt_of_block GW2.out)).trans GW2.out
                have x0 := cell_of g5 0
                have x1 := cell_of g5 1
                have x2 := cell_of g5 2
                have x3 := cell_of g5 3
                simp only [List.getElem?_toArray, List.getElem?_cons_zero, List.getElem?_cons_succ] at x0 x1 x2 x3
                clear g5
                have hPr := print_tree (w := wr) (S := fun k => k < W1.heap.size) (fun k hk => by have := B_W1.out.size; omega) (HTV.out.below (Kp.of_below B_W1.out (fun k hk => hk))) HOk.out false
                rw [mix_tree, ← HB2.out] at hPr
                go_wp2_with fail
                refine hPr.mono ?_
                rintro e W11 ⟨v11, rfl, hO11, hb11⟩
                obtain ⟨a11, c11, rfl, hR11⟩ := hO11.row
                rw [HBl.out] at hR11 ⊢
                clear hPr hO11 x0 x1 x2 x3
                replace B_w : Hid (Below w.heap.size w W11) := B_w.out.trans (hb11.mono B_w.out.size)
                replace B_W1 : Hid (Below W1.heap.size W1 W11) := B_W1.out.trans (hb11.mono B_W1.out.size)
                replace B_W2 : Hid (Below W2.heap.size W2 W11) := B_W2.out.trans (hb11.mono B_W2.out.size)
                replace B_W5 : Hid (Below W5.heap.size W5 W11) := B_W5.out.trans (hb11.mono B_W5.out.size)
                replace B_V : Hid (Below V.heap.size V W11) := B_V.out.trans (hb11.mono B_V.out.size)
                replace B_W6 : Hid (Below W6.heap.size W6 W11) := B_W6.out.trans (hb11.mono B_W6.out.size)
                replace B_W8 : Hid (Below W8.heap.size W8 W11) := B_W8.out.trans (hb11.mono B_W8.out.size)
                replace B_X8 : Hid (Below X8.heap.size X8 W11) := B_X8.out.trans (hb11.mono B_X8.out.size)
                replace B_W9 : Hid (Below W9.heap.size W9 W11) := B_W9.out.trans (hb11.mono B_W9.out.size)
                replace B_W10 : Hid (Below W10.heap.size W10 W11) := B_W10.out.trans (hb11.mono B_W10.out.size)
                clear hb11
                have hSm := same17_same (HOO.out.later B_W6.out) hR11
                clear hR11
                go_wp2_with fail
                refine hSm.mono ?_
                rintro e W12 ⟨rfl, dd, rfl⟩
                clear hSm
                go_wp2
                go_roundw
                case rel => exact ⟨1 + 1, by go_num, by omega, ⟨B_V.out.os, B_V.out.tape, B_V.out.output, B_V.out.size, B_V.out.block⟩⟩
                case measure => simp [intOf]
            · have dj : decide ((j : Int) < 2) = false := by simp; omega
              go_wp2
              go_roundw
              case rel => exact ⟨j + 1, by go_num, by omega, B_V⟩
              case measure => simp [intOf]; omega
      · have hj4 : ¬ ((j : Int) < 4) := by omega
        clear HAll
        go_wp2
        go_ret
        exact ⟨rfl, B_w.out⟩
end Go.Proofs.YtgobnjeankjkjaaGreatDoor

