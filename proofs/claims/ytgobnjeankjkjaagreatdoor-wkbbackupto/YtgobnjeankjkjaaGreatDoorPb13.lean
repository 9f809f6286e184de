import Derived.Below
import Derived.BigQuiet
import Derived.ChangeOld
import Derived.Deep.QuietTactic
import Derived.Deep.RegionHeld3
import Derived.Laws.BitsAllLaws
import Derived.Laws.Rows
import Derived.LoopIn
import Derived.LoopNIn
import Derived.OpenShut
import Derived.OwnWalk
import Derived.OwnWalkIn
import Derived.ProofKit
import Derived.RangeFuncBound
import Derived.RangeFuncLeaves
import Derived.RangeFuncNested
import Derived.Shelf.Abstract
import Derived.Shelf.RegionOpen
import Derived.ShutString
import Derived.StillTailTactics
import Derived.TacticsInMore
import Derived.WalkKit
import Derived.WalkLawsBesides
import Derived.WalkSpells
import Derived.Test.YtgobnjeankjkjaaGreatDoorPb2
import Derived.Test.YtgobnjeankjkjaaGreatDoorPb6
import Derived.Test.YtgobnjeankjkjaaGreatDoorPb10
/- tree: isNumber, finite. -/
namespace Go.Proofs.YtgobnjeankjkjaaGreatDoor
open Go.ChangeShapes Go.WideShapes Go.ChangeAt Go.RowKit Go.Shelf
open Tr Rf Ar
set_option linter.unusedVariables false
attribute [local go_sem] Oper.semAt_some
namespace Tr
def numB (x : Int) : Bool := (clsW x != 3) && (clsW x != 4)
def okP (p : Pt) : Bool := numB p.1 && numB p.2
def finB (g : Gm) : Bool := (g.line :: g.rings).all (fun l => l.all okP)
theorem Pts.at_ {S : Nat → Prop} {W : World} {a : Option Addr} {n c i : Nat} {l : List Pt} {p : Pt} (h : Pts S W (.slice a n c) l) (hi : l[i]? = some p) : ∃ b o, a = some ⟨b, o, none⟩ ∧ S b ∧ U6 p.1 ∧ U6 p.2 ∧ W.cell? ⟨b, o + i * 2, none⟩ = some (.int .u64 p.1) ∧ W.cell? ⟨b, o + i * 2 + 1, none⟩ = some (.int .u64 p.2) := by
  obtain ⟨_, a', c', e, hc⟩ := h
  injection e with e1 e2 e3
  subst e1
  obtain ⟨b, o, h1, h2, h3, h4, h5, h6⟩ := hc i p hi
  rw [Nat.mul_comm] at h5 h6
  exact ⟨b, o, h1, h2, h3, h4, h5, h6⟩
theorem all_take {l : List Pt} {j : Nat} {q : Pt} (h : l[j]? = some q) : (l.take (j + 1)).all okP = ((l.take j).all okP && okP q) := by
  rw [List.take_add_one, h, List.all_append]
  simp
theorem all_takeL {l : List (List Pt)} {j : Nat} {q : List Pt} (h : l[j]? = some q) : (l.take (j + 1)).all (fun l => l.all okP) = ((l.take j).all (fun l => l.all okP) && q.all okP) := by
  rw [List.take_add_one, h, List.all_append]
  simp
end Tr
set_option maxHeartbeats 1000000 in
theorem isNumber_any {x : Int} (hx : U6 x) (w : World) : Calls Tryz.prog 95 #[.int .u64 x] w fun e w' => e = .returned (.bool (numB x)) ∧ w' = w := by
  have hC := fun w => f6Class_any (b := x) hx w
  unfold numB
  obtain ⟨c, hc⟩ : ∃ c, c = clsW x := ⟨_, rfl⟩
  rw [← hc] at hC ⊢
  clear hc
  obtain ⟨x1, h1⟩ : ∃ x1, x1 = (c != 3) := ⟨_, rfl⟩
  obtain ⟨x2, h2⟩ : ∃ x2, x2 = (c != 4) := ⟨_, rfl⟩
  rw [← h1, ← h2]
  have h1' := h1.symm
  have h2' := h2.symm
  clear h1 h2
  cases x1 <;> cases x2 <;> (go_enter Tryz.func95, Tryz.ntmps95; go_wp2_with (go_at_call 112; refine (hC _).mono ?_; rintro e w' ⟨rfl, rfl⟩); go_ret; exact ⟨rfl, rfl⟩)
set_option maxRecDepth 100000 in
set_option maxHeartbeats 2000000 in
theorem finite_any {n b o : Nat} {S : Nat → Prop} {g : Gm} {v : Value} {w : World} (hG : GmAt S w b o g v) (hS : ∀ k, S k → k < w.heap.size) :
    CallsIn Fence.wide n Tryz.prog 70 #[.pointer (some ⟨b, o, none⟩)] w fun e w' => e = .returned (.bool (finB g)) ∧ Below w.heap.size w w' := by
  refine callsIn_of_wp_marks Tryz.func70 rfl trivial ?_ rfl
  simp only [Tryz.ntmps70, List.size_toArray, List.length_cons, List.length_nil, Nat.reduceAdd, Nat.reduceSub, Array.replicate_succ, Array.replicate_zero, List.push_toArray, List.append_toArray, List.nil_append, List.cons_append]
  gi_wp2
  refine ⟨trivial, fun h => (by cases h), (lists_any _ _).mono ?_⟩
  rintro e w' ⟨rfl, rfl⟩
  gi_wp2
  have b1 := (Boxed.new w 4 (.bool false)).alloc (.cells #[.pointer (some ⟨b, o, none⟩)] 99)
  have b2 := Boxed.new (w.alloc (.cells #[.bool false] 4)) 99 (.pointer (some ⟨b, o, none⟩))
  have hb0 : Below w.heap.size w ((w.alloc (.cells #[.bool false] 4)).alloc (.cells #[.pointer (some ⟨b, o, none⟩)] 99)) := ((Below.refl _ w).alloc (Nat.le_refl _) _).alloc (by simp) _
  have hz : ((w.alloc (.cells #[.bool false] 4)).alloc (.cells #[.pointer (some ⟨b, o, none⟩)] 99)).heap.size = w.heap.size + 2 := by simp
  simp only [World.size_alloc] at b2
  obtain ⟨W0, hW0⟩ : ∃ W0, W0 = (w.alloc (.cells #[.bool false] 4)).alloc (.cells #[.pointer (some ⟨b, o, none⟩)] 99) := ⟨_, rfl⟩
  rw [← hW0] at b1 b2 hb0 hz ⊢
  clear hW0
  have hkp : Kp S w W0 := Kp.of_below hb0 hS
  refine wpIn_lists (S := fun k => S k ∨ k = w.heap.size + 1) rfl (fun k hk => by rcases hk with hk | hk; have := hS k hk; omega; omega) b2.cell (.inr rfl) ((hG.below hkp).mono (fun k hk => .inl hk))
    (fun k W => (Boxed W w.heap.size 4 (.bool false) ∧ ((g.line :: g.rings).take k).all (fun l => l.all okP) = true) ∧ Below w.heap.size w W)
    (fun c W => (c = .ret ∧ finB g = false ∧ Boxed W w.heap.size 4 (.bool false)) ∧ Below w.heap.size w W)
    (OwnFrom.and (OwnFrom.and (Own.from (boxed_own _ _ _) _) (fun _ _ _ _ h _ _ => h)) (ownFrom_below (Nat.le_refl _) (by omega)))
    (OwnFrom.and (fun c X Y row ⟨h1, h2, h3⟩ hg hr => ⟨h1, h2, boxed_own w.heap.size 4 (fun (_ : Unit) => Value.bool false) () X Y row h3 hg (fun r e => (hr r e).2)⟩) (ownFrom_below (Nat.le_refl _) (by omega)))
    ⟨⟨b1, rfl⟩, hb0⟩ ?round ?done ?stop
  case round =>
    rintro l k p a4 c4 W hl hWz hp ⟨⟨c1, hall⟩, hE⟩ hP
    simp only [List.setIfInBounds_toArray, List.set_cons_succ, List.set_cons_zero]
    have HA : Hid (((g.line :: g.rings).take k).all (fun l => l.all okP) = true) := hall
    have HPp : Hid ((g.line :: g.rings)[k]? = some p) := hp
    have HPt : Hid (Pts (fun k => S k ∨ k = w.heap.size + 1) W (.slice a4 p.length c4) p) := hP
    have hpl := hP.1
    clear hall hp hP
    gi_wp2
    refine ⟨KeepsFrom.refl _ _, fun W2 hT => ?_⟩
    have hSl : ∀ k, (S k ∨ k = w.heap.size + 1) → k < l := fun k hk => by rcases hk with hk | hk; have := hS k hk; omega; omega
    have hK2 : Kp (fun k => S k ∨ k = w.heap.size + 1) W W2 := Turn_kp hT hSl
    replace c1 : Boxed W2 _ _ _ := hT.cells c1 rfl
    have hE2 : Below w.heap.size w W2 := hE.trans (hT.below (by omega))
    have hz2 : W2.heap.size = W.heap.size := hT.size
    have HPt2 : Hid (Pts (fun k => S k ∨ k = w.heap.size + 1) W2 (.slice a4 p.length c4) p) := HPt.out.below hK2
    have HZ : Hid (W2.heap.size = W.heap.size ∧ ∀ k, (S k ∨ k = w.heap.size + 1) → k < W2.heap.size) := ⟨hz2, fun k hk => by rcases hk with hk | hk; have := hS k hk; omega; omega⟩
    clear hT hz2 HPt hSl
    gi_wp2
    gi_loopw [11] (fun i wr => ∃ j : Nat, i = .int .i64 j ∧ j ≤ p.length ∧ Hid ((p.take j).all okP = true ∧ Below W2.heap.size W2 wr)) (fun i _ => p.length - (intOf i).toNat)
    case atStart => exact ⟨0, rfl, by omega, rfl, Below.refl _ _⟩
    case round =>
      obtain ⟨j, rfl, hj, HJ⟩ := hrel
      by_cases hlt : j < p.length
      · obtain ⟨q, hq⟩ : ∃ q, p[j]? = some q := ⟨_, List.getElem?_eq_getElem hlt⟩
        obtain ⟨b3, o3, rfl, hb3, u1, u2, y1, y2⟩ := HPt2.out.at_ hq
        have hbw := HJ.out.2
        have hlb := HZ.out.2 _ hb3
        have z1 : wr.cell? ⟨b3, o3 + j * 2, none⟩ = some (.int .u64 q.1) := (hbw.cell (p := ⟨b3, o3 + j * 2, none⟩) hlb).trans y1
        have z2 : wr.cell? ⟨b3, o3 + j * 2 + 1, none⟩ = some (.int .u64 q.2) := (hbw.cell (p := ⟨b3, o3 + j * 2 + 1, none⟩) hlb).trans y2
        have hN1 := fun w => (callsIn_wide (n := n - 1)).2 (isNumber_any u1 w)
        have hN2 := fun w => (callsIn_wide (n := n - 1)).2 (isNumber_any u2 w)
        have hd : decide ((j : Int) < (p.length : Int)) = true := by simp; omega
        have hs1 := all_take hq
        have cR : Boxed wr w.heap.size 4 (.bool false) := (hbw.block _ c1.lt).trans c1
        have cR1 := cR.alloc (.cells #[.int .u64 q.1, .int .u64 q.2] 39)
        have xr := cR1.cell
        have fr := cR1.frozen
        have HB1 : Hid (Below W2.heap.size W2 (wr.alloc (.cells #[.int .u64 q.1, .int .u64 q.2] 39))) := hbw.alloc hbw.size _
        have HOK : Hid (okP q = (numB q.1 && numB q.2)) := rfl
        have HFa : Hid (okP q = false → finB g = false) := fun h => by
          unfold finB
          rw [List.all_eq_false]
          refine ⟨p, List.mem_of_getElem? HPp.out, ?_⟩
          simp only [Bool.not_eq_true]
          rw [List.all_eq_false]
          exact ⟨q, List.mem_of_getElem? hq, by simp [h]⟩
        have HTk : Hid ((p.take (j + 1)).all okP = ((p.take j).all okP && okP q)) := hs1
        clear hs1 y1 y2 hbw hlb hq
        obtain ⟨x1, h1⟩ : ∃ x, x = numB q.1 := ⟨_, rfl⟩
        obtain ⟨x2, h2⟩ : ∃ x, x = numB q.2 := ⟨_, rfl⟩
        rw [← h1] at hN1 HOK
        rw [← h2] at hN2 HOK
        clear h1 h2
        cases x1 with
        | false =>
          gi_wp2
          refine ⟨trivial, fun h => (by cases h), CallsIn.inRound l ((hN1 _).mono ?_)⟩
          rintro e w9 ⟨rfl, hw⟩
          rw [hw]
          clear hw
          gi_wp2
          refine ⟨trivial, ?_⟩
          gi_wp2
          have hz9 := HZ.out.1
          have hb9 := HB1.out
          exact ⟨(show KeepsFrom W0.heap.size W2 (wr.alloc (.cells #[.int .u64 q.1, .int .u64 q.2] 39)) from ⟨hb9.size, fun k ob _ h0 _ => (hb9.block k (Array.getElem?_eq_some_iff.1 h0).1).trans h0⟩).trans (keeps_set _ _ _ _), ⟨rfl, HFa.out (by rw [HOK.out]; rfl), cR1.set _⟩, (hE2.trans (hb9.mono hE2.size)).setCell (p := ⟨w.heap.size, 0, none⟩) (Nat.le_refl _) _⟩
        | true =>
          gi_wp2
          refine ⟨trivial, fun h => (by cases h), CallsIn.inRound l ((hN1 _).mono ?_)⟩
          rintro e w9 ⟨rfl, hw⟩
          rw [hw]
          clear hw
          gi_wp2
          refine ⟨trivial, fun h => (by cases h), CallsIn.inRound l ((hN2 _).mono ?_)⟩
          rintro e w9 ⟨rfl, hw⟩
          rw [hw]
          clear hw
          cases x2 with
          | false =>
            gi_wp2
            have hz9 := HZ.out.1
            have hb9 := HB1.out
            exact ⟨(show KeepsFrom W0.heap.size W2 (wr.alloc (.cells #[.int .u64 q.1, .int .u64 q.2] 39)) from ⟨hb9.size, fun k ob _ h0 _ => (hb9.block k (Array.getElem?_eq_some_iff.1 h0).1).trans h0⟩).trans (keeps_set _ _ _ _), ⟨rfl, HFa.out (by rw [HOK.out]; rfl), cR1.set _⟩, (hE2.trans (hb9.mono hE2.size)).setCell (p := ⟨w.heap.size, 0, none⟩) (Nat.le_refl _) _⟩
          | true =>
            have hw : wrap64 ((j : Int) + 1) = (j : Int) + 1 := by unfold wrap64; omega
            gi_wp2
            go_roundw
            case rel => exact ⟨j + 1, by simp, by omega, by rw [HTk.out, HJ.out.1, HOK.out]; rfl, HB1.out⟩
            case measure => simp [intOf]; omega
      · have hd : decide ((j : Int) < (p.length : Int)) = false := by simp; omega
        have hjj : j = p.length := by omega
        have hJ1 := HJ.out.1
        have hbw := HJ.out.2
        rw [hjj, List.take_length] at hJ1
        have HA2 : Hid (((g.line :: g.rings).take (k + 1)).all (fun l => l.all okP) = true) := by show _ = _; rw [all_takeL HPp.out, HA.out, hJ1]; rfl
        have cR : Boxed wr w.heap.size 4 (.bool false) := (hbw.block _ c1.lt).trans c1
        have hz9 := HZ.out.1
        have HF9 : Hid (KeepsFrom W0.heap.size W2 wr ∧ Kp (fun k => S k ∨ k = w.heap.size + 1) W wr ∧ Below w.heap.size w wr) := ⟨⟨hbw.size, fun k ob _ h0 _ => (hbw.block k (Array.getElem?_eq_some_iff.1 h0).1).trans h0⟩, hK2.trans (Kp.of_below hbw HZ.out.2), hE2.trans (hbw.mono hE2.size)⟩
        clear hJ1 hjj hbw hz9
        gi_wp2
        exact ⟨HF9.out.1, ⟨⟨cR, HA2.out⟩, HF9.out.2.2⟩, HF9.out.2.1⟩
  case done =>
    rintro D W hD ⟨⟨c1, hall⟩, hE⟩ hK
    have HT : Hid (finB g = true) := by
      show _ = _
      unfold finB
      rw [List.take_of_length_le (by simp)] at hall
      exact hall
    have x1 := c1.cell
    have f1 := c1.frozen
    clear hall
    gi_wp2
    have hK' := (KeepsOthers.setCell W ⟨w.heap.size, 0, none⟩ (.bool true)).same D _ hK rfl
    refine ⟨by simp, .inl ⟨_, _, rfl, run_takeDeferred hK', ?_⟩⟩
    have x9 := (boxed_own w.heap.size 4 (fun (_ : Unit) => Value.bool true) () _ _ _ (c1.set _) (grownBy_putObj' _ D (.deferred none)) (fun r e => by cases e; exact ⟨_, hK', rfl⟩)).cell
    refine ⟨.bool true, by simp [results, Tryz.results70, go_sem, x9], by rw [HT.out], (hE.setCell (p := ⟨w.heap.size, 0, none⟩) (Nat.le_refl _) _).trans ((Below.refl _ _).grown (grownBy_putObj' _ D _) (by have := hE.size; simp [World.setCell]; omega) (fun r e => by cases e; omega))⟩
  case stop =>
    rintro D c W hD ⟨⟨rfl, hf, c1⟩, hE⟩ hK
    gi_wp2
    refine ⟨by simp, .inl ⟨_, _, rfl, run_takeDeferred hK, ?_⟩⟩
    have x9 := (boxed_own w.heap.size 4 (fun (_ : Unit) => Value.bool false) () _ _ _ c1 (grownBy_putObj' _ D (.deferred none)) (fun r e => by cases e; exact ⟨_, hK, rfl⟩)).cell
    refine ⟨.bool false, by simp [results, Tryz.results70, go_sem, x9], by rw [hf], hE.trans ((Below.refl _ _).grown (grownBy_putObj' _ D _) (by have := hE.size; omega) (fun r e => by cases e; omega))⟩
end Go.Proofs.YtgobnjeankjkjaaGreatDoor

/- (*tree.look).wrong. -/
namespace Go.Proofs.YtgobnjeankjkjaaGreatDoor
open Go.ChangeShapes Go.WideShapes Go.ChangeAt Go.RowKit Go.Shelf
open Tr Rf
set_option linter.unusedVariables false
namespace Tr
/-- what is wrong with a geometry -/
def wrongC (lev : Nat) (home : Int) (g : Gm) (pl : Nat) (R : Int) : Int :=
  if 256 < lev then 151 else if (fitsB home g.kind && shapedB g pl) = false then 150 else if ¬ tot g + 1 ≤ R then 152 else if finB g = false then 155 else 0
end Tr
set_option maxRecDepth 100000 in
set_option maxHeartbeats 2000000 in
theorem wrong_any {gl b o pl lev num pc : Nat} {home : Int} {S : Nat → Prop} {g : Gm} {pa : Option Addr} {R : Int} {w : World} (hr : Boxed w gl 138 (.int .i64 R)) (hSg : ∀ k, S k → k ≠ gl) (hSw : ∀ k, S k → k < w.heap.size) (hG : GmAt S w b o g (.slice pa pl pc)) (hpl : pl ≤ 1048576)
    (r0 : -1099511627776 ≤ R) (r1 : R ≤ 1099511627776) (ht : tot g ≤ 1099511627776) (hlev : lev ≤ 1099511627776) :
    Calls Tryz.prog 41 #[.pointer (some ⟨gl, 0, none⟩), .agg #[.pointer (some ⟨b, o, none⟩), .int .i64 num, .int .i64 lev, .int .i64 home]] w fun e w' => e = .returned (.int .i64 (wrongC lev home g pl R)) ∧ (∃ R', Boxed w' gl 138 (.int .i64 R') ∧ (wrongC lev home g pl R = 0 → R' = R - 1 - tot g)) ∧ Ex gl w w' := by
  have hgl := hr.lt
  obtain ⟨W0, hW0⟩ : ∃ W0, W0 = w.alloc (.cells #[.pointer (some ⟨b, o, none⟩), .int .i64 num, .int .i64 lev, .int .i64 home] 101) := ⟨_, rfl⟩
  have hE0 : Ex gl w W0 := by rw [hW0]; exact (Ex.refl gl w).alloc _
  have hat : W0.heap[w.heap.size]? = some (.cells #[.pointer (some ⟨b, o, none⟩), .int .i64 num, .int .i64 lev, .int .i64 home] 101 (0, 0)) := by rw [hW0]; exact World.alloc_heap_new w _
  have hz0 : W0.heap.size = w.heap.size + 1 := by rw [hW0]; simp
  have hr0 : Boxed W0 gl 138 (.int .i64 R) := by rw [hW0]; exact hr.alloc _
  have hG0 : GmAt S W0 b o g (.slice pa pl pc) := hG.below ⟨hE0.size, fun k hk => hE0.block k (hSw k hk) (hSg k hk)⟩
  have s0 : W0.cell? ⟨w.heap.size, 0, none⟩ = some (.pointer (some ⟨b, o, none⟩)) := cell_of hat 0
  have s2 : W0.cell? ⟨w.heap.size, 2, none⟩ = some (.int .i64 lev) := cell_of hat 2
  have s3 : W0.cell? ⟨w.heap.size, 3, none⟩ = some (.int .i64 home) := cell_of hat 3
  have k0 := hG0.2.2.1
  have hFt := fun m => fits_any home g.kind (W0.drewN m)
  have hSh := fun m => shaped_any (hG0.below (W' := W0.drewN m) ⟨Nat.le_refl _, fun _ _ => rfl⟩) hpl
  by_cases c1 : 256 < lev
  · have d1 : decide ((256 : Int) < (lev : Int)) = true := by simp; omega
    have HC : Hid (wrongC lev home g pl R = 151) := by show _ = _; unfold wrongC; rw [if_pos c1]
    rw [HC.out]
    have hend : (∃ R', Boxed W0 gl 138 (.int .i64 R') ∧ ((151 : Int) = 0 → R' = R - 1 - tot g)) ∧ Ex gl w W0 := ⟨⟨R, hr0, fun h => by cases h⟩, hE0⟩
    rw [hW0] at hend
    have HEn : Hid _ := hend
    clear hFt hSh hend hW0 hE0 hat hz0 hr0 hG0 s0 s2 s3 k0 hr
    go_enter Tryz.func41, Tryz.ntmps41
    go_wp2
    go_ret
    exact ⟨rfl, HEn.out⟩
  · have d1 : decide ((256 : Int) < (lev : Int)) = false := by simp; omega
    obtain ⟨fb, hfb⟩ : ∃ fb, fb = fitsB home g.kind := ⟨_, rfl⟩
    obtain ⟨sb, hsb⟩ : ∃ sb, sb = shapedB g pl := ⟨_, rfl⟩
    rw [← hfb] at hFt
    rw [← hsb] at hSh
    have HC : Hid (wrongC lev home g pl R = if (fb && sb) = false then 150 else if ¬ tot g + 1 ≤ R then 152 else if finB g = false then 155 else 0) := by
      show _ = _
      rw [hfb, hsb]
      unfold wrongC
      rw [if_neg c1]
    clear hfb hsb
    rw [HC.out]
    have HEn : Hid ((∃ R', Boxed W0 gl 138 (.int .i64 R') ∧ ((150 : Int) = 0 → R' = R - 1 - tot g)) ∧ Ex gl w W0) := ⟨⟨R, hr0, fun h => by cases h⟩, hE0⟩
    have quiet_end : ∀ m, Ex gl w (W0.drewN m) := fun m => ⟨hE0.os, hE0.tape, hE0.output, hE0.size, hE0.block⟩
    by_cases hb : (fb && sb) = false
    · rw [if_pos hb]
      have HQ : Hid (∀ m, (∃ R', Boxed (W0.drewN m) gl 138 (.int .i64 R') ∧ ((150 : Int) = 0 → R' = R - 1 - tot g)) ∧ Ex gl w (W0.drewN m)) := fun m => ⟨⟨R, hr0, fun h => by cases h⟩, quiet_end m⟩
      clear HC HEn quiet_end hr hG hG0 hE0 hat hr0 hz0 s2
      go_enter Tryz.func41, Tryz.ntmps41
      cases fb with
      | false =>
        clear hb
        go_wp2
        rw [← hW0]
        clear hW0
        go_quiet (first | (go_at_call 67; exact Calls.quiet_of_same (hFt _)))
        go_wp2
        go_ret
        exact ⟨rfl, HQ.out _⟩
      | true =>
        have hsf : sb = false := by simpa using hb
        subst hsf
        clear hb
        go_wp2
        rw [← hW0]
        clear hW0
        go_quiet (first | (go_at_call 67; exact Calls.quiet_of_same (hFt _)) | (go_at_call 68; exact Calls.quiet_of (hSh _)))
        go_wp2
        go_ret
        exact ⟨rfl, HQ.out _⟩
    · have hft : fb = true ∧ sb = true := by cases fb <;> cases sb <;> simp_all
      obtain ⟨rfl, rfl⟩ := hft
      rw [if_neg hb]
      clear hb
      obtain ⟨C, hCC⟩ : ∃ C : Int, C = if ¬ tot g + 1 ≤ R then 152 else if finB g = false then 155 else 0 := ⟨_, rfl⟩
      rw [← hCC]
      have HCC : Hid (C = if ¬ tot g + 1 ≤ R then 152 else if finB g = false then 155 else 0) := hCC
      clear hCC
      have hTk : ∀ w1 : World, (∀ k, w1.heap[k]? = W0.heap[k]?) → w1.heap.size = W0.heap.size → w1.os = W0.os → w1.tape = W0.tape → w1.output = W0.output → Calls Tryz.prog 69 #[.pointer (some ⟨gl, 0, none⟩), .pointer (some ⟨b, o, none⟩)] w1 fun e w' => e = .returned (.bool (decide (tot g + 1 ≤ R))) ∧ (∃ R', Boxed w' gl 138 (.int .i64 R') ∧ (tot g + 1 ≤ R → R' = R - 1 - tot g)) ∧ Ex gl W0 w' := fun w1 h1 h2 h3 h4 h5 => by
        have hk1 : Kp S W0 w1 := ⟨by omega, fun k _ => h1 k⟩
        refine (callsIn_wide (n := 0).1 (take_any (n := 0) (S := S) (w := w1) ((h1 gl).trans hr0) hSg (fun k hk => by have := hSw k hk; omega) (hG0.below hk1) r0 r1 ht)).mono ?_
        rintro e w' ⟨q1, q2, q3⟩
        exact ⟨q1, q2, ⟨q3.os.trans h3, q3.tape.trans h4, q3.output.trans h5, by have := q3.size; omega, fun k hk hn => (q3.block k (by omega) hn).trans (h1 k)⟩⟩
      have hFn : ∀ w1 : World, Ex gl W0 w1 → Calls Tryz.prog 70 #[.pointer (some ⟨b, o, none⟩)] w1 fun e w' => e = .returned (.bool (finB g)) ∧ Below w1.heap.size w1 w' := fun w1 h1 =>
        callsIn_wide (n := 0).1 (finite_any (n := 0) (S := S) (hG0.below ⟨h1.size, fun k hk => h1.block k (by have := hSw k hk; omega) (hSg k hk)⟩) (fun k hk => by have := hSw k hk; have := h1.size; omega))
      have hS9 : ∀ w1 : World, Ex gl W0 w1 → w1.cell? ⟨w.heap.size, 0, none⟩ = some (.pointer (some ⟨b, o, none⟩)) := fun w1 h1 => by
        rw [← s0]; exact World.cell?_of_block (w := W0) (h1.block w.heap.size (by omega) (by omega))
      have HTk : Hid _ := hTk
      have HFn : Hid _ := hFn
      have HS9 : Hid _ := hS9
      have HE0 : Hid (Ex gl w W0) := hE0
      clear hTk hFn hS9 hE0 HC HEn quiet_end hr hG hG0 hat hr0 hz0 s2
      go_enter Tryz.func41, Tryz.ntmps41
      go_wp2
      rw [← hW0]
      clear hW0
      go_quiet (first | (go_at_call 67; exact Calls.quiet_of_same (hFt _)) | (go_at_call 68; exact Calls.quiet_of (hSh _)))
      clear hFt hSh
      go_wp2
      obtain ⟨tk, htk⟩ : ∃ tk, tk = decide (tot g + 1 ≤ R) := ⟨_, rfl⟩
      rw [← htk] at HTk
      have HD : Hid (tk = decide (tot g + 1 ≤ R)) := htk
      clear htk
      go_region_held3 (fun w' => w'.cell? ⟨w.heap.size, 0, none⟩ = some (.pointer (some ⟨b, o, none⟩))) (go_keep) ((go_at_call 69; refine (HTk.out (W0.drewN (nq + 1)) (fun _ => rfl) rfl rfl rfl rfl).mono ?_; rintro e w3 ⟨rfl, hex, hE3⟩; have s9 := HS9.out w3 hE3))
      obtain ⟨R', hR', hv⟩ := hex
      cases tk with
      | false =>
        have hno : ¬ tot g + 1 ≤ R := of_decide_eq_false HD.out.symm
        have HC1 : Hid (C = 152) := by show _ = _; rw [HCC.out, if_pos (by omega)]
        have HQ : Hid ((∃ R', Boxed w3 gl 138 (.int .i64 R') ∧ (C = 0 → R' = R - 1 - tot g)) ∧ Ex gl w w3) := ⟨⟨R', hR', fun h => by rw [HC1.out] at h; cases h⟩, HE0.out.trans hE3⟩
        clear hno hv hR' hE3 HD HCC
        go_wp2
        go_ret
        exact ⟨by rw [HC1.out]; rfl, HQ.out⟩
      | true =>
        have hyes : tot g + 1 ≤ R := of_decide_eq_true HD.out.symm
        have HC1 : Hid (C = if finB g = false then 155 else 0) := by show _ = _; rw [HCC.out, if_neg (by omega)]
        have hF := HFn.out w3 hE3
        obtain ⟨fb, hfb⟩ : ∃ fb, fb = finB g := ⟨_, rfl⟩
        rw [← hfb] at hF HC1
        clear hfb HCC
        have HQ : Hid (∀ w4 c, Below w3.heap.size w3 w4 → (∃ R', Boxed w4 gl 138 (.int .i64 R') ∧ (c = (0 : Int) → R' = R - 1 - tot g)) ∧ Ex gl w w4) := fun w4 c hb => ⟨⟨R', (hb.block _ hR'.lt).trans hR', fun _ => hv hyes⟩, (HE0.out.trans hE3).below hb⟩
        clear hyes hv hR' hE3 HD HFn HTk HS9
        go_wp2_with fail
        refine hF.mono ?_
        rintro e w4 ⟨rfl, hb4⟩
        clear hF
        cases fb with
        | false =>
          go_wp2
          go_ret
          exact ⟨by rw [HC1.out]; rfl, HQ.out _ _ hb4⟩
        | true =>
          go_wp2
          go_ret
          exact ⟨by rw [HC1.out]; rfl, HQ.out _ _ hb4⟩
end Go.Proofs.YtgobnjeankjkjaaGreatDoor

/- tree.Check. -/
namespace Go.Proofs.YtgobnjeankjkjaaGreatDoor
open Go.ChangeShapes Go.WideShapes Go.ChangeAt Go.RowKit Go.Shelf
open Tr Rf
set_option linter.unusedVariables false
attribute [local go_sem] Oper.semAt_some
namespace Tr
/-- what is wrong with geometry k of the list; 0: nothing -/
def codeAt (L : List It) (k : Nat) : Int := match L[k]? with
  | some it => wrongC it.level it.home it.g it.ch (65536 - lsum (L.take k))
  | none => 0
theorem codeAt_of {L : List It} {k : Nat} {it : It} (h : L[k]? = some it) : codeAt L k = wrongC it.level it.home it.g it.ch (65536 - lsum (L.take k)) := by unfold codeAt; rw [h]
theorem wrongC_zero {lev pl : Nat} {home R : Int} {g : Gm} (h : wrongC lev home g pl R = 0) : tot g + 1 ≤ R := by
  unfold wrongC at h
  split at h
  · cases h
  · split at h
    · cases h
    · split at h
      · cases h
      · next q => exact Classical.not_not.mp q
/-- block g is a Fault -/
def FltAt (w : World) (g : Nat) (tf te : TypeId) (p c : Int) : Prop := w.heap[g]? = some (.cells #[.int .i64 p, .iface te (.int .i64 c)] tf (0, 0))
end Tr
set_option maxHeartbeats 1000000 in
theorem wrapT_any (p c : Int) (w : World) : Calls Tryz.prog 42 #[.int .i64 p, .int .i64 c] w fun e w' => e = .returned (.iface 114 (.pointer (some ⟨w.heap.size, 0, none⟩))) ∧ w' = w.alloc (.cells #[.int .i64 p, .iface 73 (.int .i64 c)] 117) := by
  go_enter Tryz.func42, Tryz.ntmps42
  go_wp2
  go_ret
  exact ⟨rfl, rfl⟩
set_option maxRecDepth 100000 in
set_option maxHeartbeats 2000000 in
theorem check_any {n : Nat} {v : Value} {f : Fo} {w : World} (hG : GeoV (· < w.heap.size) w v f) (hc : f.cnt ≤ 549755813888) (ht : ∀ it ∈ f.pre 1 0, tot it.g ≤ 1099511627776) :
    CallsIn Fence.wide n Tryz.prog 20 #[v] w fun e w' => Below w.heap.size w w' ∧ ((e = .returned .nilIface ∧ ∀ k, k < f.cnt → codeAt (f.pre 1 0) k = 0) ∨ ∃ k g, k < f.cnt ∧ codeAt (f.pre 1 0) k ≠ 0 ∧ (∀ j, j < k → codeAt (f.pre 1 0) j = 0) ∧ e = .returned (.iface 114 (.pointer (some ⟨g, 0, none⟩))) ∧ w.heap.size ≤ g ∧ FltAt w' g 117 73 (k : Nat) (codeAt (f.pre 1 0) k)) := by
  have HG : Hid (GeoV (· < w.heap.size) w v f) := hG
  obtain ⟨g, ch, v1, v2, pa, pc, rfl, hfo, hk, p1, p2, p3, p4⟩ := hG
  have hf : f.len = 1 := by rw [hfo]; rfl
  obtain ⟨_, a1, d1, rfl, _⟩ := p1
  obtain ⟨_, a2, d2, rfl, _⟩ := p2
  clear hfo hk p3 p4
  refine callsIn_of_wp_marks Tryz.func20 rfl trivial ?_ rfl
  simp only [Tryz.ntmps20, List.size_toArray, List.length_cons, List.length_nil, Nat.reduceAdd, Nat.reduceSub, Array.replicate_succ, Array.replicate_zero, List.push_toArray, List.append_toArray, List.nil_append, List.cons_append]
  have hbox := HG.out.box (t := 31) (fun k hk => hk)
  obtain ⟨V0, hV0⟩ : ∃ V0, V0 = w.alloc (.cells #[.int .i64 g.kind, .slice a1 g.line.length d1, .slice a2 g.rings.length d2, .slice pa ch.len pc] 31) := ⟨_, rfl⟩
  have hz0 : V0.heap.size = w.heap.size + 1 := by rw [hV0]; simp
  have hbV : Below w.heap.size w V0 := by rw [hV0]; exact (Below.refl _ w).alloc (Nat.le_refl _) _
  rw [← hV0] at hbox
  gi_wp2
  rw [← hV0]
  refine ⟨trivial, fun h => (by cases h), (callsIn_wide.2 (newLook_any _)).mono ?_⟩
  rintro e W ⟨rfl, rfl⟩
  gi_wp2
  refine ⟨trivial, fun h => (by cases h), (all_any _ _).mono ?_⟩
  rintro e W ⟨rfl, rfl⟩
  gi_wp2
  have b1 := (((Boxed.new V0 33 .nilIface).alloc (.cells #[.int .i64 65536] 138)).alloc (.cells #[.pointer (some ⟨w.heap.size + 1 + 1, 0, none⟩)] 94)).alloc (.cells #[.pointer (some ⟨w.heap.size, 0, none⟩)] 99)
  have b2 := ((Boxed.new (V0.alloc (.cells #[.nilIface] 33)) 138 (.int .i64 65536)).alloc (.cells #[.pointer (some ⟨w.heap.size + 1 + 1, 0, none⟩)] 94)).alloc (.cells #[.pointer (some ⟨w.heap.size, 0, none⟩)] 99)
  have b3 := (Boxed.new ((V0.alloc (.cells #[.nilIface] 33)).alloc (.cells #[.int .i64 65536] 138)) 94 (.pointer (some ⟨w.heap.size + 1 + 1, 0, none⟩))).alloc (.cells #[.pointer (some ⟨w.heap.size, 0, none⟩)] 99)
  have b4 := Boxed.new (((V0.alloc (.cells #[.nilIface] 33)).alloc (.cells #[.int .i64 65536] 138)).alloc (.cells #[.pointer (some ⟨w.heap.size + 1 + 1, 0, none⟩)] 94)) 99 (.pointer (some ⟨w.heap.size, 0, none⟩))
  have hb0 : Below (w.heap.size + 1) V0 ((((V0.alloc (.cells #[.nilIface] 33)).alloc (.cells #[.int .i64 65536] 138)).alloc (.cells #[.pointer (some ⟨w.heap.size + 1 + 1, 0, none⟩)] 94)).alloc (.cells #[.pointer (some ⟨w.heap.size, 0, none⟩)] 99)) := ((((Below.refl _ V0).alloc (by omega) _).alloc (by simp; omega) _).alloc (by simp; omega) _).alloc (by simp; omega) _
  have hz : ((((V0.alloc (.cells #[.nilIface] 33)).alloc (.cells #[.int .i64 65536] 138)).alloc (.cells #[.pointer (some ⟨w.heap.size + 1 + 1, 0, none⟩)] 94)).alloc (.cells #[.pointer (some ⟨w.heap.size, 0, none⟩)] 99)).heap.size = w.heap.size + 5 := by simp; omega
  simp only [World.size_alloc, hz0] at b1 b2 b3 b4
  rw [← hV0]
  obtain ⟨W0, hW0⟩ : ∃ W0, W0 = ((((V0.alloc (.cells #[.nilIface] 33)).alloc (.cells #[.int .i64 65536] 138)).alloc (.cells #[.pointer (some ⟨w.heap.size + 1 + 1, 0, none⟩)] 94)).alloc (.cells #[.pointer (some ⟨w.heap.size, 0, none⟩)] 99)) := ⟨_, rfl⟩
  rw [← hW0] at b1 b2 b3 b4 hb0 hz ⊢
  have hF := (hbox.below (Kp.of_below hb0 (fun k hk => by rcases hk with hk | hk <;> omega))).mono (S' := (· < w.heap.size + 1)) (fun k hk => by rcases hk with hk | hk <;> omega)
  have hBw : Below w.heap.size w W0 := hbV.trans (hb0.mono (by omega))
  clear hW0 hV0 hbox hb0 hz0 hbV
  obtain ⟨L, hL⟩ : ∃ L, L = f.pre 1 0 := ⟨_, rfl⟩
  have hcL : f.cnt = L.length := by rw [hL, Fo.pre_length]
  have HL : Hid (L = f.pre 1 0) := hL
  have HLv : Hid (∀ it ∈ L, it.level ≤ 549755813888) := fun it hit => by have := pre_level f 1 0 it (by rw [← hL]; exact hit); omega
  clear hL
  refine wpIn_all (S := fun k => k < w.heap.size + 1 ∨ k = w.heap.size + 1 + 1 + 1 + 1) rfl (fun k hk => by rcases hk with hk | hk <;> omega) b4.cell (.inr rfl) (hF.mono (fun k hk => .inl hk)) hf hc
    (fun ga k W => (Boxed W (w.heap.size + 1) 33 .nilIface ∧ Boxed W (w.heap.size + 1 + 1) 138 (.int .i64 (65536 - lsum (L.take k))) ∧ Boxed W (w.heap.size + 1 + 1 + 1) 94 (.pointer (some ⟨w.heap.size + 1 + 1, 0, none⟩)) ∧ lsum (L.take k) ≤ 65536 ∧ ∀ j, j < k → codeAt L j = 0) ∧ Below w.heap.size w W)
    (fun c W => (c = .ret ∧ ∃ k gE, k < L.length ∧ codeAt L k ≠ 0 ∧ (∀ j, j < k → codeAt L j = 0) ∧ w.heap.size ≤ gE ∧ Boxed W (w.heap.size + 1) 33 (.iface 114 (.pointer (some ⟨gE, 0, none⟩))) ∧ FltAt W gE 117 73 (k : Nat) (codeAt L k)) ∧ Below w.heap.size w W)
    (fun ga => OwnFrom.and (OwnFrom.and (Own.from (boxed_own _ _ _) _) (OwnFrom.and (Own.from (boxed_own _ _ _) _) (OwnFrom.and (Own.from (boxed_own _ _ _) _) (fun _ _ _ _ h _ _ => h)))) (ownFrom_below (Nat.le_refl _) (by omega)))
    (OwnFrom.and (fun c X Y row ⟨h1, k, gE, h2, h3, h4, h5, h6, h7⟩ hg hr => ⟨h1, k, gE, h2, h3, h4, h5, grown_cells hg hr h6 rfl, grown_cells hg hr h7 rfl⟩) (ownFrom_below (Nat.le_refl _) (by omega)))
    (fun ga k W W' hga ho ⟨⟨h1, h2, h3, h5⟩, h4⟩ => ⟨⟨ho.boxed h1 (by omega), ho.boxed h2 (by omega), ho.boxed h3 (by omega), h5⟩, ho.low h4 (by omega) (Nat.le_refl _)⟩)
    (fun ga hga => ⟨⟨b1, by simpa [lsum] using b2, b3, by simp [lsum], fun j hj => by omega⟩, hBw⟩) ?round ?done ?stop
  case round =>
    rintro l ga k it b o pa pc W hl hga hgW hWz hit hpc ⟨⟨c1, c2, c3, hk0, hall⟩, hB⟩ hG
    rw [← HL.out] at hit
    simp only [List.setIfInBounds_toArray, List.set_cons_succ, List.set_cons_zero]
    gi_wp2
    refine ⟨(KeepsOthers.alloc _ _).from _, fun W2 hT => ?_⟩
    have hR := round_start (B := W0.heap.size) hl hWz hT
    have hSb : ∀ k, (k < w.heap.size + 1 ∨ k = w.heap.size + 1 + 1 + 1 + 1) → k < W0.heap.size := fun k hk => by rcases hk with hk | hk <;> omega
    have hK2 := hR.kp hSb
    have hKr2 := hR.kr ga 142
    have e1 := hR.boxed c1
    have e2 := hR.boxed c2
    have e3 := hR.boxed c3
    have hB2 : Below w.heap.size w W2 := hB.trans (hR.below.mono (by omega))
    have hsp := hR.new rfl
    have sp0 : W2.cell? ⟨W.heap.size, 0, none⟩ = some (.pointer (some ⟨b, o, none⟩)) := cell_of hsp 0
    have sp1 : W2.cell? ⟨W.heap.size, 1, none⟩ = some (.int .i64 k) := cell_of hsp 1
    have sp2 : W2.cell? ⟨W.heap.size, 2, none⟩ = some (.int .i64 it.level) := cell_of hsp 2
    have sp3 : W2.cell? ⟨W.heap.size, 3, none⟩ = some (.int .i64 it.home) := cell_of hsp 3
    have hmem := ht it (by rw [← HL.out]; exact List.mem_of_getElem? hit)
    have hlv := HLv.out it (List.mem_of_getElem? hit)
    have hls := lsum_take hit
    have hpos := lsum_pos (L.take k)
    have hz2 := hR.size
    have hWr := wrong_any (num := k) (home := it.home) e2 (S := fun k => k < w.heap.size + 1 ∨ k = w.heap.size + 1 + 1 + 1 + 1) (fun k hk => by rcases hk with hk | hk <;> omega) (fun k hk => by have := hSb k hk; omega) (hG.below hK2) hpc.1 (by omega) (by omega) hmem (lev := it.level) (by omega)
    rw [← codeAt_of hit] at hWr
    have HCd : Hid (codeAt L k = 0 → lsum (L.take (k + 1)) ≤ 65536 ∧ lsum (L.take (k + 1)) = lsum (L.take k) + 1 + tot it.g) := fun h => by
      rw [codeAt_of hit] at h
      have := wrongC_zero h
      exact ⟨by omega, hls⟩
    have HKL : Hid (k < L.length) := (List.getElem?_eq_some_iff.1 hit).1
    have HAll : Hid (∀ j, j < k → codeAt L j = 0) := hall
    have x3 := e3.cell
    obtain ⟨C, hC⟩ : ∃ C, C = codeAt L k := ⟨_, rfl⟩
    rw [← hC] at hWr HCd
    have HC : Hid (C = codeAt L k) := hC
    have HZ : Hid (W2.heap.size = W.heap.size + 1) := hz2
    clear hls hpos hmem hR hT c1 c2 c3 hit hall hC hz2 hlv
    gi_wp2
    refine ⟨trivial, fun h => (by cases h), CallsIn.inRound l ((callsIn_wide.2 hWr).mono ?_)⟩
    rintro e W3 ⟨rfl, ⟨R', hR', hv⟩, hE⟩
    have d1' := hE.boxed e1 (by omega)
    have d3' := hE.boxed e3 (by omega)
    have hz3 := hE.size
    have hsp3 := (hE.block W.heap.size (by have := HZ.out; omega) (by omega)).trans hsp
    have sp1' : W3.cell? ⟨W.heap.size, 1, none⟩ = some (.int .i64 k) := cell_of hsp3 1
    have hB3 : Below w.heap.size w W3 := hB2.trans (hE.toBelow (by have := HZ.out; omega) (by omega))
    have hko : KeepsFrom W0.heap.size W2 W3 := ⟨hE.size, fun k o hk h0 _ => (hE.block k (Array.getElem?_eq_some_iff.1 h0).1 (by omega)).trans h0⟩
    have hKE : Kp (fun k => k < w.heap.size + 1 ∨ k = w.heap.size + 1 + 1 + 1 + 1) W2 W3 := ⟨hE.size, fun k hk => hE.block k (by have := hSb k hk; have := HZ.out; omega) (by rcases hk with hk | hk <;> omega)⟩
    have hKrE : Kr ga 142 W2 W3 := hE.kr (by omega)
    clear sp0 sp1 sp2 sp3 x3 hsp hsp3 hWr e1 e2 e3 hE hF
    have HV : Hid (C = 0 → R' = 65536 - lsum (L.take k) - 1 - tot it.g) := hv
    have HK0 : Hid (lsum (L.take k) ≤ 65536) := hk0
    have HC0 : Hid (f.cnt = L.length) := hcL
    clear hv hk0 hcL
    by_cases hC0 : C = 0
    · obtain ⟨g1, g2⟩ := HCd.out hC0
      have g3 := HV.out hC0
      have g4 := HC.out
      have HX : Hid (lsum (L.take (k + 1)) ≤ 65536 ∧ R' = 65536 - lsum (L.take (k + 1)) ∧ codeAt L k = 0) := ⟨g1, by omega, by rw [← g4]; exact hC0⟩
      clear g1 g2 g3 g4
      subst hC0
      gi_wp2
      obtain ⟨q1, q2, q3⟩ := HX.out
      refine ⟨hko, ⟨⟨d1', by rw [← q2]; exact hR', d3', q1, fun j hj => ?_⟩, hB3⟩, hK2.trans hKE, hKr2.trans hKrE⟩
      by_cases e : j < k
      · exact HAll.out j e
      · rw [show j = k by omega]; exact q3
    · gi_wp2
      refine ⟨trivial, fun h => (by cases h), CallsIn.inRound l ((callsIn_wide.2 (wrapT_any _ _ _)).mono ?_)⟩
      rintro e W4 ⟨rfl, rfl⟩
      have d1'' := d1'.alloc (.cells #[.int .i64 k, .iface 73 (.int .i64 C)] 117)
      have x1 := d1''.cell
      have f1 := d1''.frozen
      have hne : W3.heap.size ≠ w.heap.size + 1 := by have := d1'.lt; omega
      have hFl : (W3.alloc (.cells #[.int .i64 k, .iface 73 (.int .i64 C)] 117)).heap[W3.heap.size]? = some (.cells #[.int .i64 k, .iface 73 (.int .i64 C)] 117 (0, 0)) := World.alloc_heap_new W3 _
      have hBz := hB3.size
      gi_wp2
      refine ⟨(hko.trans ((KeepsOthers.alloc _ _).from _)).trans (keeps_set _ _ _ _), ⟨rfl, k, W3.heap.size, HKL.out, by rw [← HC.out]; exact hC0, HAll.out, hBz, d1''.set _, ?_⟩, (hB3.alloc hBz _).setCell (p := ⟨w.heap.size + 1, 0, none⟩) (by simp) _⟩
      rw [← HC.out]
      exact (Below.heap_setCell _ _ _ _ hne).trans hFl
  case done =>
    rintro D ga W hD hga ⟨⟨c1, c2, c3, hk0, hall⟩, hB⟩ hK
    have x1 := c1.cell
    have f1 := c1.frozen
    gi_wp2
    have hK' := (KeepsOthers.setCell W ⟨w.heap.size + 1, 0, none⟩ .nilIface).same D _ hK rfl
    refine ⟨by simp, .inl ⟨_, _, rfl, run_takeDeferred hK', ?_⟩⟩
    have x9 := (boxed_own (w.heap.size + 1) 33 (fun (_ : Unit) => Value.nilIface) () _ _ _ (c1.set _) (grownBy_putObj' _ D (.deferred none)) (fun r e => by cases e; exact ⟨_, hK', rfl⟩)).cell
    refine ⟨.nilIface, by simp [results, Tryz.results20, go_sem, x9], (hB.setCell (p := ⟨w.heap.size + 1, 0, none⟩) (by simp) _).trans ((Below.refl _ _).grown (grownBy_putObj' _ D _) (by have := hB.size; simp [World.setCell]; omega) (fun r e => by cases e; omega)), .inl ⟨rfl, by rw [← HL.out]; exact hall⟩⟩
  case stop =>
    rintro D c W hD ⟨⟨rfl, k, gE, hkl, hne, hall, hgE, c1, c2⟩, hB⟩ hK
    gi_wp2
    refine ⟨by simp, .inl ⟨_, _, rfl, run_takeDeferred hK, ?_⟩⟩
    have x9 := (boxed_own (w.heap.size + 1) 33 (fun (_ : Unit) => Value.iface 114 (.pointer (some ⟨gE, 0, none⟩))) () _ _ _ c1 (grownBy_putObj' _ D (.deferred none)) (fun r e => by cases e; exact ⟨_, hK, rfl⟩)).cell
    have y9 := grown_cells (grownBy_putObj' W D (.deferred none)) (fun r e => by cases e; exact ⟨by omega, _, hK, rfl⟩) c2 rfl
    refine ⟨.iface 114 (.pointer (some ⟨gE, 0, none⟩)), by simp [results, Tryz.results20, go_sem, x9], hB.trans ((Below.refl _ _).grown (grownBy_putObj' _ D _) (by have := hB.size; omega) (fun r e => by cases e; omega)), .inr ⟨k, gE, by rw [hcL]; exact hkl, by rw [← HL.out]; exact hne, by rw [← HL.out]; exact hall, rfl, hgE, by rw [← HL.out]; exact y9⟩⟩
end Go.Proofs.YtgobnjeankjkjaaGreatDoor

/- tree.follow: a path in a tree. -/
namespace Go.Proofs.YtgobnjeankjkjaaGreatDoor
open Go.ChangeShapes Go.WideShapes Go.ChangeAt Go.RowKit Go.Shelf
open Tr Rf
set_option linter.unusedVariables false
attribute [local go_sem] Oper.semAt_some
namespace Tr
/-- a geometry with its parts, at an address -/
def NodeAt (S : Nat → Prop) (W : World) (b o : Nat) (x : Gm × Fo) : Prop := ∃ pa pc, (x.2.len ≤ 1048576 ∧ x.2.len ≤ pc) ∧ GmAt S W b o x.1 (.slice pa x.2.len pc) ∧ FoAt S W x.2 pa
theorem NodeAt.below {S : Nat → Prop} {W W' : World} {b o : Nat} {x : Gm × Fo} (h : NodeAt S W b o x) (hk : Kp S W W') : NodeAt S W' b o x := by
  obtain ⟨pa, pc, h1, h2, h3⟩ := h
  exact ⟨pa, pc, h1, h2.below hk, h3.below hk⟩
end Tr
end Go.Proofs.YtgobnjeankjkjaaGreatDoor

/- tree.own: lists in memory of their own. -/
namespace Go.Proofs.YtgobnjeankjkjaaGreatDoor
open Go.ChangeShapes Go.WideShapes Go.ChangeAt Go.RowKit Go.Shelf
open Tr Rf
set_option linter.unusedVariables false
attribute [local go_sem] Oper.semAt_some
namespace Tr
theorem below_new (w : World) (ob : Obj) : Below w.heap.size w (w.alloc ob).drew := by
  have h := (Below.refl _ w).alloc (Nat.le_refl _) ob
  exact ⟨h.os, h.tape, h.output, h.size, h.block⟩
theorem wpList_appendT {w : World} {ops : Array Oper} {rest : List Oper} {o : Oper} {a : Act} {Q : Exit → Act → World → Prop} (hgd : o.guard = none) (s x : Operand) (t : TypeId)
    (ho : o.op = .call { callee := .builtin .append, args := #[s, x], argTypes := #[t, t] }) (v u : Value) (hs : a.eval s = v) (hx : a.eval x = u) {v' : Value} {w' : World}
    (hr : (Builtin.append_ #[t, t] o.type #[v, u]).run Tryz.prog w = .ok v' w') (h : wpList Tryz.prog ops Q rest (a.put o.dst v') w') : wpList Tryz.prog ops Q (o :: rest) a w := by
  refine wpList_plain hgd fun K hK => ?_
  unfold Oper.wp execOp
  simp only [ho, resolve, invoke, builtin, Sem.run_bind, Sem.run_pure, Result.andThen_ok, List.map_toArray, List.map_cons, List.map_nil, hs, hx, hr]
  exact hK _ _ h
theorem info_pt : (Tryz.prog.info? 39).map (fun i => (i.zero, i.size, i.bytes)) = some (some (.agg #[.int .u64 0, .int .u64 0]), 2, 16) := by kernel_rfl
theorem info_gm : (Tryz.prog.info? 31).map (fun i => (i.zero, i.size, i.bytes)) = some (some (.agg #[.int .i64 0, .slice none 0 0, .slice none 0 0, .slice none 0 0]), 4, 80) := by kernel_rfl
theorem info_partsT {t : TypeId} {z : Value} {s by_ : Nat} (h : (Tryz.prog.info? t).map (fun i => (i.zero, i.size, i.bytes)) = some (some z, s, by_)) : ∃ i, Tryz.prog.info? t = some i ∧ i.zero = some z ∧ i.size = s ∧ i.bytes = by_ := by
  cases e : Tryz.prog.info? t with
  | none => rw [e] at h; cases h
  | some i =>
    rw [e] at h
    simp only [Option.map_some, Option.some.injEq, Prod.mk.injEq] at h
    exact ⟨i, rfl, h.1, h.2.1, h.2.2⟩
end Tr
namespace Tr
theorem FoAt.cells {S : Nat → Prop} {W : World} : ∀ {f : Fo} {b o : Nat}, FoAt S W f (some ⟨b, o, none⟩) → ∀ j, j < f.len * 4 → ∃ v, W.cell? ⟨b, o + j, none⟩ = some v
  | .nil, _, _, _, j, h => by simp [Fo.len] at h
  | .cons g c r, b, o, ⟨b', o', pa, pc, e, _, hg, _, hr⟩, j, h => by
    cases e
    obtain ⟨_, _, c0, ⟨v1, c1, _⟩, ⟨v2, c2, _⟩, c3⟩ := hg
    by_cases h4 : j < 4
    · match j, h4 with
      | 0, _ => exact ⟨_, c0⟩
      | 1, _ => exact ⟨_, c1⟩
      | 2, _ => exact ⟨_, c2⟩
      | 3, _ => exact ⟨_, c3⟩
    · obtain ⟨v, hv⟩ := FoAt.cells hr (j - 4) (by simp only [Fo.len] at h; omega)
      exact ⟨v, by rw [show o + j = o + 4 + (j - 4) by omega]; exact hv⟩
/-- the same geometries, their cells laid elsewhere -/
theorem FoAt.copy {S : Nat → Prop} {W W' : World} (hk : Kp S W W') {N : Nat} : ∀ {f : Fo} {b o d : Nat}, FoAt S W f (some ⟨b, o, none⟩) → (∀ j v, j < f.len * 4 → W.cell? ⟨b, o + j, none⟩ = some v → W'.cell? ⟨N, d + j, none⟩ = some v) → FoAt (fun k => S k ∨ k = N) W' f (some ⟨N, d, none⟩)
  | .nil, _, _, _, _, _ => trivial
  | .cons g c r, b, o, d, ⟨b', o', pa, pc, e, hl, hg, hc, hr⟩, hcp => by
    cases e
    have hm : ∀ k, S k → (S k ∨ k = N) := fun k h => .inl h
    refine ⟨N, d, pa, pc, rfl, hl, ?_, (hc.below hk).mono hm, FoAt.copy hk hr (fun j v hj hv => ?_)⟩
    · obtain ⟨hb, hr1, c0, ⟨v1, c1, p1⟩, ⟨v2, c2, p2⟩, c3⟩ := hg
      refine ⟨.inr rfl, hr1, hcp 0 _ (by simp only [Fo.len]; omega) c0, ⟨v1, hcp 1 _ (by simp only [Fo.len]; omega) c1, (p1.below hk).mono hm⟩, ⟨v2, hcp 2 _ (by simp only [Fo.len]; omega) c2, (p2.below hk).mono hm⟩, hcp 3 _ (by simp only [Fo.len]; omega) c3⟩
    · rw [show d + 4 + j = d + (4 + j) by omega]
      exact hcp (4 + j) v (by simp only [Fo.len]; omega) (by rw [show o + (4 + j) = o + 4 + j by omega]; exact hv)
end Tr
end Go.Proofs.YtgobnjeankjkjaaGreatDoor

/- The makers of trees of layers 17, 20 and 29, plainly: nodes, and the tree that they make. -/
namespace Go.Proofs.YtgobnjeankjkjaaGreatDoor
open Go Go.RowKit
open Tr Wk Ar
set_option linter.unusedVariables false
namespace Mk
structure Nde where
  kind : Int
  size : Int
  xy : List Int
def Nde.zero : Nde := ⟨0, 0, []⟩
theorem off_52 {b : Int} (h : U b) : ef (bits .andNot .u64 b 4503599627370496) ≠ 2047 := by
  have hu := U_bits_andNot h (show U 4503599627370496 by unfold U; omega)
  rw [andNot_and h (by unfold U; omega)] at *
  unfold U at h
  rw [u64_and b _ h.1 h.2 (by omega) (by omega)] at *
  have e : (18446744073709551615 - 4503599627370496 : Int).toNat = 18442240474082181119 := by decide
  rw [e]
  have t : (b.toNat &&& 18442240474082181119).testBit 52 = false := by
    rw [Nat.testBit_and, show (18442240474082181119 : Nat).testBit 52 = false by decide, Bool.and_false]
  rw [Nat.testBit_eq_decide_div_mod_eq] at t
  have t2 : ¬ ((b.toNat &&& 18442240474082181119) / 2 ^ 52 % 2 = 1) := by simpa using t
  have e2 : (2 : Nat) ^ 52 = 4503599627370496 := by decide
  rw [e2] at t2
  unfold ef
  omega
/-- a pattern made finite -/
def finM (b : Int) : Int := if ef b = 2047 then bits .andNot .u64 b 4503599627370496 else b
theorem finM_ok {b : Int} (h : U b) : U (finM b) ∧ ef (finM b) ≠ 2047 := by
  unfold finM
  split
  · exact ⟨U_bits_andNot h (by unfold U; omega), off_52 h⟩
  · exact ⟨h, by assumption⟩
/-- the i-th point of a node -/
def ptN (x : Nde) (i : Nat) : Pt := if 2 * i + 1 < x.xy.length then (finM (x.xy.getD (2 * i) 0), finM (x.xy.getD (2 * i + 1) 0)) else (4607182418800017408, 4607182418800017408)
def ptsN (x : Nde) (n : Nat) : List Pt := (List.range n).map (ptN x)
def rgsN (x : Nde) (n : Nat) : List (List Pt) := (List.range n).map (fun i => ptsN x (1 + i))
theorem ptsN_len (x : Nde) (n : Nat) : (ptsN x n).length = n := by simp [ptsN]
theorem rgsN_len (x : Nde) (n : Nat) : (rgsN x n).length = n := by simp [rgsN]
theorem ptsN_snoc (x : Nde) (n : Nat) : ptsN x (n + 1) = ptsN x n ++ [ptN x n] := by simp [ptsN, List.range_succ]
/-- the next node, and how many are taken -/
def takeS (l : List Nde) (nx : Nat) : Nde × Nat := if nx < l.length ∧ nx < 60 then (l.getD nx .zero, nx + 1) else (.zero, nx)
def manyT (f : Nat → Tree × Nat) : Nat → Nat → List Tree × Nat
  | 0, nx => ([], nx)
  | n + 1, nx => ((f nx).1 :: (manyT f n (f nx).2).1, (manyT f n (f nx).2).2)
theorem manyT_len (f : Nat → Tree × Nat) : ∀ n nx, (manyT f n nx).1.length = n
  | 0, _ => rfl
  | n + 1, nx => by show (manyT f n (f nx).2).1.length + 1 = _; rw [manyT_len f n]
theorem manyT_snoc (f : Nat → Tree × Nat) : ∀ n nx, manyT f (n + 1) nx = ((manyT f n nx).1 ++ [(f (manyT f n nx).2).1], (f (manyT f n nx).2).2)
  | 0, nx => rfl
  | n + 1, nx => by
    show ((f nx).1 :: (manyT f (n + 1) (f nx).2).1, (manyT f (n + 1) (f nx).2).2) = _
    rw [manyT_snoc f n (f nx).2]
    rfl
def kindN (x : Nde) (kind lev : Nat) : Nat :=
  let k0 := if kind = 0 then 1 + (x.kind % 7).toNat else kind
  if lev < 2 ∧ 3 < k0 then 1 else k0
def sizeN (x : Nde) : Nat := (x.size % 5).toNat
theorem sizeN_le (x : Nde) : sizeN x ≤ 4 := by unfold sizeN; omega
def partN (k : Nat) : Nat := if k = 7 then 0 else k - 3
def geoS (l : List Nde) : Nat → Nat → Nat → Tree × Nat
  | lev, kind, nx =>
    let x := (takeS l nx).1
    let k := kindN x kind lev
    if k = 1 then ((⟨1, ptsN x (sizeN x % 2), []⟩, .nil), (takeS l nx).2)
    else if k = 2 then ((⟨2, ptsN x (sizeN x), []⟩, .nil), (takeS l nx).2)
    else if k = 3 then ((⟨3, [], rgsN x (sizeN x)⟩, .nil), (takeS l nx).2)
    else match lev with
      | 0 => ((⟨1, [], []⟩, .nil), (takeS l nx).2)
      | lev + 1 => ((⟨(k : Int), [], []⟩, foOf (manyT (geoS l lev (partN k)) (sizeN x) (takeS l nx).2).1), (manyT (geoS l lev (partN k)) (sizeN x) (takeS l nx).2).2)
/-- the tree of nodes -/
def treeN (l : List Nde) : Tree := (geoS l 6 0 0).1
def NdeOk (x : Nde) : Prop := ∀ b ∈ x.xy, U b
theorem takeS_ok {l : List Nde} (h : ∀ x ∈ l, NdeOk x) (nx : Nat) : NdeOk (takeS l nx).1 := by
  unfold takeS
  split
  · next q =>
    rw [List.getD_eq_getElem?_getD, List.getElem?_eq_getElem q.1]
    exact h _ (List.getElem_mem _)
  · intro b hb; cases hb
theorem ptN_ok {x : Nde} (h : NdeOk x) (i : Nat) : (U (ptN x i).1 ∧ U (ptN x i).2) ∧ ef (ptN x i).1 ≠ 2047 ∧ ef (ptN x i).2 ≠ 2047 := by
  unfold ptN
  split
  · next q =>
    have h1 : U (x.xy.getD (2 * i) 0) := by
      rw [List.getD_eq_getElem?_getD, List.getElem?_eq_getElem (by omega)]
      exact h _ (List.getElem_mem _)
    have h2 : U (x.xy.getD (2 * i + 1) 0) := by
      rw [List.getD_eq_getElem?_getD, List.getElem?_eq_getElem q]
      exact h _ (List.getElem_mem _)
    exact ⟨⟨(finM_ok h1).1, (finM_ok h2).1⟩, (finM_ok h1).2, (finM_ok h2).2⟩
  · exact ⟨⟨by unfold U; omega, by unfold U; omega⟩, by decide, by decide⟩
theorem numB_of {b : Int} (hu : U b) (h : ef b ≠ 2047) : numB b = true := by
  have e1 : ef b < 2048 := by unfold ef; omega
  unfold numB clsW
  rw [if_neg h]
  split
  · split <;> decide
  · decide
theorem ptsN_ok {x : Nde} (h : NdeOk x) (n : Nat) : (∀ p ∈ ptsN x n, U p.1 ∧ U p.2) ∧ (ptsN x n).all okP = true := by
  refine ⟨fun p hp => ?_, ?_⟩
  · simp only [ptsN, List.mem_map] at hp
    obtain ⟨i, _, rfl⟩ := hp
    exact (ptN_ok h i).1
  · rw [List.all_eq_true]
    intro p hp
    simp only [ptsN, List.mem_map] at hp
    obtain ⟨i, _, rfl⟩ := hp
    obtain ⟨⟨u1, u2⟩, q1, q2⟩ := ptN_ok h i
    unfold okP
    rw [numB_of u1 q1, numB_of u2 q2]
    rfl
/-- each geometry is right where it stands -/
def Good : Nat → Int → Fo → Prop
  | _, _, .nil => True
  | lv, home, .cons g c r => (lv ≤ 256 ∧ (Tr.fitsB home g.kind && shapedB g c.len) = true ∧ Tr.finB g = true) ∧ Good (lv + 1) g.kind c ∧ Good lv home r
theorem good_pre : ∀ (f : Fo) (lv : Nat) (home : Int), Good lv home f → ∀ it ∈ f.pre lv home, it.level ≤ 256 ∧ (Tr.fitsB it.home it.g.kind && shapedB it.g it.ch) = true ∧ Tr.finB it.g = true
  | .nil, _, _, _, it, h => by cases h
  | .cons g c r, lv, home, ⟨h1, h2, h3⟩, it, h => by
    rcases List.mem_cons.1 h with rfl | h
    · exact h1
    · rcases List.mem_append.1 h with h | h
      · exact good_pre c _ _ h2 it h
      · exact good_pre r _ _ h3 it h
def fsum : Fo → Int
  | .nil => 0
  | .cons g c r => 1 + tot g + fsum c + fsum r
theorem fsum_pre : ∀ (f : Fo) (lv : Nat) (home : Int), lsum (f.pre lv home) = fsum f
  | .nil, _, _ => rfl
  | .cons g c r, lv, home => by
    show 1 + tot g + lsum (c.pre (lv + 1) g.kind ++ r.pre lv home) = 1 + tot g + fsum c + fsum r
    rw [lsum_app, fsum_pre c, fsum_pre r]
    omega
theorem fsum_pos : ∀ f : Fo, 0 ≤ fsum f
  | .nil => Int.le_refl _
  | .cons g c r => by have := tot_pos g; have := fsum_pos c; have := fsum_pos r; show 0 ≤ 1 + tot g + fsum c + fsum r; omega
theorem good_codes {f : Fo} (h : Good 1 0 f) (hs : fsum f ≤ 65536) (k : Nat) : codeAt (f.pre 1 0) k = 0 := by
  cases e : (f.pre 1 0)[k]? with
  | none => unfold codeAt; rw [e]
  | some it =>
    rw [codeAt_of e]
    obtain ⟨h1, h2, h3⟩ := good_pre f 1 0 h it (List.mem_of_getElem? e)
    have hl := lsum_take e
    have hl2 := lsum_le (f.pre 1 0) (k + 1)
    rw [fsum_pre] at hl2
    unfold wrongC
    rw [if_neg (by omega), if_neg (by rw [h2]; simp), if_neg (by omega), if_neg (by rw [h3]; simp)]
def bndN : Nat → Int
  | 0 => 11
  | n + 1 => 1 + 4 * bndN n
theorem bndN_ge : ∀ n, 11 ≤ bndN n
  | 0 => Int.le_refl _
  | n + 1 => by have := bndN_ge n; show 11 ≤ 1 + 4 * bndN n; omega
theorem tot_line (k : Int) (l : List Pt) : tot ⟨k, l, []⟩ = (l.length : Int) := by simp [tot]
theorem tot_rgs (x : Nde) {n : Nat} (h : n ≤ 4) : tot ⟨3, [], rgsN x n⟩ ≤ 10 := by
  have : n = 0 ∨ n = 1 ∨ n = 2 ∨ n = 3 ∨ n = 4 := by omega
  rcases this with rfl | rfl | rfl | rfl | rfl <;> simp [tot, rgsN, List.range_succ, ptsN_len]
theorem rgs_empty (x : Nde) (n : Nat) : emptyB (rgsN x n) = false := by
  unfold emptyB
  rw [List.any_eq_false]
  intro r hr
  simp only [rgsN, List.mem_map] at hr
  obtain ⟨i, _, rfl⟩ := hr
  simp [ptsN_len]
theorem fin_rgs {x : Nde} (h : NdeOk x) (n : Nat) : Tr.finB ⟨3, [], rgsN x n⟩ = true := by
  unfold Tr.finB
  rw [List.all_cons, List.all_nil, Bool.true_and, List.all_eq_true]
  intro r hr
  simp only [rgsN, List.mem_map] at hr
  obtain ⟨i, _, rfl⟩ := hr
  exact (ptsN_ok h _).2
theorem fin_line {x : Nde} (h : NdeOk x) (k : Int) (n : Nat) : Tr.finB ⟨k, ptsN x n, []⟩ = true := by
  unfold Tr.finB
  rw [List.all_cons, List.all_nil, Bool.and_true]
  exact (ptsN_ok h _).2
/-- what may be asked for at a home -/
def Fits (kind : Nat) (home : Int) : Prop := kind ≤ 3 ∧ ((kind = 0 ∧ home ≠ 4 ∧ home ≠ 5 ∧ home ≠ 6) ∨ (0 < kind ∧ home = (kind : Int) + 3))
theorem Fits.ok {kind : Nat} {home : Int} (h : Fits kind home) {k : Nat} (hk : 0 < kind → k = kind) : Tr.fitsB home (k : Int) = true := by
  obtain ⟨h1, ⟨h2, h3, h4, h5⟩ | ⟨h2, h3⟩⟩ := h
  · unfold Tr.fitsB; rw [if_neg h3, if_neg h4, if_neg h5]
  · rw [hk h2]
    have : kind = 1 ∨ kind = 2 ∨ kind = 3 := by omega
    rcases this with rfl | rfl | rfl <;> (rw [h3]; decide)
theorem many_good {l : List Nde} {lv : Nat} {home : Int} {f : Nat → Tree × Nat} {B : Int} (hf : ∀ nx, Good lv home (.cons (f nx).1.1 (f nx).1.2 .nil) ∧ fsum (.cons (f nx).1.1 (f nx).1.2 .nil) ≤ B) : ∀ n nx, Good lv home (foOf (manyT f n nx).1) ∧ fsum (foOf (manyT f n nx).1) ≤ (n : Int) * B
  | 0, nx => ⟨trivial, by show (0 : Int) ≤ ((0 : Nat) : Int) * B; simp⟩
  | n + 1, nx => by
    obtain ⟨h1, h2⟩ := hf nx
    obtain ⟨h3, h4⟩ := many_good (l := l) hf n (f nx).2
    refine ⟨⟨h1.1, h1.2.1, h3⟩, ?_⟩
    show 1 + tot (f nx).1.1 + fsum (f nx).1.2 + fsum (foOf (manyT f n (f nx).2).1) ≤ ((n + 1 : Nat) : Int) * B
    have : fsum (.cons (f nx).1.1 (f nx).1.2 .nil) = 1 + tot (f nx).1.1 + fsum (f nx).1.2 + 0 := rfl
    have e : ((n + 1 : Nat) : Int) * B = (n : Int) * B + B := by rw [Int.natCast_add, Int.add_mul]; simp
    omega
theorem kindN_pos {x : Nde} {kind lev : Nat} (h : kind ≤ 3) : 1 ≤ kindN x kind lev ∧ kindN x kind lev ≤ 7 ∧ (0 < kind → kindN x kind lev = kind) ∧ (lev < 2 → kindN x kind lev ≤ 3) := by
  unfold kindN
  simp only
  split <;> split <;> omega
theorem geo_good {l : List Nde} (hl : ∀ x ∈ l, NdeOk x) : ∀ (lev kind nx lv : Nat) (home : Int), Fits kind home → lv + lev ≤ 256 → Good lv home (.cons (geoS l lev kind nx).1.1 (geoS l lev kind nx).1.2 .nil) ∧ fsum (.cons (geoS l lev kind nx).1.1 (geoS l lev kind nx).1.2 .nil) ≤ bndN lev := by
  intro lev
  induction lev with
  | zero =>
    intro kind nx lv home hF hlv
    have hx := takeS_ok hl nx
    obtain ⟨p1, p2, p3, p4⟩ := kindN_pos (x := (takeS l nx).1) (lev := 0) hF.1
    have p5 := p4 (by omega)
    have hz := sizeN_le (takeS l nx).1
    unfold geoS
    simp only
    generalize (takeS l nx).1 = x at *
    generalize kindN x kind 0 = k at *
    have hb := hF.ok p3
    split
    · next e =>
      subst e
      refine ⟨⟨⟨by omega, ?_, fin_line hx _ _⟩, trivial, trivial⟩, ?_⟩
      · rw [show ((1 : Nat) : Int) = 1 from rfl] at hb
        simp only [hb, shapedB, ptsN_len, Fo.len]
        simp
        omega
      · show 1 + tot ⟨1, ptsN x (sizeN x % 2), []⟩ + 0 + 0 ≤ 11
        rw [tot_line, ptsN_len]
        omega
    · split
      · next e =>
        subst e
        refine ⟨⟨⟨by omega, ?_, fin_line hx _ _⟩, trivial, trivial⟩, ?_⟩
        · rw [show ((2 : Nat) : Int) = 2 from rfl] at hb
          simp only [hb, shapedB, ptsN_len, Fo.len]
          simp
        · show 1 + tot ⟨2, ptsN x (sizeN x), []⟩ + 0 + 0 ≤ 11
          rw [tot_line, ptsN_len]
          omega
      · split
        · next e =>
          subst e
          refine ⟨⟨⟨by omega, ?_, fin_rgs hx _⟩, trivial, trivial⟩, ?_⟩
          · rw [show ((3 : Nat) : Int) = 3 from rfl] at hb
            simp only [hb, shapedB, rgs_empty, Fo.len]
            simp
          · show 1 + tot ⟨3, [], rgsN x (sizeN x)⟩ + 0 + 0 ≤ 11
            have := tot_rgs x hz
            omega
        · omega
  | succ lev ih =>
    intro kind nx lv home hF hlv
    have hx := takeS_ok hl nx
    obtain ⟨p1, p2, p3, p4⟩ := kindN_pos (x := (takeS l nx).1) (lev := lev + 1) hF.1
    have hz := sizeN_le (takeS l nx).1
    have hbn : 11 ≤ bndN (lev + 1) := bndN_ge _
    unfold geoS
    simp only
    generalize (takeS l nx).1 = x at *
    generalize (takeS l nx).2 = m at *
    generalize kindN x kind (lev + 1) = k at *
    have hb := hF.ok p3
    split
    · next e =>
      subst e
      refine ⟨⟨⟨by omega, ?_, fin_line hx _ _⟩, trivial, trivial⟩, ?_⟩
      · rw [show ((1 : Nat) : Int) = 1 from rfl] at hb
        simp only [hb, shapedB, ptsN_len, Fo.len]
        simp
        omega
      · show 1 + tot ⟨1, ptsN x (sizeN x % 2), []⟩ + 0 + 0 ≤ _
        rw [tot_line, ptsN_len]
        omega
    · split
      · next e =>
        subst e
        refine ⟨⟨⟨by omega, ?_, fin_line hx _ _⟩, trivial, trivial⟩, ?_⟩
        · rw [show ((2 : Nat) : Int) = 2 from rfl] at hb
          simp only [hb, shapedB, ptsN_len, Fo.len]
          simp
        · show 1 + tot ⟨2, ptsN x (sizeN x), []⟩ + 0 + 0 ≤ _
          rw [tot_line, ptsN_len]
          omega
      · split
        · next e =>
          subst e
          refine ⟨⟨⟨by omega, ?_, fin_rgs hx _⟩, trivial, trivial⟩, ?_⟩
          · rw [show ((3 : Nat) : Int) = 3 from rfl] at hb
            simp only [hb, shapedB, rgs_empty, Fo.len]
            simp
          · show 1 + tot ⟨3, [], rgsN x (sizeN x)⟩ + 0 + 0 ≤ _
            have := tot_rgs x hz
            omega
        · next e1 e2 e3 =>
          have hk : 4 ≤ k := by omega
          have hFp : Fits (partN k) (k : Int) := by
            unfold partN
            split
            · exact ⟨by omega, .inl ⟨rfl, by omega, by omega, by omega⟩⟩
            · exact ⟨by omega, .inr ⟨by omega, by omega⟩⟩
          have hm := many_good (l := l) (lv := lv + 1) (home := (k : Int)) (f := geoS l lev (partN k)) (B := bndN lev) (fun nx => ih (partN k) nx (lv + 1) k hFp (by omega)) (sizeN x) m
          refine ⟨⟨⟨by omega, ?_, by rfl⟩, hm.1, trivial⟩, ?_⟩
          · rw [hb]
            have : k = 4 ∨ k = 5 ∨ k = 6 ∨ k = 7 := by omega
            rcases this with rfl | rfl | rfl | rfl <;> rfl
          · show 1 + tot ⟨(k : Int), [], []⟩ + fsum (foOf (manyT (geoS l lev (partN k)) (sizeN x) m).1) + 0 ≤ 1 + 4 * bndN lev
            have h1 := bndN_ge lev
            have h2 : ((sizeN x : Nat) : Int) * bndN lev ≤ 4 * bndN lev := Int.mul_le_mul_of_nonneg_right (by omega) (by omega)
            have h3 : tot ⟨(k : Int), [], []⟩ = 0 := rfl
            have := hm.2
            omega
theorem tree_good {l : List Nde} (hl : ∀ x ∈ l, NdeOk x) : Good 1 0 (.cons (treeN l).1 (treeN l).2 .nil) ∧ fsum (.cons (treeN l).1 (treeN l).2 .nil) ≤ 46421 :=
  geo_good hl 6 0 0 1 0 ⟨by omega, .inl ⟨rfl, by decide, by decide, by decide⟩⟩ (by omega)
end Mk
end Go.Proofs.YtgobnjeankjkjaaGreatDoor

