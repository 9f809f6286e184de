import Derived.Test.YtgobnjeankjkjaaGreatDoorRows
import Derived.Shelf.Abstract
import Derived.Shelf.RegionOpen
import Derived.WalkKit
import Derived.ProofKit
import Derived.OpenShut
import Derived.OwnWalkIn
import Derived.TacticsInMore
import Derived.LoopNIn
import Derived.LoopIn
import Derived.Below
import Derived.Laws.Rows
import Derived.RangeFuncBound
import Derived.RangeFuncLeaves
import Derived.RangeFuncNested
import Derived.Test.YtgobnjeankjkjaaGreatDoorPb2
import Derived.Test.YtgobnjeankjkjaaGreatDoorPb3
/- tree.lists: the lists of a geometry's own points. -/
namespace Go.Proofs.YtgobnjeankjkjaaGreatDoor
open Go.ChangeShapes Go.WideShapes Go.ChangeAt Go.RowKit Go.Shelf
open Tr Rf
set_option linter.unusedVariables false
attribute [local go_sem] Oper.semAt_some
set_option maxRecDepth 100000 in
set_option maxHeartbeats 1000000 in
theorem lists1_any {n l Bn : Nat} {S : Nat → Prop} {b o : Nat} {g : Gm} {v : Value} (J : Nat → World → Prop) (Jx : World → Prop)
    (hY : ∀ k W u p, J k W → (g.line :: g.rings)[k]? = some p → Pts S W u p → YieldAt Fence.wide n Tryz.prog l #[u] W fun e W' => (e = .returned (.bool true) ∧ J (k + 1) W' ∧ Kp S W W') ∨ (e = .returned (.bool false) ∧ Jx W'))
    {W : World} (hBn : W.cell? ⟨Bn, 0, none⟩ = some (.pointer (some ⟨b, o, none⟩))) (hS : S Bn) (hg : GmAt S W b o g v) (h0 : J 0 W) :
    CallsIn Fence.wide n Tryz.prog 72 #[.func (.yield l) #[] #[], .pointer (some ⟨Bn, 0, none⟩)] W fun e W' => (∃ v, e = .returned v) ∧ (J (g.rings.length + 1) W' ∨ Jx W') := by
  have HG : Hid (GmAt S W b o g v) := hg
  obtain ⟨hb, hk, c0, ⟨v1, c1, p1⟩, ⟨v2, c2, p2⟩, c3⟩ := hg
  obtain ⟨fn, tmps, assign, body, hy, hR⟩ := hY 0 W v1 g.line h0 rfl p1
  obtain ⟨_, a1, d1, rfl, _⟩ := p1
  clear c0 c2 c3 v2 p2 hk h0
  refine callsIn_of_wp Tryz.func72 rfl trivial ?_ rfl
  simp only [Tryz.ntmps72, List.size_toArray, List.length_cons, List.length_nil, Nat.reduceAdd, Nat.reduceSub, Array.replicate_succ, Array.replicate_zero, List.push_toArray, List.append_toArray, List.nil_append, List.cons_append]
  gi_wp2
  refine ⟨fun h => (by cases h), (round_n hR).mono ?_⟩
  rintro e W3 (⟨rfl, hJ3, hk3⟩ | ⟨rfl, hJx3⟩)
  · have hg3 := HG.out.below hk3
    have HG3 : Hid (GmAt S W3 b o g v) := hg3
    have b3 : W3.cell? ⟨Bn, 0, none⟩ = some (.pointer (some ⟨b, o, none⟩)) := (hk3.cell (by exact hS)).trans hBn
    obtain ⟨_, _, _, _, ⟨v2, c2, p2⟩, _⟩ := hg3
    have HP : Hid (Rgs S W3 v2 g.rings) := p2
    obtain ⟨hl2, a2, d2, rfl, hc2⟩ := p2
    clear hR hy hk3 c1 hBn HG
    gi_wp2
    gi_loopw [17] (fun i wr => ∃ k : Nat, i = .int .i64 k ∧ k ≤ g.rings.length ∧ J (k + 1) wr ∧ Kp S W3 wr) (fun i _ => g.rings.length - (intOf i).toNat)
    case atStart => exact ⟨0, rfl, by omega, hJ3, Kp.refl _ _⟩
    case round =>
      obtain ⟨k, rfl, hk, hJ, hK⟩ := hrel
      by_cases hlt : k < g.rings.length
      · obtain ⟨p, hp⟩ : ∃ p, g.rings[k]? = some p := ⟨_, List.getElem?_eq_getElem hlt⟩
        obtain ⟨b2, o2, u, rfl, hb2, cu, hu⟩ := hc2 k p hp
        have cu' : wr.cell? ⟨b2, o2 + k, none⟩ = some u := (hK.cell (by exact hb2)).trans cu
        obtain ⟨fn, tmps, assign, body, hy, hR⟩ := hY (k + 1) wr u p hJ hp (hu.below hK)
        obtain ⟨_, a4, d4, rfl, _⟩ := hu
        have b4 : wr.cell? ⟨Bn, 0, none⟩ = some (.pointer (some ⟨b, o, none⟩)) := (hK.cell (by exact hS)).trans b3
        have hd : decide ((k : Int) < (g.rings.length : Int)) = true := by simp; omega
        clear cu hp hc2 hY
        gi_wp2
        refine ⟨fun h => (by cases h), (round_n hR).mono ?_⟩
        rintro e W5 (⟨rfl, hJ5, hk5⟩ | ⟨rfl, hJx5⟩)
        · have hw : wrap64 ((k : Int) + 1) = (k : Int) + 1 := by unfold wrap64; omega
          gi_wp2
          go_roundw
          case rel => exact ⟨k + 1, by simp, by omega, hJ5, hK.trans hk5⟩
          case measure => simp [intOf]; omega
        · gi_wp2
          refine bodyPost_ret (results_none rfl _ _ _) rfl ?_
          exact ⟨⟨_, rfl⟩, .inr hJx5⟩
      · have hd : decide ((k : Int) < (g.rings.length : Int)) = false := by simp; omega
        have hkk : k = g.rings.length := by omega
        rw [hkk] at hJ
        gi_wp2
        go_end0
        exact ⟨⟨_, rfl⟩, .inl hJ⟩
  · gi_wp2
    refine bodyPost_ret (results_none rfl _ _ _) rfl ?_
    exact ⟨⟨_, rfl⟩, .inr hJx3⟩
set_option maxHeartbeats 1000000 in
theorem lists_any {n : Nat} (p : Option Addr) (w : World) :
    CallsIn Fence.wide n Tryz.prog 44 #[.pointer p] w fun e w' => e = .returned (.func (.func 72) #[] #[.pointer (some ⟨w.heap.size, 0, none⟩)]) ∧ w' = w.alloc (.cells #[.pointer p] 99) := by
  refine callsIn_of_wp Tryz.func44 rfl trivial ?_ rfl
  simp only [Tryz.ntmps44, List.size_toArray, List.length_cons, List.length_nil, Nat.reduceAdd, Nat.reduceSub, Array.replicate_succ, Array.replicate_zero, List.push_toArray, List.append_toArray, List.nil_append, List.cons_append]
  gi_wp2
  go_ret
  exact ⟨rfl, rfl⟩
set_option maxHeartbeats 1000000 in
theorem all_any {n : Nat} (p : Option Addr) (w : World) :
    CallsIn Fence.wide n Tryz.prog 40 #[.pointer p] w fun e w' => e = .returned (.func (.func 66) #[] #[.pointer (some ⟨w.heap.size, 0, none⟩)]) ∧ w' = w.alloc (.cells #[.pointer p] 99) := by
  refine callsIn_of_wp Tryz.func40 rfl trivial ?_ rfl
  simp only [Tryz.ntmps40, List.size_toArray, List.length_cons, List.length_nil, Nat.reduceAdd, Nat.reduceSub, Array.replicate_succ, Array.replicate_zero, List.push_toArray, List.append_toArray, List.nil_append, List.cons_append]
  gi_wp2
  go_ret
  exact ⟨rfl, rfl⟩
end Go.Proofs.YtgobnjeankjkjaaGreatDoor

/- A loop over the lists of a geometry (written by genTrLw.py). -/
namespace Go.Proofs.YtgobnjeankjkjaaGreatDoor
open Go.ChangeShapes Go.WideShapes Go.ChangeAt Go.RowKit Go.Shelf
open Tr Rf
set_option linter.unusedVariables false
namespace Tr
theorem grown_kp {B : Nat} {S : Nat → Prop} {W W' : World} {row : Option Nat} (hS : ∀ k, S k → k < B) (hB : B ≤ W.heap.size) (hg : W.grownBy W' row) (hr : ∀ r, row = some r → B ≤ r ∧ ∃ o : Obj, W.heap[r]? = some o ∧ o.isCells = false) : Kp S W W' :=
  ⟨hg.size, fun k hk => hg.block k (by have := hS k hk; omega) (fun e => by have := (hr k e.symm).1; have := hS k hk; omega)⟩
theorem Turn_kp {l : Nat} {S : Nat → Prop} {W W' : World} (h : Turn l W W') (hS : ∀ k, S k → k < l) : Kp S W W' := Kp.of_below (h.below (Nat.le_refl l)) hS
theorem zip_one (t0 : Tmp) (v : Value) (tmps : Array Value) : ((#[t0] : Array Tmp).zip #[v]).foldl (fun t (p, v) => t.setIfInBounds p v) tmps = tmps.setIfInBounds t0 v := by
  have h : (#[t0] : Array Tmp).zip #[v] = #[(t0, v)] := by apply Array.ext'; simp
  rw [h]; rfl
/-- how a round's body over a list may be left -/
def lPost (B : Nat) (S : Nat → Prop) (I : Nat → World → Prop) (Ix : Code → World → Prop) (k : Nat) (W W2 : World) : Exit → Act → World → Prop
  | .normal, _, W' => KeepsFrom B W2 W' ∧ I (k + 1) W' ∧ Kp S W W'
  | .ret, _, W' => KeepsFrom B W2 W' ∧ Ix .ret W'
  | .exit id, _, W' => KeepsFrom B W2 W' ∧ Ix (.exit id) W'
  | .goto t, _, W' => KeepsFrom B W2 W' ∧ Ix (.goto t) W'
  | .panic _, _, _ => False
  | .outgrown, _, _ => False
end Tr
theorem wpIn_lists {n : Nat} {gO : Operand} {t0 : Tmp} {assign body : Code} {Q : Exit → Act → World → Prop} {a : Act} {w : World} {Bn b o : Nat} {S : Nat → Prop} {g : Gm} {v : Value}
    (hg : a.eval gO = .func (.func 72) #[] #[.pointer (some ⟨Bn, 0, none⟩)]) (hS : ∀ k, S k → k < w.heap.size)
    (hBn : w.cell? ⟨Bn, 0, none⟩ = some (.pointer (some ⟨b, o, none⟩))) (hSB : S Bn) (hG : GmAt S w b o g v)
    (I : Nat → World → Prop) (Ix : Code → World → Prop) (oI : OwnFrom w.heap.size I) (oIx : OwnFrom w.heap.size Ix) (h0 : I 0 w)
    (hround : ∀ (l k : Nat) (p : List Pt) (a4 : Option Addr) (c4 : Nat) (W : World), w.heap.size ≤ l → w.heap.size ≤ W.heap.size → (g.line :: g.rings)[k]? = some p → I k W → Pts S W (.slice a4 p.length c4) p →
      assign.wpIn (Fence.wide.inRound l) n Tryz.prog (Exit.then (fun a' W1 => KeepsFrom w.heap.size W W1 ∧ ∀ W2, Turn l W1 W2 → body.wpIn (Fence.wide.inRound l) n Tryz.prog (lPost w.heap.size S I Ix k W W2) a' W2) (fun _ _ _ => False))
        { tmps := a.tmps.setIfInBounds t0 (.slice a4 p.length c4), defers := [] } W)
    (hdone : ∀ (D : Nat) (W : World), w.heap.size ≤ D → I (g.rings.length + 1) W → W.heap[D]? = some (.deferred (some [])) → Q .normal { a with defers := { target := .collected D, args := #[] } :: a.defers } W)
    (hstop : ∀ (D : Nat) (c : Code) (W : World), w.heap.size ≤ D → Ix c W → W.heap[D]? = some (.deferred (some [])) → c.wpIn Fence.wide n Tryz.prog Q { a with defers := { target := .collected D, args := #[] } :: a.defers } W) :
    (Code.rangeFunc gO #[t0] assign body).wpIn Fence.wide n Tryz.prog Q a w := by
  have oK : ∀ (X : World) (W W' : World) (row : Option Nat), w.heap.size ≤ W.heap.size → Kp S X W → W.grownBy W' row → (∀ r, row = some r → w.heap.size ≤ r ∧ ∃ o : Obj, W.heap[r]? = some o ∧ o.isCells = false) → w.heap.size ≤ W'.heap.size ∧ Kp S X W' := fun X W W' row h1 h2 h3 h4 =>
    ⟨Nat.le_trans h1 h3.size, h2.trans (grown_kp hS h1 h3 h4)⟩
  refine wpIn_range (σ := Nat × Value × List Pt × World) hg (enters_of Tryz.func72 (by kernel_rfl) rfl) (fun s => #[s.2.1]) (fun _ => rfl)
    (fun s W => (w.heap.size ≤ W.heap.size ∧ Kp S s.2.2.2 W) ∧ I s.1 W ∧ (g.line :: g.rings)[s.1]? = some s.2.2.1 ∧ Pts S W s.2.1 s.2.2.1)
    (fun s W => (w.heap.size ≤ W.heap.size ∧ Kp S s.2.2.2 W) ∧ I (s.1 + 1) W)
    (fun W => (w.heap.size ≤ W.heap.size ∧ Kp S w W) ∧ I 0 W) (I (g.rings.length + 1)) Ix
    (fun s W W' row ⟨⟨h1, h2⟩, h3, h4, h5⟩ hg hr => ⟨oK _ W W' row h1 h2 hg hr, oI _ W W' row h3 hg hr, h4, h5.below (grown_kp hS h1 hg hr)⟩)
    (fun s W W' row ⟨⟨h1, h2⟩, h3⟩ hg hr => ⟨oK _ W W' row h1 h2 hg hr, oI _ W W' row h3 hg hr⟩)
    (fun s W W' row ⟨⟨h1, h2⟩, h3⟩ hg hr => ⟨oK _ W W' row h1 h2 hg hr, oI _ W W' row h3 hg hr⟩)
    (fun s W W' row h3 hg hr => oI _ W W' row h3 hg hr) oIx ⟨⟨Nat.le_refl _, Kp.refl _ _⟩, h0⟩ ?hit ?round hdone hstop
  case hit =>
    rintro l R Rx hR hRx hY W ⟨⟨hB, hK⟩, hI⟩ hRW
    refine (lists1_any (fun k W => w.heap.size ≤ W.heap.size ∧ I k W ∧ R W) (fun W => ∃ c, Ix c W ∧ Rx c W) ?_ ((hK.cell (by exact hSB)).trans hBn) hSB (hG.below hK) ⟨hB, hI, hRW⟩).mono ?_
    · rintro k W u p ⟨hB, hI, hRW⟩ hp hu
      refine (hY (k, u, p, W) W ⟨⟨hB, Kp.refl _ _⟩, hI, hp, hu⟩ hRW).mono ?_
      rintro e W' (⟨rfl, ⟨⟨h1, h2⟩, h3⟩, h4⟩ | ⟨rfl, h⟩)
      · exact .inl ⟨rfl, ⟨h1, h3, h4⟩, h2⟩
      · exact .inr ⟨rfl, h⟩
    · rintro e W' ⟨hv, ⟨_, h2, h3⟩ | h⟩
      · exact ⟨hv, .inl ⟨h2, h3⟩⟩
      · exact ⟨hv, .inr h⟩
  case round =>
    rintro l ⟨k, u, p, X⟩ W hl ⟨⟨hB, hK⟩, hI, hp, hu⟩
    obtain ⟨a4, c4, hu'⟩ : ∃ a4 c4, u = .slice a4 p.length c4 := ⟨_, _, hu.2.choose_spec.choose_spec.1⟩
    simp only at hu' hp hu hI hK
    subst hu'
    rw [zip_one]
    refine wpIn_mono (hround l k p a4 c4 W hl hB hp hI hu) ?_
    intro ex a' W1 h
    cases ex with
    | normal =>
      refine ⟨h.1, fun W2 hT => wpIn_mono (h.2 W2 hT) ?_⟩
      have hz : W1.heap.size ≤ W2.heap.size := by rw [hT.size]; exact Nat.le_refl _
      intro ex a3 W3 h3
      cases ex with
      | normal => exact ⟨h3.1, ⟨Nat.le_trans hB h3.2.2.size, hK.trans h3.2.2⟩, h3.2.1⟩
      | ret => exact h3
      | exit id => exact h3
      | goto t => exact h3
      | panic c => exact h3.elim
      | outgrown => exact h3.elim
    | ret => exact h.elim
    | exit id => exact h.elim
    | goto t => exact h.elim
    | panic c => exact h.elim
    | outgrown => exact h.elim
theorem wpIn_listsN {l₀ : Nat} {r₀ : Loop} {n : Nat} {gO : Operand} {t0 : Tmp} {assign body : Code} {Q : Exit → Act → World → Prop} {a : Act} {w : World} {Bn b o : Nat} {S : Nat → Prop} {g : Gm} {v : Value}
    (hl₀ : w.heap[l₀]? = some (.loop r₀)) (hg : a.eval gO = .func (.func 72) #[] #[.pointer (some ⟨Bn, 0, none⟩)]) (hS : ∀ k, S k → k < w.heap.size)
    (hBn : w.cell? ⟨Bn, 0, none⟩ = some (.pointer (some ⟨b, o, none⟩))) (hSB : S Bn) (hG : GmAt S w b o g v)
    (I : Nat → World → Prop) (Ix : Code → World → Prop) (oI : OwnFrom w.heap.size I) (oIx : OwnFrom w.heap.size Ix) (h0 : I 0 w)
    (hround : ∀ (l k : Nat) (p : List Pt) (a4 : Option Addr) (c4 : Nat) (W : World), w.heap.size ≤ l → w.heap.size ≤ W.heap.size → (g.line :: g.rings)[k]? = some p → I k W → Pts S W (.slice a4 p.length c4) p →
      assign.wpIn (Fence.wide.inRound l) n Tryz.prog (Exit.then (fun a' W1 => KeepsFrom w.heap.size W W1 ∧ ∀ W2, Turn l W1 W2 → body.wpIn (Fence.wide.inRound l) n Tryz.prog (lPost w.heap.size S I Ix k W W2) a' W2) (fun _ _ _ => False))
        { tmps := a.tmps.setIfInBounds t0 (.slice a4 p.length c4), defers := [] } W)
    (hdone : ∀ (W : World), I (g.rings.length + 1) W → Q .normal a W)
    (hstop : ∀ (c : Code) (W : World), Ix c W → c.wpIn (Fence.wide.inRound l₀) n Tryz.prog Q a W) :
    (Code.rangeFunc gO #[t0] assign body).wpIn (Fence.wide.inRound l₀) n Tryz.prog Q a w := by
  have oK : ∀ (X : World) (W W' : World) (row : Option Nat), w.heap.size ≤ W.heap.size → Kp S X W → W.grownBy W' row → (∀ r, row = some r → w.heap.size ≤ r ∧ ∃ o : Obj, W.heap[r]? = some o ∧ o.isCells = false) → w.heap.size ≤ W'.heap.size ∧ Kp S X W' := fun X W W' row h1 h2 h3 h4 =>
    ⟨Nat.le_trans h1 h3.size, h2.trans (grown_kp hS h1 h3 h4)⟩
  refine wpIn_rangeN hl₀ (σ := Nat × Value × List Pt × World) hg (enters_of Tryz.func72 (by kernel_rfl) rfl) (fun s => #[s.2.1]) (fun _ => rfl)
    (fun s W => (w.heap.size ≤ W.heap.size ∧ Kp S s.2.2.2 W) ∧ I s.1 W ∧ (g.line :: g.rings)[s.1]? = some s.2.2.1 ∧ Pts S W s.2.1 s.2.2.1)
    (fun s W => (w.heap.size ≤ W.heap.size ∧ Kp S s.2.2.2 W) ∧ I (s.1 + 1) W)
    (fun W => (w.heap.size ≤ W.heap.size ∧ Kp S w W) ∧ I 0 W) (I (g.rings.length + 1)) Ix
    (fun s W W' row ⟨⟨h1, h2⟩, h3, h4, h5⟩ hg hr => ⟨oK _ W W' row h1 h2 hg hr, oI _ W W' row h3 hg hr, h4, h5.below (grown_kp hS h1 hg hr)⟩)
    (fun s W W' row ⟨⟨h1, h2⟩, h3⟩ hg hr => ⟨oK _ W W' row h1 h2 hg hr, oI _ W W' row h3 hg hr⟩)
    (fun s W W' row ⟨⟨h1, h2⟩, h3⟩ hg hr => ⟨oK _ W W' row h1 h2 hg hr, oI _ W W' row h3 hg hr⟩)
    (fun s W W' row h3 hg hr => oI _ W W' row h3 hg hr) oIx ⟨⟨Nat.le_refl _, Kp.refl _ _⟩, h0⟩ ?hit ?round hdone hstop
  case hit =>
    rintro l R Rx hR hRx hY W ⟨⟨hB, hK⟩, hI⟩ hRW
    refine (lists1_any (fun k W => w.heap.size ≤ W.heap.size ∧ I k W ∧ R W) (fun W => ∃ c, Ix c W ∧ Rx c W) ?_ ((hK.cell (by exact hSB)).trans hBn) hSB (hG.below hK) ⟨hB, hI, hRW⟩).mono ?_
    · rintro k W u p ⟨hB, hI, hRW⟩ hp hu
      refine (hY (k, u, p, W) W ⟨⟨hB, Kp.refl _ _⟩, hI, hp, hu⟩ hRW).mono ?_
      rintro e W' (⟨rfl, ⟨⟨h1, h2⟩, h3⟩, h4⟩ | ⟨rfl, h⟩)
      · exact .inl ⟨rfl, ⟨h1, h3, h4⟩, h2⟩
      · exact .inr ⟨rfl, h⟩
    · rintro e W' ⟨hv, ⟨_, h2, h3⟩ | h⟩
      · exact ⟨hv, .inl ⟨h2, h3⟩⟩
      · exact ⟨hv, .inr h⟩
  case round =>
    rintro l ⟨k, u, p, X⟩ W hl ⟨⟨hB, hK⟩, hI, hp, hu⟩
    obtain ⟨a4, c4, hu'⟩ : ∃ a4 c4, u = .slice a4 p.length c4 := ⟨_, _, hu.2.choose_spec.choose_spec.1⟩
    simp only at hu' hp hu hI hK
    subst hu'
    rw [zip_one]
    refine wpIn_mono (hround l k p a4 c4 W hl hB hp hI hu) ?_
    intro ex a' W1 h
    cases ex with
    | normal =>
      refine ⟨h.1, fun W2 hT => wpIn_mono (h.2 W2 hT) ?_⟩
      have hz : W1.heap.size ≤ W2.heap.size := by rw [hT.size]; exact Nat.le_refl _
      intro ex a3 W3 h3
      cases ex with
      | normal => exact ⟨h3.1, ⟨Nat.le_trans hB h3.2.2.size, hK.trans h3.2.2⟩, h3.2.1⟩
      | ret => exact h3
      | exit id => exact h3
      | goto t => exact h3
      | panic c => exact h3.elim
      | outgrown => exact h3.elim
    | ret => exact h.elim
    | exit id => exact h.elim
    | goto t => exact h.elim
    | panic c => exact h.elim
    | outgrown => exact h.elim
end Go.Proofs.YtgobnjeankjkjaaGreatDoor

/- (*tree.room).take. -/
namespace Go.Proofs.YtgobnjeankjkjaaGreatDoor
open Go.ChangeShapes Go.WideShapes Go.ChangeAt Go.RowKit Go.Shelf
open Tr Rf
set_option linter.unusedVariables false
attribute [local go_sem] Oper.semAt_some
namespace Tr
/-- only block gr, and new ones, have turned -/
structure Ex (gr : Nat) (w w' : World) : Prop where
  os : w'.os = w.os
  tape : w'.tape = w.tape
  output : w'.output = w.output
  size : w.heap.size ≤ w'.heap.size
  block : ∀ k, k < w.heap.size → k ≠ gr → w'.heap[k]? = w.heap[k]?
section
variable {gr : Nat} {a b c w w' : World}
theorem Ex.refl (gr : Nat) (w : World) : Ex gr w w := ⟨rfl, rfl, rfl, Nat.le_refl _, fun _ _ _ => rfl⟩
theorem Ex.trans (h : Ex gr a b) (k : Ex gr b c) : Ex gr a c := ⟨k.os.trans h.os, k.tape.trans h.tape, k.output.trans h.output, Nat.le_trans h.size k.size, fun i hi hn => (k.block i (Nat.lt_of_lt_of_le hi h.size) hn).trans (h.block i hi hn)⟩
theorem Ex.below (h : Ex gr a b) (k : Below b.heap.size b c) : Ex gr a c := h.trans ⟨k.os, k.tape, k.output, k.size, fun i hi _ => k.block i hi⟩
theorem Ex.alloc (h : Ex gr a b) (o : Obj) : Ex gr a (b.alloc o) := h.below ((Below.refl _ b).alloc (Nat.le_refl _) o)
theorem Ex.set (h : Ex gr a b) (o : Nat) (v : Value) : Ex gr a (b.setCell ⟨gr, o, none⟩ v) := h.trans ⟨rfl, rfl, rfl, by simp [World.setCell], fun k hk hn => Below.heap_setCell _ _ _ _ hn⟩
/-- a store into a block that is new -/
theorem Ex.setNew (h : Ex gr a b) {p : Addr} (hp : a.heap.size ≤ p.block) (v : Value) : Ex gr a (b.setCell p v) :=
  ⟨h.os, h.tape, h.output, by have := h.size; simp [World.setCell]; omega, fun k hk hn => (Below.heap_setCell _ _ _ _ (by omega)).trans (h.block k hk hn)⟩
theorem Ex.grown {row : Option Nat} {B : Nat} (h : Ex gr a b) (hg : b.grownBy c row) (hr : ∀ r, row = some r → B ≤ r) (hB : a.heap.size ≤ B) : Ex gr a c :=
  ⟨hg.os.trans h.os, hg.tape.trans h.tape, hg.output.trans h.output, Nat.le_trans h.size hg.size, fun k hk hn => (hg.block k (Nat.lt_of_lt_of_le hk h.size) (fun e => by have := hr k e.symm; omega)).trans (h.block k hk hn)⟩
theorem Ex.toBelow {B : Nat} (h : Ex gr a b) (hB : B ≤ a.heap.size) (hg : B ≤ gr) : Below B a b := ⟨h.os, h.tape, h.output, h.size, fun k hk => h.block k (by omega) (by omega)⟩
theorem Ex.boxed (h : Ex gr a b) {B : Nat} {t : TypeId} {v : Value} (hb : Boxed a B t v) (hn : B ≠ gr) : Boxed b B t v := (h.block B hb.lt hn).trans hb
theorem ownFrom_ex {β : Type} {B : Nat} (hB : a.heap.size ≤ B) : OwnFrom B (fun (_ : β) W => Ex gr a W) := fun _ W W' row hs hg hr => hs.grown hg (fun r e => (hr r e).1) hB
end
def tot (g : Gm) : Int := (((g.line :: g.rings).map List.length).sum : Nat)
def ptot (g : Gm) (k : Nat) : Int := ((((g.line :: g.rings).take k).map List.length).sum : Nat)
theorem ptot_zero (g : Gm) : ptot g 0 = 0 := rfl
theorem ptot_succ {g : Gm} {k : Nat} {p : List Pt} (h : (g.line :: g.rings)[k]? = some p) : ptot g (k + 1) = ptot g k + (p.length : Int) := by
  unfold ptot
  rw [List.take_add_one, h]
  simp
theorem ptot_all (g : Gm) : ptot g (g.rings.length + 1) = tot g := by
  unfold ptot tot
  rw [List.take_of_length_le (by simp)]
theorem ptot_le (g : Gm) (k : Nat) : 0 ≤ ptot g k ∧ ptot g k ≤ tot g := by
  unfold ptot tot
  refine ⟨by omega, ?_⟩
  have h := List.take_append_drop k (g.line :: g.rings)
  have : ((g.line :: g.rings).map List.length).sum = (((g.line :: g.rings).take k).map List.length).sum + (((g.line :: g.rings).drop k).map List.length).sum := by
    conv => lhs; rw [← h]
    rw [List.map_append, List.sum_append_nat]
  omega
theorem keeps_set (B : Nat) (W : World) (a : Addr) (v : Value) : KeepsFrom B W (W.setCell a v) := (KeepsOthers.setCell W a v).from B
end Tr
set_option maxRecDepth 100000 in
set_option maxHeartbeats 2000000 in
theorem take_any {n gr b o : Nat} {S : Nat → Prop} {t : TypeId} {g : Gm} {v : Value} {R : Int} {w : World} (hr : Boxed w gr t (.int .i64 R)) (hSg : ∀ k, S k → k ≠ gr) (hSw : ∀ k, S k → k < w.heap.size) (hG : GmAt S w b o g v) (r0 : -1099511627776 ≤ R) (r1 : R ≤ 1099511627776) (ht : tot g ≤ 1099511627776) :
    CallsIn Fence.wide n Tryz.prog 69 #[.pointer (some ⟨gr, 0, none⟩), .pointer (some ⟨b, o, none⟩)] w fun e w' => e = .returned (.bool (decide (tot g + 1 ≤ R))) ∧ (∃ R', Boxed w' gr t (.int .i64 R') ∧ (tot g + 1 ≤ R → R' = R - 1 - tot g)) ∧ Ex gr w w' := by
  refine callsIn_of_wp_marks Tryz.func69 rfl trivial ?_ rfl
  simp only [Tryz.ntmps69, List.size_toArray, List.length_cons, List.length_nil, Nat.reduceAdd, Nat.reduceSub, Array.replicate_succ, Array.replicate_zero, List.push_toArray, List.append_toArray, List.nil_append, List.cons_append]
  have hlt := hr.lt
  have hc := hr.cell
  have hf := hr.frozen
  have hne : gr ≠ w.heap.size := by omega
  have hw1 : wrap64 (R - 1) = R - 1 := by unfold wrap64; omega
  gi_wp2
  refine ⟨trivial, fun h => (by cases h), (lists_any _ _).mono ?_⟩
  rintro e w' ⟨rfl, rfl⟩
  gi_wp2
  -- the world where the loop begins
  have e0 : Ex gr w ((((w.setCell ⟨gr, 0, none⟩ (.int .i64 (R - 1))).alloc (.cells #[.pointer (some ⟨gr, 0, none⟩)] 174)).alloc (.cells #[.bool false] 4)).alloc (.cells #[.pointer (some ⟨b, o, none⟩)] 99)) := (((Ex.set (Ex.refl gr w) 0 _).alloc _).alloc _).alloc _
  have b1 : Boxed ((((w.setCell ⟨gr, 0, none⟩ (.int .i64 (R - 1))).alloc (.cells #[.pointer (some ⟨gr, 0, none⟩)] 174)).alloc (.cells #[.bool false] 4)).alloc (.cells #[.pointer (some ⟨b, o, none⟩)] 99)) gr t (.int .i64 (R - 1)) := (((hr.set _).alloc _).alloc _).alloc _
  have b2 := ((Boxed.new (w.setCell ⟨gr, 0, none⟩ (.int .i64 (R - 1))) 174 (.pointer (some ⟨gr, 0, none⟩))).alloc (.cells #[.bool false] 4)).alloc (.cells #[.pointer (some ⟨b, o, none⟩)] 99)
  have b3 := (Boxed.new ((w.setCell ⟨gr, 0, none⟩ (.int .i64 (R - 1))).alloc (.cells #[.pointer (some ⟨gr, 0, none⟩)] 174)) 4 (.bool false)).alloc (.cells #[.pointer (some ⟨b, o, none⟩)] 99)
  have b4 := Boxed.new (((w.setCell ⟨gr, 0, none⟩ (.int .i64 (R - 1))).alloc (.cells #[.pointer (some ⟨gr, 0, none⟩)] 174)).alloc (.cells #[.bool false] 4)) 99 (.pointer (some ⟨b, o, none⟩))
  simp only [World.size_alloc, World.size_setCell] at b2 b3 b4
  have hz : w.heap.size + 3 = ((((w.setCell ⟨gr, 0, none⟩ (.int .i64 (R - 1))).alloc (.cells #[.pointer (some ⟨gr, 0, none⟩)] 174)).alloc (.cells #[.bool false] 4)).alloc (.cells #[.pointer (some ⟨b, o, none⟩)] 99)).heap.size := by simp
  obtain ⟨W0, hW0⟩ : ∃ W0, ((((w.setCell ⟨gr, 0, none⟩ (.int .i64 (R - 1))).alloc (.cells #[.pointer (some ⟨gr, 0, none⟩)] 174)).alloc (.cells #[.bool false] 4)).alloc (.cells #[.pointer (some ⟨b, o, none⟩)] 99)) = W0 := ⟨_, rfl⟩
  rw [hW0] at e0 b1 b2 b3 b4 hz ⊢
  clear hW0
  have hkp : Kp S w W0 := ⟨e0.size, fun k hk => e0.block k (hSw k hk) (hSg k hk)⟩
  have hle : ∀ k, ptot g k ≤ 1099511627776 ∧ 0 ≤ ptot g k := fun k => by have := ptot_le g k; omega
  refine wpIn_lists (S := fun k => S k ∨ k = w.heap.size + 1 + 1) rfl (fun k hk => by rcases hk with hk | hk; have := hSw k hk; omega; omega) b4.cell (.inr rfl) ((hG.below hkp).mono (fun k hk => .inl hk))
    (fun k W => (Boxed W gr t (.int .i64 (R - 1 - ptot g k)) ∧ Boxed W w.heap.size 174 (.pointer (some ⟨gr, 0, none⟩)) ∧ Boxed W (w.heap.size + 1) 4 (.bool false)) ∧ Ex gr w W)
    (fun c W => (c = .ret ∧ R < tot g + 1 ∧ Boxed W (w.heap.size + 1) 4 (.bool false) ∧ ∃ x, Boxed W gr t (.int .i64 x)) ∧ Ex gr w W)
    (OwnFrom.and (OwnFrom.and (Own.from (boxed_own _ _ _) _) (OwnFrom.and (Own.from (boxed_own _ _ _) _) (Own.from (boxed_own _ _ _) _))) (ownFrom_ex (by omega)))
    (OwnFrom.and (fun c X Y row ⟨h1, h2, h3, x, h4⟩ hg hr => ⟨h1, h2, boxed_own (w.heap.size + 1) 4 (fun (_ : Unit) => Value.bool false) () X Y row h3 hg (fun r e => (hr r e).2), x, boxed_own gr t (fun (_ : Unit) => Value.int .i64 x) () X Y row h4 hg (fun r e => (hr r e).2)⟩) (ownFrom_ex (by omega)))
    ⟨⟨by rw [ptot_zero, Int.sub_zero]; exact b1, b2, b3⟩, e0⟩ ?round ?done ?stop
  case round =>
    rintro l k p a4 c4 W hl hWz hp ⟨⟨c1, c2, c3⟩, hE⟩ hP
    simp only [List.setIfInBounds_toArray, List.set_cons_succ, List.set_cons_zero]
    have hpl := hP.1
    have hps := ptot_succ hp
    gi_wp2
    refine ⟨KeepsFrom.refl _ _, fun W2 hT => ?_⟩
    replace c1 : Boxed W2 gr t _ := hT.cells c1 rfl
    replace c2 : Boxed W2 _ _ _ := hT.cells c2 rfl
    replace c3 : Boxed W2 _ _ _ := hT.cells c3 rfl
    replace hE : Ex gr w W2 := hE.grown hT.grown (B := l) (fun r e => by cases e; exact Nat.le_refl _) (by omega)
    have hK2 : Kp (fun k => S k ∨ k = w.heap.size + 1 + 1) W W2 := Turn_kp hT (fun k hk => by rcases hk with hk | hk; have := hSw k hk; omega; omega)
    have x1 := c1.cell
    have x2 := c2.cell
    have x3 := c3.cell
    have f1 := c1.frozen
    have f3 := c3.frozen
    obtain ⟨q1, q2⟩ := hle k
    by_cases hneg : R - 1 - ptot g k < 0
    · have d : decide (R - 1 - ptot g k < 0) = true := by simp; omega
      gi_wp2
      exact ⟨keeps_set _ _ _ _, ⟨rfl, by have := ptot_le g k; omega, c3.set _, _, c1.other (by omega) _⟩, hE.setNew (by simp) _⟩
    · have d : decide (R - 1 - ptot g k < 0) = false := by simp; omega
      have hw2 : wrap64 (R - 1 - ptot g k - (p.length : Int)) = R - 1 - ptot g k - (p.length : Int) := by unfold wrap64; omega
      have he : R - 1 - ptot g (k + 1) = R - 1 - ptot g k - (p.length : Int) := by omega
      have HE : Hid (R - 1 - ptot g (k + 1) = R - 1 - ptot g k - (p.length : Int)) := he
      clear he hps
      gi_wp2
      refine ⟨keeps_set _ _ _ _, ⟨⟨by rw [HE.out]; exact c1.set _, c2.other (by omega) _, c3.other (by omega) _⟩, hE.set _ _⟩, (hK2.setCell (by rintro (hk | hk); exact hSg _ hk rfl; simp at hk; omega) _)⟩
  case done =>
    rintro D W hD ⟨⟨c1, c2, c3⟩, hE⟩ hK
    rw [ptot_all] at c1
    obtain ⟨X, hX⟩ : ∃ X, X = R - 1 - tot g := ⟨_, rfl⟩
    rw [← hX] at c1
    have HX : Hid (X = R - 1 - tot g) := hX
    clear hX
    have x1 := c1.cell
    have x2 := c2.cell
    have x3 := c3.cell
    have f3 := c3.frozen
    have hgo : Hid (decide (0 ≤ X) = decide (tot g + 1 ≤ R)) := by show _ = _; have := HX.out; congr 1; apply propext; omega
    gi_wp2
    have hDn : D ≠ w.heap.size + 1 := by omega
    have hK' := (KeepsOthers.setCell W ⟨w.heap.size + 1, 0, none⟩ (.bool (decide (0 ≤ X)))).same D _ hK rfl
    refine ⟨by simp, .inl ⟨_, _, rfl, run_takeDeferred hK', ?_⟩⟩
    have hB3 := boxed_own (w.heap.size + 1) 4 (fun (_ : Unit) => Value.bool (decide (0 ≤ X))) () _ _ _ (c3.set _) (grownBy_putObj' _ D (.deferred none)) (fun r e => by cases e; exact ⟨_, hK', rfl⟩)
    have hB1 := boxed_own gr t (fun (_ : Unit) => Value.int .i64 (X)) () _ _ _ (c1.other (B' := w.heap.size + 1) (by omega) (.bool (decide (0 ≤ X)))) (grownBy_putObj' _ D (.deferred none)) (fun r e => by cases e; exact ⟨_, hK', rfl⟩)
    have x9 := hB3.cell
    refine ⟨.bool (decide (0 ≤ X)), by simp [results, Tryz.results69, go_sem, x9], by rw [hgo.out], ⟨_, hB1, fun _ => HX.out⟩, (hE.setNew (by simp) _).grown (B := D) (grownBy_putObj' _ D _) (fun r e => by cases e; exact Nat.le_refl _) (by omega)⟩
  case stop =>
    rintro D c W hD ⟨⟨rfl, hlt, c3, x, c1⟩, hE⟩ hK
    gi_wp2
    refine ⟨by simp, .inl ⟨_, _, rfl, run_takeDeferred hK, ?_⟩⟩
    have hB3 := boxed_own (w.heap.size + 1) 4 (fun (_ : Unit) => Value.bool false) () _ _ _ c3 (grownBy_putObj' _ D (.deferred none)) (fun r e => by cases e; exact ⟨_, hK, rfl⟩)
    have hB1 := boxed_own gr t (fun (_ : Unit) => Value.int .i64 x) () _ _ _ c1 (grownBy_putObj' _ D (.deferred none)) (fun r e => by cases e; exact ⟨_, hK, rfl⟩)
    have x9 := hB3.cell
    have hno : decide (tot g + 1 ≤ R) = false := by simp; omega
    refine ⟨.bool false, by simp [results, Tryz.results69, go_sem, x9], by rw [hno], ⟨_, hB1, fun h => by omega⟩, hE.grown (B := D) (grownBy_putObj' _ D _) (fun r e => by cases e; exact Nat.le_refl _) (by omega)⟩
end Go.Proofs.YtgobnjeankjkjaaGreatDoor

