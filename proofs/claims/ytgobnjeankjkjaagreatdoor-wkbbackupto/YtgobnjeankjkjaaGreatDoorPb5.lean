import Derived.Orders
import Derived.OrdersIn
import Derived.TacticsIn
import Derived.RangeFuncCalls
import Derived.RangeFuncBound
import Derived.RangeFuncLeaves
import Derived.RangeFuncNested
import Derived.Test.YtgobnjeankjkjaaGreatDoorPb3
/- A region within a round of a range over a function, by the laws of the plain walk. -/
namespace Go.Proofs.YtgobnjeankjkjaaGreatDoor
open Go
set_option linter.unusedVariables false
namespace Rg
/-- all orders of a region -/
def linAll (md : Region.Mode) (ops : Array Oper) : Nat → Array Bool → List (List Nat)
  | 0, _ => [[]]
  | fuel + 1, listed =>
    match Region.ready md ops listed with
    | [] => [[]]
    | r :: rs => (r :: rs).flatMap fun i => (linAll md ops fuel (listed.setIfInBounds i true)).map (i :: ·)
theorem lin_mem (md : Region.Mode) (ops : Array Oper) : ∀ (fuel t : Nat) (listed : Array Bool), Region.linearise.go md ops fuel t listed [] ∈ linAll md ops fuel listed := by
  intro fuel
  induction fuel with
  | zero => intro t listed; simp [Region.linearise.go, linAll]
  | succ fuel ih =>
    intro t listed
    simp only [Region.linearise.go]
    change (match (Region.ready md ops listed)[t % (Region.ready md ops listed).length]? with
      | some i => Region.linearise.go md ops fuel (t / (Region.ready md ops listed).length) (listed.setIfInBounds i true) [i]
      | none => [].reverse) ∈ _
    cases hr : Region.ready md ops listed with
    | nil => simp [linAll, hr]
    | cons x xs =>
      have hlt : t % (x :: xs).length < (x :: xs).length := Nat.mod_lt _ (by simp)
      rw [List.getElem?_eq_getElem hlt]
      simp only []
      rw [linearise_go_acc, List.reverse_singleton, List.singleton_append]
      simp only [linAll, hr]
      exact List.mem_flatMap.2 ⟨_, List.getElem_mem hlt, List.mem_map.2 ⟨_, ih _ _, rfl⟩⟩
def noDefer (o : Oper) : Bool := match o.op with | .defer _ => false | _ => true
theorem noDefer_ne {o : Oper} (h : noDefer o = true) : ∀ c, o.op ≠ .defer c := by
  intro c e
  unfold noDefer at h
  rw [e] at h
  cases h
theorem rows_wide {n l : Nat} {P : Program} {row : String} {args : Array Value} {w : World} {R : Value → World → Prop} (h : Rows P row args w R) : RowsIn (Fence.wide.inRound l) n P row args w R := by
  intro c cs _
  obtain ⟨v, w', r, s⟩ := h c cs
  exact ⟨v, w', r, stepsIn_wide.2 s⟩
theorem oper_round {l n : Nat} {P : Program} {o : Oper} {a : Act} {w : World} {K : Act → World → Prop} {Q : Exit → Act → World → Prop} (hd : noDefer o = true) (h : o.wp P a w K Q) : o.wpIn (Fence.wide.inRound l) n P a w K Q := by
  unfold Oper.wpIn
  refine ⟨fun _ _ => trivial, ?_⟩
  rw [Fence.inRound_round, Oper.semAt_some l a.eval o (noDefer_ne hd)]
  unfold Oper.wp at h
  generalize (execOp a.eval o).run P w = r at *
  cases r with
  | ok x w' =>
    cases x with
    | value v => exact h
    | skip => exact h
    | defer d => exact h
    | enter f args => exact ⟨fun q => (by cases q), CallsIn.inRound l (callsIn_wide.2 h)⟩
    | row r args => exact ⟨fun q => (by cases q), rows_wide h⟩
    | round => exact h.elim
    | _ => exact h.elim
  | halt x w' => cases x <;> first | exact h | exact h.elim
theorem ops_round {l n : Nat} {P : Program} {ops : Array Oper} {Q : Exit → Act → World → Prop} (hQ : ¬ LetsOut Q) (hd : ops.toList.all noDefer = true) : ∀ (is : List Nat) (a : Act) (w : World), wpList P ops Q (is.filterMap (fun i => ops[i]?)) a w → wpOpsIn (Fence.wide.inRound l) n P ops Q is a w := by
  intro is
  induction is with
  | nil => intro a w h; exact h
  | cons i rest ih =>
    intro a w h
    cases ho : ops[i]? with
    | none =>
      simp only [wpOpsIn, ho]
      exact ih a w (by simpa [ho] using h)
    | some o =>
      have hm : o ∈ ops.toList := by
        have := Array.mem_of_getElem? ho
        exact Array.mem_toList_iff.2 this
      have hdo := List.all_eq_true.1 hd o hm
      simp only [List.filterMap_cons, ho] at h
      simp only [wpOpsIn, ho]
      unfold wpList at h
      split at h
      · next q =>
        simp only [q, if_true]
        have h2 := oper_round (l := l) (n := n) hdo (h.resolve_right (fun q => hQ q.2))
        exact Oper.wpIn_mono (fun a w q => ih a w q) h2
      · next q =>
        simp only [q]
        exact ⟨fun _ _ => trivial, ih _ _ h⟩
theorem wpIn_round_draw {l n id : Nat} {P : Program} {ops : Array Oper} {Q : Exit → Act → World → Prop} {a : Act} {w : World} (hQ : ¬ LetsOut Q) (hm : P.follows .mixedOrders = true) (hd : ops.toList.all noDefer = true) (ss : List (List Nat)) (hss : linAll .any ops ops.size (Array.replicate ops.size false) = ss)
    (h : ∀ s ∈ ss, wpList P ops Q (s.filterMap (fun i => ops[i]?)) a w.drew) : (Code.region id ops true).wpIn (Fence.wide.inRound l) n P Q a w := by
  subst hss
  refine wpIn_region_draw (fun t => ops_round hQ hd _ _ _ (h _ ?_))
  simp only [Region.schedule, hm, Bool.true_or, if_true]
  exact lin_mem .any ops ops.size t _
/-- operations by their numbers -/
def pick (d : Oper) (l : List Oper) : List Nat → List Oper
  | [] => []
  | i :: is => nthD d l i :: pick d l is
where nthD (d : Oper) : List Oper → Nat → Oper
  | [], _ => d
  | o :: _, 0 => o
  | _ :: l, n + 1 => nthD d l n
theorem nthD_at (d : Oper) : ∀ (l : List Oper) (i : Nat), i < l.length → l[i]? = some (pick.nthD d l i)
  | [], _, h => by cases h
  | o :: l, 0, _ => rfl
  | o :: l, n + 1, h => by
    have := nthD_at d l n (by simpa using h)
    simpa [pick.nthD] using this
theorem pick_is (d : Oper) (l : List Oper) : ∀ s : List Nat, s.all (fun i => decide (i < l.length)) = true → s.filterMap (fun i => l.toArray[i]?) = pick d l s
  | [], _ => rfl
  | i :: is, h => by
    simp only [List.all_cons, Bool.and_eq_true, decide_eq_true_eq] at h
    simp only [List.filterMap_cons, List.getElem?_toArray, nthD_at d l i h.1, pick]
    rw [← pick_is d l is h.2]
    simp
theorem wpIn_round_orders {l n id : Nat} {P : Program} {o : Oper} {os : List Oper} {Q : Exit → Act → World → Prop} {a : Act} {w : World} (hQ : ¬ LetsOut Q) (hm : P.follows .mixedOrders = true) (hd : (o :: os).all noDefer = true) (ss : List (List Nat)) (hss : linAll .any (o :: os).toArray (o :: os).toArray.size (Array.replicate (o :: os).toArray.size false) = ss) (hv : ss.all (fun s => s.all (fun i => decide (i < (o :: os).length))) = true)
    (h : ∀ s ∈ ss, wpList P (o :: os).toArray Q (pick o (o :: os) s) a w.drew) : (Code.region id (o :: os).toArray true).wpIn (Fence.wide.inRound l) n P Q a w :=
  wpIn_round_draw hQ hm (by simpa using hd) ss hss (fun s hs => by
    rw [pick_is o (o :: os) s (List.all_eq_true.1 hv s hs)]
    exact h s hs)
end Rg
end Go.Proofs.YtgobnjeankjkjaaGreatDoor

