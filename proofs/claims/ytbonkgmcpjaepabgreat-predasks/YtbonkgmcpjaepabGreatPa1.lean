import Derived.Test.YtbonkgmcpjaepabGreatRows
import Derived.Deep.RegionHeld3
import Derived.ProofKit
/- Of no package: what may come up in any order, told by states: each step leads from a state to one that has one step fewer left. -/
namespace Go.Proofs.YtbonkgmcpjaepabGreat
open Go.ChangeShapes Go.WideShapes Go.ChangeAt Go.RowKit
theorem wpAnyH_phase {P : Program} {md : Region.Mode} {ops : Array Oper} {Q : Exit → Act → World → Prop} {S : World → Prop} {fuel : Nat} (J : Nat → Array Bool → Act → World → Prop)
    (hstep : ∀ t listed a w, J (t + 1) listed a w → Region.ready md ops listed ≠ [] ∧ ∀ i ∈ Region.ready md ops listed, wpOp P ops Q i (fun a' w' => S w' ∧ J t (listed.setIfInBounds i true) a' w') a w)
    (hend : ∀ listed a w, J 0 listed a w → wpAnyH P md ops Q S fuel listed a w) :
    ∀ t listed a w, J t listed a w → wpAnyH P md ops Q S (fuel + t) listed a w := by
  intro t
  induction t with
  | zero => exact hend
  | succ t ih =>
    intro listed a w h
    obtain ⟨h0, h1⟩ := hstep t listed a w h
    exact ⟨fun e => absurd e h0, fun i hi => wpOp_mono (fun a' w' h' => ⟨h'.1, ih _ _ _ h'.2⟩) (h1 i hi)⟩
/-- with the frame at the beginning handed to the states -/
theorem wpAnyH_phase' {P : Program} {md : Region.Mode} {ops : Array Oper} {Q : Exit → Act → World → Prop} {S : World → Prop} {fuel n : Nat} {L0 : Array Bool} {A0 : Act} {w0 : World} (J : Act → Nat → Array Bool → Act → World → Prop)
    (hinit : J A0 n L0 A0 w0)
    (hstep : ∀ t listed a w, J A0 (t + 1) listed a w → Region.ready md ops listed ≠ [] ∧ ∀ i ∈ Region.ready md ops listed, wpOp P ops Q i (fun a' w' => S w' ∧ J A0 t (listed.setIfInBounds i true) a' w') a w)
    (hend : ∀ listed a w, J A0 0 listed a w → wpAnyH P md ops Q S fuel listed a w) : wpAnyH P md ops Q S (fuel + n) L0 A0 w0 :=
  wpAnyH_phase (J A0) hstep hend n L0 A0 w0 hinit
/-- the same, where behind a step others may be taken at once -/
theorem phase_take {P : Program} {md : Region.Mode} {ops : Array Oper} {Q : Exit → Act → World → Prop} {S : World → Prop} {fuel n : Nat} {L0 : Array Bool} {A0 : Act} {w0 : World} (J : Act → Nat → Array Bool → Act → World → Prop)
    (hinit : J A0 n L0 A0 w0)
    (hstep : ∀ t listed a w, J A0 (t + 1) listed a w → Region.ready md ops listed ≠ [] ∧ ∀ i ∈ Region.ready md ops listed, wpOp P ops Q i (fun a' w' => S w' ∧ (Shut (∀ t', t' ≤ t → ∀ listed a w, J A0 t' listed a w → wpAnyH P md ops Q S (fuel + t') listed a w) → wpAnyH P md ops Q S (fuel + t) (listed.setIfInBounds i true) a' w')) a w)
    (hend : ∀ listed a w, J A0 0 listed a w → wpAnyH P md ops Q S fuel listed a w) : wpAnyH P md ops Q S (fuel + n) L0 A0 w0 := by
  have H : ∀ m t, t ≤ m → ∀ listed a w, J A0 t listed a w → wpAnyH P md ops Q S (fuel + t) listed a w := by
    intro m
    induction m with
    | zero =>
      intro t ht listed a w h
      have h0 : t = 0 := by omega
      subst h0
      exact hend listed a w h
    | succ m ih =>
      intro t ht listed a w h
      cases t with
      | zero => exact hend listed a w h
      | succ t =>
        obtain ⟨h0, h1⟩ := hstep t listed a w h
        exact ⟨fun e => absurd e h0, fun i hi => wpOp_mono (fun a' w' h' => ⟨h'.1, h'.2 (fun t' ht' => ih t' (by omega))⟩) (h1 i hi)⟩
  exact H n n (Nat.le_refl _) L0 A0 w0 hinit
/-- the steps from one state -/
def Steps (P : Program) (ops : Array Oper) (Q : Exit → Act → World → Prop) (K : Nat → Act → World → Prop) (a : Act) (w : World) (rs : List Nat) : Prop := ∀ i ∈ rs, wpOp P ops Q i (K i) a w
theorem Steps.nil {P : Program} {ops : Array Oper} {Q : Exit → Act → World → Prop} {K : Nat → Act → World → Prop} {a : Act} {w : World} : Steps P ops Q K a w [] := fun _ h => by cases h
theorem Steps.cons {P : Program} {ops : Array Oper} {Q : Exit → Act → World → Prop} {K : Nat → Act → World → Prop} {a : Act} {w : World} {i : Nat} {o : Oper} {rs : List Nat} (ho : ops[i]? = some o)
    (h : ∀ K' : Act → World → Prop, Shut (∀ a w, K i a w → K' a w) → if Region.wanted o (yielded ops a.tmps) = true then Oper.wp P o a w K' Q else K' (a.put o.dst undef) w)
    (hs : Steps P ops Q K a w rs) : Steps P ops Q K a w (i :: rs) := fun j hj => by
  rcases List.mem_cons.1 hj with rfl | hj
  · exact wpOp_step ho (fun K' hK => h K' hK)
  · exact hs j hj
theorem steps_of {P : Program} {md : Region.Mode} {ops : Array Oper} {Q : Exit → Act → World → Prop} {K : Nat → Act → World → Prop} {a : Act} {w : World} {listed : Array Bool} {rs : List Nat} (hr : Region.ready md ops listed = rs) (hne : rs ≠ []) (h : Steps P ops Q K a w rs) :
    Region.ready md ops listed ≠ [] ∧ ∀ i ∈ Region.ready md ops listed, wpOp P ops Q i (K i) a w := by
  rw [hr]
  exact ⟨hne, h⟩
theorem wpAnyH_take' {P : Program} {md : Region.Mode} {ops : Array Oper} {Q : Exit → Act → World → Prop} {S : World → Prop} {i : Nat} {oi : Oper} {v : Value} {fuel : Nat} {listed : Array Bool} {a : Act} {w : World} (d : Option Tmp) (hi : ops[i]? = some oi) (hd : oi.dst = d)
    (hs : Region.noSelect ops = true) (hf : Region.free md ops listed i = true) (hr : (Region.ready md ops listed).contains i = true)
    (hQ : ∀ c a w, Q (.panic c) (a.put d v) w → Q (.panic c) a w) (hy : YieldsIf P ops S oi v a) (hS : S w)
    (h : wpAnyH P md ops Q S fuel (listed.setIfInBounds i true) (a.put d v) w) : wpAnyH P md ops Q S (fuel + 1) listed a w := by
  subst hd
  exact wpAnyH_take hi hs hf hr hQ hy hS h
/-- what is done already -/
def pI (d : Nat) (x : Option Value) (a : Act) : Act := match x with
  | none => a
  | some v => a.put (some d) v
def pP (d : Nat) (x : Option Nat) (a : Act) : Act := match x with
  | none => a
  | some g => a.put (some d) (.pointer (some ⟨g, 0, none⟩))
end Go.Proofs.YtbonkgmcpjaepabGreat

