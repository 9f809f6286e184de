/- A function whose body jumps to several labels: what holds at each label, with a measure that every way from one label to the next lowers. -/
import Derived.Test.YthjfjpdgjhidfabGreatBaseB
import Derived.Scope
import Derived.WalkMore
namespace Go.Proofs.YthjfjpdgjhidfabGreat
set_option linter.unusedVariables false

/-- as Q; by a jump to label l: J l -/
def jumpsTo (J : Nat → Act → World → Prop) (Q : Exit → Act → World → Prop) : Exit → Act → World → Prop
  | .goto l, a, w => J l a w
  | e, a, w => Q e a w

theorem jumpsTo_ret {J : Nat → Act → World → Prop} {Q : Exit → Act → World → Prop} {a : Act} {w : World} : jumpsTo J Q .ret a w = Q .ret a w := rfl
theorem jumpsTo_goto {J : Nat → Act → World → Prop} {Q : Exit → Act → World → Prop} {l : Nat} {a : Act} {w : World} : jumpsTo J Q (.goto l) a w = J l a w := rfl

theorem wp_labels {P : Program} {a : Act} {w : World} {Q : Exit → Act → World → Prop} {c : Code} (J : Nat → Nat → Act → World → Prop)
    (start : c.wp P (jumpsTo (fun l a' w' => ∃ n, J l n a' w') Q) a w)
    (go : ∀ l n a₀ w₀, J l n a₀ w₀ → ∃ rest, findLabel c l = some rest ∧ rest.wp P (jumpsTo (fun l' a' w' => ∃ n', n' < n ∧ J l' n' a' w') Q) a₀ w₀) : (Code.scope c).wp P Q a w := by
  intro b k cs
  have onward : ∀ n l a₀ w₀, J l n a₀ w₀ → ∃ rest, gotoIn l (.inScope c :: k) = some (.code rest :: .inScope c :: k) ∧
      ∃ e a' w', Q e a' w' ∧ Arrives P (lone (b.at a₀ (.code rest :: .inScope c :: k)) cs w₀) b k cs e a' w' := by
    intro n
    induction n using Nat.strongRecOn with
    | _ n ih =>
      intro l a₀ w₀ hJ
      obtain ⟨rest, hf, hw⟩ := go l n a₀ w₀ hJ
      refine ⟨rest, by simp [gotoIn, hf], ?_⟩
      obtain ⟨e, a₁, w₁, hq, harr⟩ := hw b (.inScope c :: k) cs
      cases e with
      | goto l' =>
        obtain ⟨n', hlt, hJ'⟩ := hq
        obtain ⟨rest', hg, e₂, a₂, w₂, hq₂, harr₂⟩ := ih n' hlt l' a₁ w₁ hJ'
        exact ⟨e₂, a₂, w₂, hq₂, .of_steps (harr _ hg) harr₂⟩
      | normal => exact ⟨.normal, a₁, w₁, hq, Steps.trans harr (.one step_inScope)⟩
      | exit id => exact ⟨.exit id, a₁, w₁, hq, fun k' hk => harr k' (by simp [exitTo, hk])⟩
      | ret => exact ⟨_, a₁, w₁, hq, harr⟩
      | panic ch => exact ⟨_, a₁, w₁, hq, harr⟩
      | outgrown => exact ⟨_, a₁, w₁, hq, harr⟩
  obtain ⟨e, a₁, w₁, hq, harr⟩ := start b (.inScope c :: k) cs
  cases e with
  | goto l =>
    obtain ⟨n, hJ⟩ := hq
    obtain ⟨rest, hg, e₂, a₂, w₂, hq₂, harr₂⟩ := onward n l a₁ w₁ hJ
    exact ⟨e₂, a₂, w₂, hq₂, .of_steps (.head step_scope (harr _ hg)) harr₂⟩
  | normal => exact ⟨.normal, a₁, w₁, hq, .head step_scope (Steps.trans harr (.one step_inScope))⟩
  | exit id => exact ⟨.exit id, a₁, w₁, hq, fun k' hk => .head step_scope (harr k' (by simp [exitTo, hk]))⟩
  | ret => exact ⟨_, a₁, w₁, hq, .of_steps (.one step_scope) harr⟩
  | panic ch => exact ⟨_, a₁, w₁, hq, .of_steps (.one step_scope) harr⟩
  | outgrown => exact ⟨_, a₁, w₁, hq, .of_steps (.one step_scope) harr⟩

/-- a frame's slots, one by one -/
theorem slots_all (t : Array Value) {n : Nat} (h : t.size = n) : t = ((List.range n).map (fun i => t.getD i undef)).toArray := by
  apply Array.ext
  · simp [h]
  · intro i h1 h2
    simp [Array.getElem?_eq_getElem h1]
theorem frame_all (a : Act) {n : Nat} (h : a.tmps.size = n) (hd : a.defers = []) : a = { tmps := ((List.range n).map (fun i => a.tmps.getD i undef)).toArray, defers := [] } := by
  cases a with
  | mk t d =>
    simp only at h hd
    subst hd
    exact congrArg (fun q => Act.mk q []) (slots_all t h)
end Go.Proofs.YthjfjpdgjhidfabGreat
