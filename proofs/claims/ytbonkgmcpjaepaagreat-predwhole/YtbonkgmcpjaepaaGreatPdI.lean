/- package pred: ahead of InCircle: what blocks without integers leave as it is; a spot's value; the contracts as the region asks them. -/
import Derived.Test.YtbonkgmcpjaepaaGreatPdH
import Derived.Test.YtbonkgmcpjaepaaGreatRgPh
namespace Go.Proofs.YtbonkgmcpjaepaaGreat
open Go.ChangeShapes Go.WideShapes Go.ChangeAt Go.RowKit
open Na Ar
set_option linter.unusedVariables false
/-- no cell of it is an integer -/
def NoInt (cs : Array Value) : Prop := ∀ (k : Nat) (i : IntKind) (x : Int), cs[k]? ≠ some (.int i x)
theorem noInt6 {s1 s2 : Bool} {a1 b1 a2 b2 : Option Addr} {n1 c1 m1 d1 n2 c2 m2 d2 : Nat} : NoInt #[.bool s1, .slice a1 n1 c1, .slice b1 m1 d1, .bool s2, .slice a2 n2 c2, .slice b2 m2 d2] := by
  intro k i x h
  rcases (show k = 0 ∨ k = 1 ∨ k = 2 ∨ k = 3 ∨ k = 4 ∨ k = 5 ∨ 6 ≤ k by omega) with rfl | rfl | rfl | rfl | rfl | rfl | hk
  · simp at h
  · simp at h
  · simp at h
  · simp at h
  · simp at h
  · simp at h
  · rw [Array.getElem?_eq_none (by simpa using hk)] at h; cases h
theorem noInt3 {s1 : Bool} {a1 b1 : Option Addr} {n1 c1 m1 d1 : Nat} : NoInt #[.bool s1, .slice a1 n1 c1, .slice b1 m1 d1] := by
  intro k i x h
  rcases (show k = 0 ∨ k = 1 ∨ k = 2 ∨ 3 ≤ k by omega) with rfl | rfl | rfl | hk
  · simp at h
  · simp at h
  · simp at h
  · rw [Array.getElem?_eq_none (by simpa using hk)] at h; cases h
theorem RowC.noInt {w w' : World} {a : Option Addr} {n c g : Nat} {xs : List Int} {t : TypeId} {cs : Array Value} (h : RowC w a n c xs) (hp : Pb w g t cs) (hn : NoInt cs) (hi : In g (g + 1) w w') : RowC w' a n c xs := by
  obtain ⟨⟨h1, h2⟩, h3⟩ := h
  refine ⟨⟨h1, ?_⟩, h3⟩
  rcases h2 with h2 | ⟨b, off, ha, hlt, hc⟩
  · exact Or.inl h2
  · by_cases h0 : n = 0
    · exact Or.inl h0
    · refine Or.inr ⟨b, off, ha, Nat.lt_of_lt_of_le hlt hi.size, fun i hin => ?_⟩
      have hne : b ≠ g := by
        intro e
        subst e
        have := hc i hin
        unfold Pb at hp
        simp [World.cell?, hp] at this
        exact hn _ _ _ this
      have e := hi.block b hlt (by omega)
      rw [← hc i hin]
      simp only [World.cell?, e]
theorem Rt.noInt {w w' : World} {s : Bool} {a b : Option Addr} {n c m d g : Nat} {q : Rat} {t : TypeId} {cs : Array Value} (h : Rt w s a n c b m d q) (hp : Pb w g t cs) (hn : NoInt cs) (hi : In g (g + 1) w w') : Rt w' s a n c b m d q :=
  ⟨h.sgn, h.nu.noInt hp hn hi, h.de.noInt hp hn hi⟩
/-- a value that is a spot -/
def SpV (w : World) (v : Value) (p q : Rat) (k : Nat) : Prop := ∃ s a n c b m d s' a' n' c' b' m' d', v = .agg #[.bool s, .slice a n c, .slice b m d, .bool s', .slice a' n' c', .slice b' m' d'] ∧ Rt w s a n c b m d p ∧ Rt w s' a' n' c' b' m' d' q ∧ Sz p k ∧ Sz q k
theorem SpV.later {w w' : World} {v : Value} {p q : Rat} {k : Nat} (h : SpV w v p q k) (hb : Below w.heap.size w w') : SpV w' v p q k := by
  obtain ⟨s, a, n, c, b, m, d, s', a', n', c', b', m', d', e, r1, r2, z1, z2⟩ := h
  exact ⟨s, a, n, c, b, m, d, s', a', n', c', b', m', d', e, r1.later hb, r2.later hb, z1, z2⟩
def zero6s : Array Value := #[.bool false, .slice none 0 0, .slice none 0 0, .bool false, .slice none 0 0, .slice none 0 0]
theorem from22_sp {w w0 : World} {s1 s2 s3 s4 : Bool} {a1 b1 a2 b2 a3 b3 a4 b4 : Option Addr} {n1 c1 m1 d1 n2 c2 m2 d2 n3 c3 m3 d3 n4 c4 m4 d4 : Nat} {p q r t : Rat} {k : Nat} (h1 : Rt w0 s1 a1 n1 c1 b1 m1 d1 p) (h2 : Rt w0 s2 a2 n2 c2 b2 m2 d2 q) (h3 : Rt w0 s3 a3 n3 c3 b3 m3 d3 r) (h4 : Rt w0 s4 a4 n4 c4 b4 m4 d4 t) (z1 : Sz p k) (z2 : Sz q k) (z3 : Sz r k) (z4 : Sz t k) (hk : k + k + 1 ≤ 4096) : ∀ w, Below w0.heap.size w0 w →
    Calls Tryz.prog 28 #[.agg #[.bool s1, .slice a1 n1 c1, .slice b1 m1 d1, .bool s2, .slice a2 n2 c2, .slice b2 m2 d2], .agg #[.bool s3, .slice a3 n3 c3, .slice b3 m3 d3, .bool s4, .slice a4 n4 c4, .slice b4 m4 d4]] w fun e w' => ∃ v, e = .returned v ∧ SpV w' v (r - p) (t - q) (k + k + 1) ∧ Below w.heap.size w w' ∧ Below w0.heap.size w0 w' := by
  intro w h
  refine (from22_at h1 h2 h3 h4 z1 z2 z3 z4 hk h).mono ?_
  rintro e w' ⟨s, a, n, c, b, m, d, s', a', n', c', b', m', d', rfl, hR, hR', hz, hz', hb, hb0⟩
  exact ⟨_, rfl, ⟨s, a, n, c, b, m, d, s', a', n', c', b', m', d', rfl, hR.rt22, hR'.rt22, hz, hz'⟩, hb, hb0⟩
end Go.Proofs.YtbonkgmcpjaepaaGreat
