/- RatDoes: the walk. -/
import Derived.Test.YtopcdpeepchgfacGreatDoorRatKj
namespace Go.Proofs.YtopcdpeepchgfacGreatDoor
open Go.ChangeShapes Go.WideShapes Go.ChangeAt Go.RowKit
open Na Ar
set_option linter.unusedVariables false
section
variable {w w' : World} {s s1 s2 : Bool} {a b a1 b1 a2 b2 : Option Addr} {n c m d n1 c1 m1 d1 n2 c2 m2 d2 : Nat} {xs ys x1 y1 x2 y2 : List Int} {R : Except Int Rat} {g : Nat} {T : TypeId} {k : Nat}
/-- a list of words lies in no Rat's own block -/
theorem RowC.offSt {a2 b2 : Option Addr} {n2 c2 m2 d2 : Nat} (h : RowC w a n c xs) (t : St w g T (.bool s) (.slice a2 n2 c2) (.slice b2 m2 d2)) : 0 < n → Off a g := by
  intro hn
  obtain ⟨bb, off, rfl, hbb, hc⟩ := h.1.at hn
  have h0 := hc 0 hn
  simp only [Nat.add_zero] at h0
  intro b' off' e
  simp only [Option.some.injEq, Addr.mk.injEq, and_true] at e
  obtain ⟨rfl, rfl⟩ := e
  rintro rfl
  obtain ⟨e0, e1, e2⟩ := t.cells
  have h3 : off = 0 ∨ off = 1 ∨ off = 2 ∨ 3 ≤ off := by omega
  rcases h3 with rfl | rfl | rfl | h3
  · rw [e0] at h0; simp at h0
  · rw [e1] at h0; simp at h0
  · rw [e2] at h0; simp at h0
  · unfold St at t
    have hge : ¬ off < 3 := by omega
    simp [World.cell?, t, hge] at h0
theorem Od.inn {a2 b2 : Option Addr} {n2 c2 m2 d2 : Nat} (h : Od w s1 a n c b m d R) (hi : In g (g + 1) w w') (t : St w g T (.bool s) (.slice a2 n2 c2) (.slice b2 m2 d2)) : Od w' s1 a n c b m d R :=
  ⟨h.sgn, h.nu.inn hi (h.nu.offSt t), h.de.inn hi (h.de.offSt t), h.ln, h.lm⟩
theorem An5.inn {a2 b2 : Option Addr} {n2 c2 m2 d2 : Nat} (h : An5 w s1 a n c b m d xs ys k) (hi : In g (g + 1) w w') (t : St w g T (.bool s) (.slice a2 n2 c2) (.slice b2 m2 d2)) : An5 w' s1 a n c b m d xs ys k :=
  ⟨h.nu.inn hi (h.nu.offSt t), h.de.inn hi (h.de.offSt t), h.wx, h.wy, h.lx, h.ly⟩
end
end Go.Proofs.YtopcdpeepchgfacGreatDoor
