/- package rat: areRats, sum. -/
import Derived.Test.YtalglldkjbinbaaRatA
import Derived.Deep.RegionWith
import Derived.Deep.RegionHeld3
import Derived.Deep.DeepCutAuto
import Derived.Deep.DeepFit
namespace Go.Proofs.Ytalglldkjbinbaa
open Go.ChangeShapes Go.WideShapes Go.ChangeAt Go.RowKit
open Na Ar
set_option linter.unusedVariables false
theorem st_two (w : World) (x y z x' y' z' : Value) (t t' : TypeId) : St ((w.alloc (.cells #[x, y, z] t)).alloc (.cells #[x', y', z'] t')) w.heap.size t x y z ∧ St ((w.alloc (.cells #[x, y, z] t)).alloc (.cells #[x', y', z'] t')) (w.heap.size + 1) t' x' y' z' ∧ Below w.heap.size w ((w.alloc (.cells #[x, y, z] t)).alloc (.cells #[x', y', z'] t')) := by
  have b1 := alloc_below (w := w) (.cells #[x, y, z] t)
  have s1 := st_new w x y z t
  have e1 : (w.alloc (.cells #[x, y, z] t)).heap.size = w.heap.size + 1 := by simp
  generalize w.alloc (.cells #[x, y, z] t) = w1 at *
  have b2 := alloc_below (w := w1) (.cells #[x', y', z'] t')
  have s2 := st_new w1 x' y' z' t'
  rw [e1] at s2
  exact ⟨s1.later b2, s2, b1.trans (b2.mono b1.size)⟩
theorem st_three (w : World) (x y z x' y' z' x2 y2 z2 : Value) (t t' t2 : TypeId) : St (((w.alloc (.cells #[x, y, z] t)).alloc (.cells #[x', y', z'] t')).alloc (.cells #[x2, y2, z2] t2)) w.heap.size t x y z ∧ St (((w.alloc (.cells #[x, y, z] t)).alloc (.cells #[x', y', z'] t')).alloc (.cells #[x2, y2, z2] t2)) (w.heap.size + 1) t' x' y' z' ∧ St (((w.alloc (.cells #[x, y, z] t)).alloc (.cells #[x', y', z'] t')).alloc (.cells #[x2, y2, z2] t2)) (w.heap.size + 1 + 1) t2 x2 y2 z2 ∧ Below w.heap.size w (((w.alloc (.cells #[x, y, z] t)).alloc (.cells #[x', y', z'] t')).alloc (.cells #[x2, y2, z2] t2)) := by
  obtain ⟨s1, s2, b⟩ := st_two w x y z x' y' z' t t'
  have e1 : ((w.alloc (.cells #[x, y, z] t)).alloc (.cells #[x', y', z'] t')).heap.size = w.heap.size + 1 + 1 := by simp
  generalize (w.alloc (.cells #[x, y, z] t)).alloc (.cells #[x', y', z'] t') = w1 at *
  have b2 := alloc_below (w := w1) (.cells #[x2, y2, z2] t2)
  have s3 := st_new w1 x2 y2 z2 t2
  rw [e1] at s3
  exact ⟨s1.later b2, s2.later b2, s3, b.trans (b2.mono b.size)⟩
section
variable {w0 w1 : World} {a b : Option Addr} {n c m d : Nat} {xs ys : List Int} {A B : Int} {k : Nat}
theorem times_at (h : Below w0.heap.size w0 w1) (hr1 : RowC w0 a n c xs) (hr2 : RowC w0 b m d ys) (h1 : Nm xs A) (h2 : Nm ys B) (hL : Lt (A * B) k) (hk : k ≤ 4096) :
    Calls Try.prog 29 #[.slice a n c, .slice b m d] w1 fun e w' => ∃ a' n' c' l', e = .returned (.slice a' n' c') ∧ RowC w' a' n' c' l' ∧ Nm l' (A * B) ∧ n' ≤ k ∧ Below w0.heap.size w0 w' ∧ Below w1.heap.size w1 w' := by
  refine (times_ok (hr1.later h) (hr2.later h) h1 h2 hL hk).mono ?_
  rintro e w' ⟨a', n', c', l', rfl, r, nm, hn, hb⟩
  exact ⟨_, _, _, _, rfl, r, nm, hn, h.trans (hb.mono h.size), hb⟩
end
section
variable {w : World} {s1 s2 : Bool} {a1 b1 a2 b2 : Option Addr} {n1 c1 m1 d1 n2 c2 m2 d2 : Nat} {p q : Rat} {k l : Nat}
set_option maxHeartbeats 1600000 in
theorem areRats_ok (h1 : Rt w s1 a1 n1 c1 b1 m1 d1 p) (h2 : Rt w s2 a2 n2 c2 b2 m2 d2 q) (z1 : Sz p k) (z2 : Sz q l) (hk : k ≤ 4096) (hl : l ≤ 4096) :
    Calls Try.prog 25 #[.agg #[.bool s1, .slice a1 n1 c1, .slice b1 m1 d1], .agg #[.bool s2, .slice a2 n2 c2, .slice b2 m2 d2]] w fun e w' => e = .returned (.bool true) ∧ Below w.heap.size w w' := by
  obtain ⟨t1, t2, hb0⟩ := st_two w (.bool s1) (.slice a1 n1 c1) (.slice b1 m1 d1) (.bool s2) (.slice a2 n2 c2) (.slice b2 m2 d2) 33 33
  have k1 := check_ok (h1.later hb0) z1 hk
  have r2 := h2.later hb0
  clear h1 h2
  go_enter Try.func25, Try.ntmps25
  go_wp2_with fail
  refine k1.mono ?_
  rintro e wA ⟨rfl, hbA⟩
  have t2A := t2.later hbA
  obtain ⟨x0, x1, x2⟩ := t2A.cells
  clear k1 t1 t2
  go_wp2_with fail
  refine (check_ok (r2.later hbA) z2 hl).mono ?_
  rintro e wB ⟨rfl, hbB⟩
  go_wp2
  go_ret
  exact ⟨rfl, hb0.trans ((hbA.trans (hbB.mono hbA.size)).mono hb0.size)⟩
end
end Go.Proofs.Ytalglldkjbinbaa
