/- plumblaw07: whole, cmp, twice, size. -/
import Derived.Test.YtildkknpbpdnnaaDoorNearG
import Derived.Test.YtildkknpbpdnnaaDoorRatE
import Derived.Test.YtildkknpbpdnnaaDoorRatD
namespace Go.Proofs.YtildkknpbpdnnaaDoor
open Go.ChangeShapes Go.WideShapes Go.ChangeAt Go.RowKit
open Na Ar
set_option linter.unusedVariables false
section
variable {w : World} {s1 s2 s3 : Bool} {a1 a2 a3 b1 b2 b3 : Option Addr} {n1 n2 n3 c1 c2 c3 m1 m2 m3 d1 d2 d3 : Nat} {p q r : Rat} {k l j : Nat}
theorem st_two7 (w : World) (x y z x' y' z' : Value) (t t' : TypeId) : St ((w.alloc (.cells #[x, y, z] t)).alloc (.cells #[x', y', z'] t')) w.heap.size t x y z ∧ St ((w.alloc (.cells #[x, y, z] t)).alloc (.cells #[x', y', z'] t')) (w.heap.size + 1) t' x' y' z' ∧ Below w.heap.size w ((w.alloc (.cells #[x, y, z] t)).alloc (.cells #[x', y', z'] t')) := by
  have b1 := alloc_below (w := w) (.cells #[x, y, z] t)
  have b2 := alloc_below (w := w.alloc (.cells #[x, y, z] t)) (.cells #[x', y', z'] t')
  have s1 := (st_new w x y z t).later b2
  have s2 := st_new (w.alloc (.cells #[x, y, z] t)) x' y' z' t'
  have e1 : (w.alloc (.cells #[x, y, z] t)).heap.size = w.heap.size + 1 := by simp
  rw [e1] at s2
  exact ⟨s1, s2, b1.trans (b2.mono b1.size)⟩
set_option maxHeartbeats 3200000 in
set_option maxRecDepth 100000 in
theorem cmp7_any {K : Int} (h1 : Rt w s1 a1 n1 c1 b1 m1 d1 p) (h2 : Rt w s2 a2 n2 c2 b2 m2 d2 q) (z1 : Sz p k) (z2 : Sz q l) (hk : k + l ≤ 4096) (hK : ordR p q = K) :
    Calls Tryd.prog 21 #[.agg #[.bool s1, .slice a1 n1 c1, .slice b1 m1 d1], .agg #[.bool s2, .slice a2 n2 c2, .slice b2 m2 d2]] w fun e w' => e = .returned (.int .i64 K) ∧ Below w.heap.size w w' := by
  obtain ⟨t1, t2, hb0⟩ := st_two7 w (.bool s1) (.slice a1 n1 c1) (.slice b1 m1 d1) (.bool s2) (.slice a2 n2 c2) (.slice b2 m2 d2) 44 44
  have hC := rCmp_ok (h1.later hb0) (h2.later hb0) z1 z2 hk hK
  obtain ⟨x0, x1, x2⟩ := t1.cells
  obtain ⟨y0, y1, y2⟩ := t2.cells
  clear h1 h2 t1 t2
  go_enter Tryd.func21, Tryd.ntmps21
  go_wp2_with fail
  refine hC.mono ?_
  rintro e w1 ⟨rfl, hb1⟩
  have hb := hb0.trans (hb1.mono hb0.size)
  clear hC x0 x1 x2 y0 y1 y2
  go_wp2_with fail
  refine (num7_same 0 w1).mono ?_
  rintro e w2 ⟨rfl, rfl⟩
  go_wp2
  go_ret
  exact ⟨rfl, hb⟩
end
end Go.Proofs.YtildkknpbpdnnaaDoor
