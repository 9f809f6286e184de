import Derived.Below
import Derived.BigQuiet
import Derived.ChangeOld
import Derived.Deep.DeepCutAuto
import Derived.Deep.DeepFit
import Derived.Deep.LoopGhost
import Derived.Deep.QuietTactic
import Derived.Deep.RegionHeld3
import Derived.Deep.RegionWith
import Derived.Defers
import Derived.Laws.BitsAllLaws
import Derived.Laws.CopyRow
import Derived.Laws.IdiomCopy
import Derived.Laws.IdiomRangeMap
import Derived.OpenShut
import Derived.Orders
import Derived.OwnWalk
import Derived.ProofKit
import Derived.Recover
import Derived.Scope
import Derived.ShutString
import Derived.WalkKit
import Derived.WalkLawsBesides
import Derived.WalkMore
import Derived.WalkSpells
import Derived.Test.YtceecgklgkiffaaGreatDoorXf13
/- package rat: Add, Sub, Mul, Div, where nothing is too long. -/
namespace Go.Proofs.YtceecgklgkiffaaGreatDoor
open Go.ChangeShapes Go.WideShapes Go.ChangeAt Go.RowKit
open Na Ar
set_option linter.unusedVariables false
/-- one cell in its block -/
def E1 (w : World) (g : Nat) (t : TypeId) (x : Value) : Prop := w.heap[g]? = some (.cells #[x] t (0, 0))
section
variable {w w' : World} {g : Nat} {t : TypeId} {x : Value}
theorem E1.lt (h : E1 w g t x) : g < w.heap.size := by
  by_cases hlt : g < w.heap.size
  · exact hlt
  · unfold E1 at h; simp [Array.getElem?_eq_none (Nat.le_of_not_lt hlt)] at h
theorem E1.later (h : E1 w g t x) (hb : Below w.heap.size w w') : E1 w' g t x := by
  have := h.lt
  unfold E1
  rw [hb.block g this]; exact h
theorem E1.cell (h : E1 w g t x) : w.cell? ⟨g, 0, none⟩ = some x := by
  unfold E1 at h
  simp [World.cell?, h]
theorem E1.frozen (h : E1 w g t x) : w.frozen? ⟨g, 0, none⟩ = false := by
  unfold E1 at h
  simp [World.frozen?, h]
theorem E1.set (h : E1 w g t x) (y : Value) : E1 (w.setCell ⟨g, 0, none⟩ y) g t y := set_block h
theorem E1.inn {g' : Nat} (h : E1 w g t x) (hi : In g' (g' + 1) w w') (hne : g ≠ g') : E1 w' g t x := by
  have := h.lt
  unfold E1
  rw [hi.block g this (by omega)]; exact h
theorem E1.drew (h : E1 w g t x) : E1 w.drew g t x := h
theorem St.drew {y z : Value} (h : St w g t x y z) : St w.drew g t x y z := h
end
section
variable {w : World} {s1 s2 : Bool} {a1 b1 a2 b2 : Option Addr} {n1 c1 m1 d1 n2 c2 m2 d2 : Nat} {p q : Rat} {k l : Nat}
end
end Go.Proofs.YtceecgklgkiffaaGreatDoor

/- package rat: New, Int, Floor, where nothing is too long. -/
namespace Go.Proofs.YtceecgklgkiffaaGreatDoor
open Go.ChangeShapes Go.WideShapes Go.ChangeAt Go.RowKit
open Na Ar
set_option linter.unusedVariables false
theorem RtO.whole {w : World} {base : Nat} {s : Bool} {v1 v2 : Value} {Z A : Int} (hs : s = decide (Z < 0)) (hA : A = (Z.natAbs : Int)) (h1 : Own .u64 w base 22 v1 (words A)) (h2 : Own .u64 w base 22 v2 (words 1)) (ap : Apart v1 v2) : RtO w base s v1 v2 ((Z : Int) : Rat) :=
  ⟨by rw [Rat.num_intCast]; exact hs, by rw [Rat.num_intCast, ← hA]; exact h1, by rw [Rat.den_intCast]; exact h2, ap⟩
theorem apart_later {w : World} {b1 b2 : Nat} {e : TypeId} {v1 v2 : Value} {xs ys : List Int} {w' : World} (h1 : Own .u64 w b1 e v1 xs) (h2 : Own .u64 w' b2 e v2 ys) (hb : w.heap.size ≤ b2) : Apart v1 v2 := fun g hg hg' => by
  have a := (own_blk h1 hg).2
  have b := (own_blk h2 hg').1
  omega
theorem Apart.symm {v1 v2 : Value} (h : Apart v1 v2) : Apart v2 v1 := fun g hg hg' => h g hg' hg
section
variable {w : World} {a b : Option Addr} {n c m d : Nat} {xs ys : List Int} {A B : Int} {k : Nat}
end
set_option maxHeartbeats 6400000 in
set_option maxRecDepth 100000 in
theorem rInt_any {v : Int} (h0 : -9223372036854775808 ≤ v) (h1 : v ≤ 9223372036854775807) (w : World) :
    Calls Tryz.prog 105 #[.int .i64 v] w fun e w' => ∃ s v1 v2, e = .returned (.agg #[.bool s, v1, v2]) ∧ RtO w' w.heap.size s v1 v2 ((v : Int) : Rat) ∧ Below w.heap.size w w' := by
  have hb0 := alloc_below (w := w) (.cells #[.bool false, .slice none 0 0, .slice none 0 0] 50)
  have st0 := st_new w (.bool false) (.slice none 0 0) (.slice none 0 0) 50
  by_cases hv : v < 0
  · have f1 := fun w => natFrom_any (v := (v.natAbs : Int)) (by omega) w
    have f2 := fun w => natFrom_any (v := 1) (by omega) w
    have e1 : IntKind.u64.wrap (-IntKind.u64.wrap v) = (v.natAbs : Int) := by rw [wrapU, wrapU]; omega
    have HV : Hid (true = decide (v < 0)) := by exact (decide_eq_true hv).symm
    go_enter Tryz.func105, Tryz.ntmps105
    go_wp2_with fail
    refine (f1 _).mono ?_
    rintro e wA ⟨u1, rfl, o1, hbA⟩
    obtain ⟨a1, c1, rfl, _⟩ := o1.readsC
    clear f1 h0 h1 hv
    go_wp2_with fail
    refine (f2 _).mono ?_
    rintro e wB ⟨u2, rfl, o2, hbB⟩
    have hap := apart_later o1 o2 (Nat.le_refl _)
    obtain ⟨a2, c2, rfl, _⟩ := o2.readsC
    have o1B := own_same o1 fun g hg => hbB.block g (own_blk o1 hg).2
    have o2B := own_lower o2 hbA.size
    have hbAB := hbA.trans (hbB.mono hbA.size)
    have tE := st0.later hbAB
    obtain ⟨x0, x1, x2⟩ := tE.cells
    obtain ⟨y0, y1, y2⟩ := tE.frozen
    clear f2 st0 o1 o2 hbA hbB
    go_wp2
    have st9 := (tE.set (.bool true) (.slice a1 (words (v.natAbs : Int)).length c1) (.slice a2 (words 1).length c2)).cells
    refine bodyPost_ret (v := .agg #[.bool true, .slice a1 (words (v.natAbs : Int)).length c1, .slice a2 (words 1).length c2]) (by simp [results, Tryz.results105, go_sem, st9]) rfl ?_
    exact ⟨_, _, _, rfl, ((RtO.whole HV.out rfl o1B o2B hap).inn (in3 _ _ _ _ _) (by simp)).lower (by simp), below_in (hb0.trans (hbAB.mono hb0.size)) (in3 _ _ _ _ _) (Nat.le_refl _) (Nat.le_refl _)⟩
  · have f1 := fun w => natFrom_any (v := (v.natAbs : Int)) (by omega) w
    have f2 := fun w => natFrom_any (v := 1) (by omega) w
    have e1 : IntKind.u64.wrap v = (v.natAbs : Int) := by rw [wrapU]; omega
    have HV : Hid (false = decide (v < 0)) := by exact (decide_eq_false hv).symm
    go_enter Tryz.func105, Tryz.ntmps105
    go_wp2_with fail
    refine (f1 _).mono ?_
    rintro e wA ⟨u1, rfl, o1, hbA⟩
    obtain ⟨a1, c1, rfl, _⟩ := o1.readsC
    clear f1 h0 h1 hv
    go_wp2_with fail
    refine (f2 _).mono ?_
    rintro e wB ⟨u2, rfl, o2, hbB⟩
    have hap := apart_later o1 o2 (Nat.le_refl _)
    obtain ⟨a2, c2, rfl, _⟩ := o2.readsC
    have o1B := own_same o1 fun g hg => hbB.block g (own_blk o1 hg).2
    have o2B := own_lower o2 hbA.size
    have hbAB := hbA.trans (hbB.mono hbA.size)
    have tE := st0.later hbAB
    obtain ⟨x0, x1, x2⟩ := tE.cells
    obtain ⟨y0, y1, y2⟩ := tE.frozen
    clear f2 st0 o1 o2 hbA hbB
    go_wp2
    have st9 := (tE.set (.bool false) (.slice a1 (words (v.natAbs : Int)).length c1) (.slice a2 (words 1).length c2)).cells
    refine bodyPost_ret (v := .agg #[.bool false, .slice a1 (words (v.natAbs : Int)).length c1, .slice a2 (words 1).length c2]) (by simp [results, Tryz.results105, go_sem, st9]) rfl ?_
    exact ⟨_, _, _, rfl, ((RtO.whole HV.out rfl o1B o2B hap).inn (in3 _ _ _ _ _) (by simp)).lower (by simp), below_in (hb0.trans (hbAB.mono hb0.size)) (in3 _ _ _ _ _) (Nat.le_refl _) (Nat.le_refl _)⟩
end Go.Proofs.YtceecgklgkiffaaGreatDoor

