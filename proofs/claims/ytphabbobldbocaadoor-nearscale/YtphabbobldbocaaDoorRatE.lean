/- package rat: Sign, Cmp, New, Int, Floor, where nothing is too long. -/
import Derived.Test.YtphabbobldbocaaDoorRatD
namespace Go.Proofs.YtphabbobldbocaaDoor
open Go.ChangeShapes Go.WideShapes Go.ChangeAt Go.RowKit
open Na Ar
set_option linter.unusedVariables false
section
variable {w : World} {s1 s2 : Bool} {a1 b1 a2 b2 : Option Addr} {n1 c1 m1 d1 n2 c2 m2 d2 : Nat} {p q : Rat} {k l : Nat}
theorem isNaN_int (x : Int) (w : World) : Calls Tryd.prog 81 #[.int .i64 x] w fun e w' => e = .returned (.bool false) ∧ w' = w := by
  have t : (x != x) = false := by simp
  go_enter Tryd.func81, Tryd.ntmps81
  go_wp2
  go_ret
  exact ⟨by simp, rfl⟩
theorem compare_int (x y : Int) {K : Int} (hxy : x ≠ y) (hK : (if x < y then (-1 : Int) else 1) = K) (w : World) : Calls Tryd.prog 63 #[.int .i64 x, .int .i64 y] w fun e w' => e = .returned (.int .i64 K) ∧ w' = w := by
  by_cases h : x < y
  · rw [if_pos h] at hK
    subst hK
    go_enter Tryd.func63, Tryd.ntmps63
    go_wp2_with (go_at_call 81; refine (isNaN_int _ _).mono ?_; rintro e w' ⟨rfl, rfl⟩)
    go_ret
    exact ⟨rfl, rfl⟩
  · rw [if_neg h] at hK
    have h' : y < x := by omega
    subst hK
    go_enter Tryd.func63, Tryd.ntmps63
    go_wp2_with (go_at_call 81; refine (isNaN_int _ _).mono ?_; rintro e w' ⟨rfl, rfl⟩)
    go_ret
    exact ⟨rfl, rfl⟩
end
end Go.Proofs.YtphabbobldbocaaDoor
