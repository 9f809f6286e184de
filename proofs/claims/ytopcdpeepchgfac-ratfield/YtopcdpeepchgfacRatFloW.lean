/- RatFloor: the walk. -/
import Derived.Test.YtopcdpeepchgfacRatN
namespace Go.Proofs.Ytopcdpeepchgfac
open Go.ChangeShapes Go.WideShapes Go.ChangeAt Go.RowKit
open Na Ar
set_option linter.unusedVariables false
theorem int_at {v : Int} {w0 w1 : World} (h : Below w0.heap.size w0 w1) (h0 : -9223372036854775808 ≤ v) (h1 : v ≤ 9223372036854775807) :
    Calls Try.prog 12 #[.int .i64 v] w1 fun e w' => ∃ s a n c b m d, e = .returned (.agg #[.bool s, .slice a n c, .slice b m d]) ∧ Rt w' s a n c b m d ((v : Int) : Rat) ∧ Below w0.heap.size w0 w' ∧ Below w1.heap.size w1 w' := by
  refine (rInt_any h0 h1 w1).mono ?_
  rintro e w' ⟨s, v1, v2, rfl, hR, hb⟩
  obtain ⟨a, n, c, b, m, d, rfl, rfl, hRt⟩ := hR.opens
  exact ⟨_, _, _, _, _, _, _, rfl, hRt, h.trans (hb.mono h.size), hb⟩
theorem sz_int {v : Int} (h : v.natAbs < 18446744073709551616) : Sz ((v : Int) : Rat) 1 := by
  refine ⟨?_, ?_⟩
  · rw [Rat.num_intCast]; exact Lt.word ⟨by omega, by omega⟩
  · rw [Rat.den_intCast]; exact lt_one
section
variable {w : World} {s1 : Bool} {a1 b1 : Option Addr} {n1 c1 m1 d1 : Nat} {x1 y1 : List Int}
end
end Go.Proofs.Ytopcdpeepchgfac
