/- package near: Rat. -/
import Derived.Test.YtceecgklgkiffabGreatDoorNearD
import Derived.Test.YtceecgklgkiffabGreatDoorRatF
namespace Go.Proofs.YtceecgklgkiffabGreatDoor
open Go.ChangeShapes Go.WideShapes Go.ChangeAt Go.RowKit
open Na Ar
set_option linter.unusedVariables false
section
variable {w : World} {s : Bool} {a b : Option Addr} {n c m d : Nat} {q : Rat} {k : Nat}
set_option maxHeartbeats 3200000 in
set_option maxRecDepth 100000 in
theorem nearRat_ok {mode : Int} (h : Rt w s a n c b m d q) (z : Sz q k) (hk : k ≤ 4096) (h0 : 0 ≤ mode) (h1 : mode ≤ 4) (hG : GrVar w) :
    Calls Tryz.prog 47 #[.agg #[.bool s, .slice a n c, .slice b m d], .int .i64 mode] w fun e w' => ∃ v E, e = .returned (.tuple #[.int .u64 v, .int .i64 E]) ∧ RoundIs (scA (q.num.natAbs : Int) 0) (scB (q.den : Int) 0) false s mode v E ∧ U v ∧ Below w.heap.size w w' := by
  have t0 := st_new w (.bool s) (.slice a n c) (.slice b m d) 36
  have hb0 := alloc_below (w := w) (.cells #[.bool s, .slice a n c, .slice b m d] 36)
  obtain ⟨w0, hw0⟩ : ∃ w0, w0 = w.alloc (.cells #[.bool s, .slice a n c, .slice b m d] 36) := ⟨_, rfl⟩
  rw [← hw0] at t0 hb0
  have h' := h.later hb0
  have G0 := hG.later hb0
  have hk1 := known_yes h0 h1 w0
  have hC := check_ok h' z hk
  have ln := h'.le z
  have lm := h'.leD z
  have pD : (0 : Int) < (q.den : Int) := by have := q.den_pos; omega
  have vN := num_words (N := (q.num.natAbs : Int)) (by omega)
  have vD := num_words (N := (q.den : Int)) (by omega)
  clear h hG
  obtain ⟨g, hg⟩ : ∃ g, g = w.heap.size := ⟨_, rfl⟩
  have HB0 : Below w.heap.size w w0 := hb0
  rw [← hg] at t0
  obtain ⟨x0, x1, x2⟩ := t0.cells
  go_enter Tryz.func47, Tryz.ntmps47
  go_wp2_with fail
  rw [← hw0, ← hg]
  clear hw0 hg
  refine hk1.mono ?_
  rintro e w1 ⟨rfl, rfl⟩
  clear hk1
  go_wp2_with fail
  refine hC.mono ?_
  rintro e w1 ⟨rfl, hb1⟩
  have t1 := t0.later hb1
  have h2 := h'.later hb1
  have HB1 := HB0.trans (hb1.mono HB0.size)
  have hQ := quotient_any (mode := mode) (neg := s) h2.nu h2.de (Dg_words _) (Dg_words _) (by omega) (by omega) h0 h1 (by rw [vD]; exact pD) (G0.later hb1)
  rw [vN, vD] at hQ
  clear hC x0 x1 x2 t0 h'
  obtain ⟨x0, x1, x2⟩ := t1.cells
  go_wp2_with fail
  refine hQ.mono ?_
  rintro e w2 ⟨v, E, rfl, hr, hu, hb2⟩
  have hb9 := HB1.trans (hb2.mono HB1.size)
  clear hQ x0 x1 x2
  go_wp2
  go_ret2
  exact ⟨_, _, rfl, hr, hu, hb9⟩
end
end Go.Proofs.YtceecgklgkiffabGreatDoor
