/- plumblaw22: fixed; PredOrders of any points (written by genpdq.py). -/
import Derived.Test.YtbonkgmcpjaepaaPdM
import Derived.Test.YtbonkgmcpjaepaaPdQa
namespace Go.Proofs.Ytbonkgmcpjaepaa
open Go.ChangeShapes Go.WideShapes Go.ChangeAt Go.RowKit
open Na Ar
set_option linter.unusedVariables false
set_option maxHeartbeats 12800000 in
set_option maxRecDepth 100000 in
theorem orders_none {x0 x1 x2 x3 x4 x5 x6 x7 : Int} (ua : U2 (x0, x1)) (ub : U2 (x2, x3)) (uc : U2 (x4, x5)) (ud : U2 (x6, x7)) (hf : ¬ (fin2 (x0, x1) ∧ fin2 (x2, x3) ∧ fin2 (x4, x5) ∧ fin2 (x6, x7))) (hfx : ∀ w, Calls Try.prog 6 #[] w fun e w' => e = .returned (.bool true) ∧ Below w.heap.size w w') (w : World) :
    Calls Try.prog 5 #[.agg #[.int .u64 x0, .int .u64 x1, .int .u64 x2, .int .u64 x3, .int .u64 x4, .int .u64 x5, .int .u64 x6, .int .u64 x7]] w fun e w' => e = .returned (.bool true) ∧ Below w.heap.size w w' := by
  have cN := HL.mk (fun (w : World) => (show Calls Try.prog 13 #[.agg #[.int .u64 x0, .int .u64 x1], .agg #[.int .u64 x2, .int .u64 x3], .agg #[.int .u64 x4, .int .u64 x5], .agg #[.int .u64 x6, .int .u64 x7]] w fun e w' => e = .returned (.tuple #[.int .i64 0, .int .i64 220]) ∧ Below w.heap.size w w' from Nearer22_inf (a := (x0, x1)) (b := (x2, x3)) (c := (x4, x5)) (d := (x6, x7)) ua ub uc ud hf))
  have hq4 := HL.mk (fun (w' : World) => finite22_any (c := 4) (ptAt4 w' 24 ua ub uc ud) (by omega))
  have hfin4 := HL.mk (show ¬ ∀ i, i < 4 → fin2 ([(x0, x1), (x2, x3), (x4, x5), (x6, x7)].getD i (0, 0)) from fun h => hf ⟨h 0 (by omega), h 1 (by omega), h 2 (by omega), h 3 (by omega)⟩)
  clear hf ua ub uc ud
  have hb0 := alloc_below (w := w) (.cells #[.int .u64 x0, .int .u64 x1, .int .u64 x2, .int .u64 x3, .int .u64 x4, .int .u64 x5, .int .u64 x6, .int .u64 x7] 26)
  have p0 := Pb.new w 26 #[.int .u64 x0, .int .u64 x1, .int .u64 x2, .int .u64 x3, .int .u64 x4, .int .u64 x5, .int .u64 x6, .int .u64 x7]
  obtain ⟨g, hg⟩ : ∃ g, g = w.heap.size := ⟨_, rfl⟩
  have HG : Hid (w.heap.size = g) := hg.symm
  rw [← hg] at p0
  have FX := HL.mk hfx
  clear hg hfx
  obtain ⟨w0, hw0⟩ : ∃ w0, w0 = w.alloc (.cells #[.int .u64 x0, .int .u64 x1, .int .u64 x2, .int .u64 x3, .int .u64 x4, .int .u64 x5, .int .u64 x6, .int .u64 x7] 26) := ⟨_, rfl⟩
  rw [← hw0] at hb0 p0
  obtain ⟨y0, y1, y2, y3, y4, y5, y6, y7⟩ := four_cells p0
  go_enter Try.func5, Try.ntmps5
  go_wp2_with fail
  rw [← hw0, HG.out]
  clear hw0
  refine (FX.out w0).mono ?_
  rintro e w1 ⟨rfl, hb1⟩
  have B1 := hb0.trans (hb1.mono hb0.size)
  have p1 := p0.later hb1
  obtain ⟨y0, y1, y2, y3, y4, y5, y6, y7⟩ := four_cells p1
  clear p0 hb1 FX hb0
  have al := alloc_below (w := w1) (.cells #[.int .u64 x0, .int .u64 x1, .int .u64 x2, .int .u64 x3, .int .u64 x4, .int .u64 x5, .int .u64 x6, .int .u64 x7] 24)
  have hqq := hq4.out w1
  have p1' := p1.later al
  have B1' := B1.trans (al.mono B1.size)
  go_wp2_with fail
  generalize w1.alloc (.cells #[.int .u64 x0, .int .u64 x1, .int .u64 x2, .int .u64 x3, .int .u64 x4, .int .u64 x5, .int .u64 x6, .int .u64 x7] 24) = w1' at *
  refine hqq.mono ?_
  rintro e w2 ⟨FB, rfl, hFB, hb2⟩
  obtain rfl : FB = false := by cases FB; rfl; exact absurd (hFB.mp rfl) hfin4.out
  have B2 := B1'.trans (hb2.mono B1'.size)
  have p2 := p1'.later hb2
  obtain ⟨y0, y1, y2, y3, y4, y5, y6, y7⟩ := four_cells p2
  clear hq4 hqq hfin4 hFB p1 p1' al hb2 B1
  go_wp2_with (go_at_call 10; refine (num22_same _ _).mono ?_; rintro e w' ⟨rfl, rfl⟩)
  refine (cN.out w2).mono ?_
  rintro e w3 ⟨rfl, hb3⟩
  have B3 := B2.trans (hb3.mono B2.size)
  have p3 := p2.later hb3
  obtain ⟨y0, y1, y2, y3, y4, y5, y6, y7⟩ := four_cells p3
  clear cN p2 hb3
  go_wp2_with (go_at_call 10; refine (num22_same _ _).mono ?_; rintro e w' ⟨rfl, rfl⟩)
  go_ret
  exact ⟨rfl, B3⟩
theorem orders_walk {x0 x1 x2 x3 x4 x5 x6 x7 : Int} (u0 : U x0) (u1 : U x1) (u2 : U x2) (u3 : U x3) (u4 : U x4) (u5 : U x5) (u6 : U x6) (u7 : U x7) {w : World} :
    Calls Try.prog 5 #[.agg #[.int .u64 x0, .int .u64 x1, .int .u64 x2, .int .u64 x3, .int .u64 x4, .int .u64 x5, .int .u64 x6, .int .u64 x7]] w fun e w' => e = .returned (.bool true) ∧ Below w.heap.size w w' := by
  have ua := u2_of u0 u1
  have ub := u2_of u2 u3
  have uc := u2_of u4 u5
  have ud := u2_of u6 u7
  by_cases h : fin2 (x0, x1) ∧ fin2 (x2, x3) ∧ fin2 (x4, x5) ∧ fin2 (x6, x7)
  · exact orders_fin ua h.1 ub h.2.1 uc h.2.2.1 ud h.2.2.2 fixed22_any w
  · exact orders_none ua ub uc ud h fixed22_any w
end Go.Proofs.Ytbonkgmcpjaepaa
