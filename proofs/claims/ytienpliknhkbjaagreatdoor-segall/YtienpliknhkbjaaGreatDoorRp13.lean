import Derived.BigQuiet
import Derived.Deep.QuietTactic
import Derived.Below
import Derived.ChangeOld
import Derived.Deep.DeepCutAuto
import Derived.Deep.DeepFit
import Derived.Deep.LoopGhost
import Derived.Deep.RegionHeld3
import Derived.Deep.RegionWith
import Derived.Defers
import Derived.KernelRfl
import Derived.Laws.BitsAllLaws
import Derived.Laws.CopyRow
import Derived.Laws.EntriesVeiled
import Derived.Laws.IdiomCopy
import Derived.Laws.IdiomRangeMap
import Derived.OpenShut
import Derived.Orders
import Derived.OwnWalk
import Derived.ProofKit
import Derived.Recover
import Derived.Scope
import Derived.ShutString
import Derived.WalkKit
import Derived.WalkLawsBesides
import Derived.WalkMore
import Derived.WalkSpells
import Derived.Test.YtienpliknhkbjaaGreatDoorRp8
import Derived.Test.YtienpliknhkbjaaGreatDoorRp11
import Derived.Test.YtienpliknhkbjaaGreatDoorRp12
/- package seg: side, sides. -/
namespace Go.Proofs.YtienpliknhkbjaaGreatDoor
open Go.ChangeShapes Go.WideShapes Go.ChangeAt Go.RowKit
open Na Ar
set_option linter.unusedVariables false
theorem cmp64_same (a b : Int) (w : World) : Calls Tryz.prog 107 #[.int .i64 a, .int .i64 b] w fun e w' => e = .returned (.int .i64 (ord a b)) ∧ w' = w :=
  (compare6_any a b w).mono (fun _ _ h => ⟨h.1, h.2.symm⟩)
theorem ord_in (a b : Int) : -1 ≤ ord a b ∧ ord a b ≤ 1 := by
  unfold ord
  (repeat' split) <;> omega
/-- the signs of the two products that side looks at, from the end e -/
def fsP (a b e p : Int × Int) : Int := ord b.1 a.1 * ord p.2 e.2
def scP (a b e p : Int × Int) : Int := ord b.2 a.2 * ord p.1 e.1
theorem ord_sgI (x y : Int) : ord x y = sgI (x - y) := by
  unfold ord sgI
  (repeat' split) <;> omega
theorem side_P {a b e p : Int × Int} (ha : pOk a) (hb : pOk b) (hp : pOk p) (he : e = a ∨ e = b) (h : fsP a b e p ≠ scP a b e p ∨ fsP a b e p = 0) : ord (fsP a b e p) (scP a b e p) = sdP a b p := by
  have hE : pOk e := by rcases he with rfl | rfl <;> assumption
  have e1 : frsS (vR a.1) (vR a.2) (vR b.1) (vR b.2) (vR e.1) (vR e.2) (vR p.1) (vR p.2) = fsP a b e p := by
    unfold frsS fsP; rw [ord_vR hb.1 ha.1, ord_vR hp.2 hE.2]
  have e2' : secS (vR a.1) (vR a.2) (vR b.1) (vR b.2) (vR e.1) (vR e.2) (vR p.1) (vR p.2) = scP a b e p := by
    unfold secS scP; rw [ord_vR hb.2 ha.2, ord_vR hp.1 hE.1]
  have k := side_short (ax := vR a.1) (ay := vR a.2) (bx := vR b.1) (by' := vR b.2) (ex := vR e.1) (ey := vR e.2) (px := vR p.1) (py := vR p.2) (by rcases he with rfl | rfl <;> simp) (by rw [e1, e2']; exact h)
  rw [e1, e2'] at k
  rw [ord_sgI]
  exact k.symm
theorem index23_0 (x y z u : Int) (w : World) : (Instr.index 80 (.agg #[.int .i64 x, .int .i64 y, .int .i64 z, .int .i64 u]) (.int .i64 0)).run Tryz.prog w = .ok (.agg #[.int .i64 x, .int .i64 y]) w := by kernel_rfl
theorem index23_1 (x y z u : Int) (w : World) : (Instr.index 80 (.agg #[.int .i64 x, .int .i64 y, .int .i64 z, .int .i64 u]) (.int .i64 1)).run Tryz.prog w = .ok (.agg #[.int .i64 z, .int .i64 u]) w := by kernel_rfl
set_option maxHeartbeats 6400000 in
set_option maxRecDepth 100000 in
theorem side23_raw (a1 a2 b1 b2 p1 p2 A B C D S : Int) (hA : A = ord b1 a1 * ord p2 a2) (hB : B = ord b2 a2 * ord p1 a1) (hC : C = ord b1 a1 * ord p2 b2) (hD : D = ord b2 a2 * ord p1 b1)
    (hS : Hid (((A ≠ B ∨ A = 0) → ord A B = S) ∧ ((C ≠ D ∨ C = 0) → ord C D = S))) (w : World)
    (hO : ∀ w, Calls Tryz.prog 11 #[.agg #[.int .u64 (atW a1), .int .u64 (atW a2)], .agg #[.int .u64 (atW b1), .int .u64 (atW b2)], .agg #[.int .u64 (atW p1), .int .u64 (atW p2)]] w fun e w' => e = .returned (.tuple #[.int .i64 S, .int .i64 0]) ∧ Below w.heap.size w w') :
    Calls Tryz.prog 105 #[.agg #[.int .i64 a1, .int .i64 a2, .int .i64 b1, .int .i64 b2], .agg #[.int .i64 p1, .int .i64 p2]] w fun e w' => e = .returned (.int .i64 S) ∧ Below w.heap.size w w' := by
  have m0 := ord_in b1 a1
  have m1 := mul_in (ord_in b1 a1) (ord_in p2 a2)
  have m2 := mul_in (ord_in b2 a2) (ord_in p1 a1)
  have m3 := mul_in (ord_in b1 a1) (ord_in p2 b2)
  have m4 := mul_in (ord_in b2 a2) (ord_in p1 b1)
  have wA : IntKind.i64.wrap (ord b1 a1 * ord p2 a2) = A := by rw [hA, IntKind.wrap_i64]; omega
  have wB : IntKind.i64.wrap (ord b2 a2 * ord p1 a1) = B := by rw [hB, IntKind.wrap_i64]; omega
  have wC : IntKind.i64.wrap (ord b1 a1 * ord p2 b2) = C := by rw [hC, IntKind.wrap_i64]; omega
  have wD : IntKind.i64.wrap (ord b2 a2 * ord p1 b1) = D := by rw [hD, IntKind.wrap_i64]; omega
  clear m0 m1 m2 m3 m4 hA hB hC hD
  obtain ⟨w0, hw0⟩ : ∃ w0, w0 = (w.alloc (.cells #[.int .i64 a1, .int .i64 a2, .int .i64 b1, .int .i64 b2] 80)).alloc (.cells #[.int .i64 p1, .int .i64 p2] 78) := ⟨_, rfl⟩
  obtain ⟨u1, u2, hb0⟩ : Pb w0 w.heap.size 80 #[.int .i64 a1, .int .i64 a2, .int .i64 b1, .int .i64 b2] ∧ Pb w0 (w.heap.size + 1) 78 #[.int .i64 p1, .int .i64 p2] ∧ Below w.heap.size w w0 := by
    subst hw0
    exact pb_two' _ _ _ _ _
  have ix0 := index23_0 a1 a2 b1 b2
  have ix1 := index23_1 a1 a2 b1 b2
  obtain ⟨x0, x1, x2, x3⟩ := u1.four
  have HW0 : Hid ((w.alloc (.cells #[.int .i64 a1, .int .i64 a2, .int .i64 b1, .int .i64 b2] 80)).alloc (.cells #[.int .i64 p1, .int .i64 p2] 78) = w0) := hw0.symm
  rw [hw0] at x0 x1 x2 x3
  clear hw0
  go_enter Tryz.func105, Tryz.ntmps105
  go_wp2
  rw [HW0.out]
  rw [HW0.out] at x0 x1 x2 x3
  obtain ⟨y0, y1⟩ := u2.two
  clear HW0
  obtain ⟨g, hg⟩ : ∃ g, g = w.heap.size := ⟨_, rfl⟩
  have HG : Hid (w.heap.size = g) := hg.symm
  rw [← hg] at u1 u2 hb0 x0 x1 x2 x3 y0 y1 ⊢
  clear hg
  have al := alloc_below (w := w0) (.cells #[.int .i64 a1, .int .i64 a2] 78)
  have v1 := u1.later al
  have v2 := u2.later al
  have v3 := Pb.new w0 78 #[.int .i64 a1, .int .i64 a2]
  refine wp_loop_rounds 3 ?_
  rw [rounds_succ]
  have hz : g ≤ w0.heap.size := by have := hb0.size; rw [HG.out] at this; exact this
  by_cases h0 : A = B
  · have tA : (A != B) = false := by simpa using h0
    by_cases h1 : A = 0
    · have tB : (A == 0) = true := by simpa using h1
      have HE : Hid (ord A B = S) := hS.out.1 (Or.inr h1)
      clear h0 h1 hS hO
      go_wp2
      obtain ⟨z0, z1, z2, z3⟩ := v1.four
      obtain ⟨q0, q1⟩ := v2.two
      obtain ⟨r0, r1⟩ := v3.two
      have hb1 := hb0.trans (al.mono hz)
      generalize w0.alloc (.cells #[.int .i64 a1, .int .i64 a2] 78) = w1 at *
      clear x0 x1 x2 x3 y0 y1 u1 u2 al
      go_quiet ((go_at_call 107; exact (cmp64_same _ _ _).mono (fun _ _ h => ⟨h.1, _, h.2⟩)))
      generalize nq = n1
      go_wp2
      go_quiet ((go_at_call 107; exact (cmp64_same _ _ _).mono (fun _ _ h => ⟨h.1, _, h.2⟩)))
      have hb2 := below_drewN (below_drewN hb1 n1) nq
      have V1 : Pb ((w1.drewN n1).drewN nq) _ _ _ := v1
      have V2 : Pb ((w1.drewN n1).drewN nq) _ _ _ := v2
      generalize (w1.drewN n1).drewN nq = w2 at *
      clear v1 v2 v3 z0 z1 z2 z3 q0 q1 r0 r1 hb1
      go_wp2_with (go_at_call 53; refine (cmpi_any _ _ _).mono ?_; rintro e w' ⟨rfl, rfl⟩)
      go_ret
      rw [HE.out, HG.out]
      exact ⟨rfl, hb2⟩
    · have tB : (A == 0) = false := by simpa using h1
      clear h0 h1
      go_wp2
      obtain ⟨z0, z1, z2, z3⟩ := v1.four
      obtain ⟨q0, q1⟩ := v2.two
      obtain ⟨r0, r1⟩ := v3.two
      have hb1 := hb0.trans (al.mono hz)
      generalize w0.alloc (.cells #[.int .i64 a1, .int .i64 a2] 78) = w1 at *
      clear x0 x1 x2 x3 y0 y1 u1 u2 al
      go_quiet ((go_at_call 107; exact (cmp64_same _ _ _).mono (fun _ _ h => ⟨h.1, _, h.2⟩)))
      generalize nq = n1
      go_wp2
      go_quiet ((go_at_call 107; exact (cmp64_same _ _ _).mono (fun _ _ h => ⟨h.1, _, h.2⟩)))
      have hb2 := below_drewN (below_drewN hb1 n1) nq
      have V1 : Pb ((w1.drewN n1).drewN nq) _ _ _ := v1
      have V2 : Pb ((w1.drewN n1).drewN nq) _ _ _ := v2
      generalize (w1.drewN n1).drewN nq = w2 at *
      clear v1 v2 v3 z0 z1 z2 z3 q0 q1 r0 r1 hb1
      by_cases h0 : C = D
      · have tC : (C != D) = false := by simpa using h0
        by_cases h1 : C = 0
        · have tD : (C == 0) = true := by simpa using h1
          have HE : Hid (ord C D = S) := hS.out.2 (Or.inr h1)
          clear h0 h1 hS hO
          obtain ⟨x0, x1, x2, x3⟩ := V1.four
          obtain ⟨y0, y1⟩ := V2.two
          have al := alloc_below (w := w2) (.cells #[.int .i64 b1, .int .i64 b2] 78)
          have v1 := V1.later al
          have v2 := V2.later al
          have v3 := Pb.new w2 78 #[.int .i64 b1, .int .i64 b2]
          have hz2 : g ≤ w2.heap.size := by have := hb2.size; rw [HG.out] at this; exact this
          go_wp2
          rw [rounds_succ]
          go_wp2
          obtain ⟨z0, z1, z2, z3⟩ := v1.four
          obtain ⟨q0, q1⟩ := v2.two
          obtain ⟨r0, r1⟩ := v3.two
          have hb3 := hb2.trans (al.mono hz2)
          generalize w2.alloc (.cells #[.int .i64 b1, .int .i64 b2] 78) = w3 at *
          clear x0 x1 x2 x3 y0 y1 V1 V2 al hb2
          go_quiet ((go_at_call 107; exact (cmp64_same _ _ _).mono (fun _ _ h => ⟨h.1, _, h.2⟩)))
          generalize nq = n3
          go_wp2
          go_quiet ((go_at_call 107; exact (cmp64_same _ _ _).mono (fun _ _ h => ⟨h.1, _, h.2⟩)))
          have hb4 := below_drewN (below_drewN hb3 n3) nq
          have V1 : Pb ((w3.drewN n3).drewN nq) _ _ _ := v1
          have V2 : Pb ((w3.drewN n3).drewN nq) _ _ _ := v2
          generalize (w3.drewN n3).drewN nq = w4 at *
          clear v1 v2 v3 z0 z1 z2 z3 q0 q1 r0 r1 hb3
          go_wp2_with (go_at_call 53; refine (cmpi_any _ _ _).mono ?_; rintro e w' ⟨rfl, rfl⟩)
          go_ret
          rw [HE.out, HG.out]
          exact ⟨rfl, hb4⟩
        · have tD : (C == 0) = false := by simpa using h1
          clear h0 h1
          obtain ⟨x0, x1, x2, x3⟩ := V1.four
          obtain ⟨y0, y1⟩ := V2.two
          have al := alloc_below (w := w2) (.cells #[.int .i64 b1, .int .i64 b2] 78)
          have v1 := V1.later al
          have v2 := V2.later al
          have v3 := Pb.new w2 78 #[.int .i64 b1, .int .i64 b2]
          have hz2 : g ≤ w2.heap.size := by have := hb2.size; rw [HG.out] at this; exact this
          go_wp2
          rw [rounds_succ]
          go_wp2
          obtain ⟨z0, z1, z2, z3⟩ := v1.four
          obtain ⟨q0, q1⟩ := v2.two
          obtain ⟨r0, r1⟩ := v3.two
          have hb3 := hb2.trans (al.mono hz2)
          generalize w2.alloc (.cells #[.int .i64 b1, .int .i64 b2] 78) = w3 at *
          clear x0 x1 x2 x3 y0 y1 V1 V2 al hb2
          go_quiet ((go_at_call 107; exact (cmp64_same _ _ _).mono (fun _ _ h => ⟨h.1, _, h.2⟩)))
          generalize nq = n3
          go_wp2
          go_quiet ((go_at_call 107; exact (cmp64_same _ _ _).mono (fun _ _ h => ⟨h.1, _, h.2⟩)))
          have hb4 := below_drewN (below_drewN hb3 n3) nq
          have V1 : Pb ((w3.drewN n3).drewN nq) _ _ _ := v1
          have V2 : Pb ((w3.drewN n3).drewN nq) _ _ _ := v2
          generalize (w3.drewN n3).drewN nq = w4 at *
          clear v1 v2 v3 z0 z1 z2 z3 q0 q1 r0 r1 hb3
          obtain ⟨x0, x1, x2, x3⟩ := V1.four
          obtain ⟨y0, y1⟩ := V2.two
          have hz4 : g ≤ w4.heap.size := by have := hb4.size; rw [HG.out] at this; exact this
          go_wp2
          rw [rounds_succ]
          go_wp2
          have hcl : ∀ w', Below w4.heap.size w4 w' → (w'.cell? ⟨g, 0, none⟩ = some (.int .i64 a1) ∧ w'.cell? ⟨g, 1, none⟩ = some (.int .i64 a2) ∧ w'.cell? ⟨g, 2, none⟩ = some (.int .i64 b1) ∧ w'.cell? ⟨g, 3, none⟩ = some (.int .i64 b2)) ∧ (w'.cell? ⟨g + 1, 0, none⟩ = some (.int .i64 p1) ∧ w'.cell? ⟨g + 1, 1, none⟩ = some (.int .i64 p2)) := fun w' h => ⟨(V1.later h).four, (V2.later h).two⟩
          have pt := fun x y w' (h : Below w4.heap.size w4 w') => point23_at (w0 := w4) (w := w') (x, y) h
          clear V1 V2 ix0 ix1 wA wB wC wD
          go_region_held3 (fun w' => (w'.cell? ⟨g, 0, none⟩ = some (.int .i64 a1) ∧ w'.cell? ⟨g, 1, none⟩ = some (.int .i64 a2) ∧ w'.cell? ⟨g, 2, none⟩ = some (.int .i64 b1) ∧ w'.cell? ⟨g, 3, none⟩ = some (.int .i64 b2)) ∧ (w'.cell? ⟨g + 1, 0, none⟩ = some (.int .i64 p1) ∧ w'.cell? ⟨g + 1, 1, none⟩ = some (.int .i64 p2))) (go_keep) (first | (go_at_call_of 75 a1; refine (pt a1 a2 _ (by first | exact Below.refl _ _ | exact below_drewN (Below.refl _ _) _)).mono ?_; rintro e wX ⟨rfl, hbX⟩; obtain ⟨⟨x0, x1, x2, x3⟩, ⟨y0, y1⟩⟩ := hcl wX hbX) | (go_at_call_of 75 b1; refine (pt b1 b2 _ hbX).mono ?_; rintro e wY ⟨rfl, hbY⟩; obtain ⟨⟨x0, x1, x2, x3⟩, ⟨y0, y1⟩⟩ := hcl wY hbY) | (go_at_call_of 75 p1; refine (pt p1 p2 _ hbY).mono ?_; rintro e wZ ⟨rfl, hbZ⟩; obtain ⟨⟨x0, x1, x2, x3⟩, ⟨y0, y1⟩⟩ := hcl wZ hbZ) | (go_at_call 11; refine (hO wZ).mono ?_; rintro e wO ⟨rfl, hbO⟩; have hbP := hbZ.trans (hbO.mono hbZ.size); obtain ⟨⟨x0, x1, x2, x3⟩, ⟨y0, y1⟩⟩ := hcl wO hbP))
          go_wp2
          go_ret
          rw [HG.out]
          exact ⟨rfl, hb4.trans (hbP.mono hz4)⟩
      · have tC : (C != D) = true := by simpa using h0
        have HE : Hid (ord C D = S) := hS.out.2 (Or.inl h0)
        clear h0 hS hO
        obtain ⟨x0, x1, x2, x3⟩ := V1.four
        obtain ⟨y0, y1⟩ := V2.two
        have al := alloc_below (w := w2) (.cells #[.int .i64 b1, .int .i64 b2] 78)
        have v1 := V1.later al
        have v2 := V2.later al
        have v3 := Pb.new w2 78 #[.int .i64 b1, .int .i64 b2]
        have hz2 : g ≤ w2.heap.size := by have := hb2.size; rw [HG.out] at this; exact this
        go_wp2
        rw [rounds_succ]
        go_wp2
        obtain ⟨z0, z1, z2, z3⟩ := v1.four
        obtain ⟨q0, q1⟩ := v2.two
        obtain ⟨r0, r1⟩ := v3.two
        have hb3 := hb2.trans (al.mono hz2)
        generalize w2.alloc (.cells #[.int .i64 b1, .int .i64 b2] 78) = w3 at *
        clear x0 x1 x2 x3 y0 y1 V1 V2 al hb2
        go_quiet ((go_at_call 107; exact (cmp64_same _ _ _).mono (fun _ _ h => ⟨h.1, _, h.2⟩)))
        generalize nq = n3
        go_wp2
        go_quiet ((go_at_call 107; exact (cmp64_same _ _ _).mono (fun _ _ h => ⟨h.1, _, h.2⟩)))
        have hb4 := below_drewN (below_drewN hb3 n3) nq
        have V1 : Pb ((w3.drewN n3).drewN nq) _ _ _ := v1
        have V2 : Pb ((w3.drewN n3).drewN nq) _ _ _ := v2
        generalize (w3.drewN n3).drewN nq = w4 at *
        clear v1 v2 v3 z0 z1 z2 z3 q0 q1 r0 r1 hb3
        go_wp2_with (go_at_call 53; refine (cmpi_any _ _ _).mono ?_; rintro e w' ⟨rfl, rfl⟩)
        go_ret
        rw [HE.out, HG.out]
        exact ⟨rfl, hb4⟩
  · have tA : (A != B) = true := by simpa using h0
    have HE : Hid (ord A B = S) := hS.out.1 (Or.inl h0)
    clear h0 hS hO
    go_wp2
    obtain ⟨z0, z1, z2, z3⟩ := v1.four
    obtain ⟨q0, q1⟩ := v2.two
    obtain ⟨r0, r1⟩ := v3.two
    have hb1 := hb0.trans (al.mono hz)
    generalize w0.alloc (.cells #[.int .i64 a1, .int .i64 a2] 78) = w1 at *
    clear x0 x1 x2 x3 y0 y1 u1 u2 al
    go_quiet ((go_at_call 107; exact (cmp64_same _ _ _).mono (fun _ _ h => ⟨h.1, _, h.2⟩)))
    generalize nq = n1
    go_wp2
    go_quiet ((go_at_call 107; exact (cmp64_same _ _ _).mono (fun _ _ h => ⟨h.1, _, h.2⟩)))
    have hb2 := below_drewN (below_drewN hb1 n1) nq
    have V1 : Pb ((w1.drewN n1).drewN nq) _ _ _ := v1
    have V2 : Pb ((w1.drewN n1).drewN nq) _ _ _ := v2
    generalize (w1.drewN n1).drewN nq = w2 at *
    clear v1 v2 v3 z0 z1 z2 z3 q0 q1 r0 r1 hb1
    go_wp2_with (go_at_call 53; refine (cmpi_any _ _ _).mono ?_; rintro e w' ⟨rfl, rfl⟩)
    go_ret
    rw [HE.out, HG.out]
    exact ⟨rfl, hb2⟩
theorem at_two {p : Int × Int} (h : pOk p) : U2 (atW p.1, atW p.2) ∧ fin2 (atW p.1, atW p.2) := ⟨⟨(at_fin h.1).1, (at_fin h.2).1⟩, (at_fin h.1).2, (at_fin h.2).2⟩
theorem orient23_any {a b p : Int × Int} (ha : pOk a) (hb : pOk b) (hp : pOk p) (w : World) :
    Calls Tryz.prog 11 #[.agg #[.int .u64 (atW a.1), .int .u64 (atW a.2)], .agg #[.int .u64 (atW b.1), .int .u64 (atW b.2)], .agg #[.int .u64 (atW p.1), .int .u64 (atW p.2)]] w fun e w' => e = .returned (.tuple #[.int .i64 (sdP a b p), .int .i64 0]) ∧ Below w.heap.size w w' := by
  have h := Orient22_fin (w := w) (a := (atW a.1, atW a.2)) (b := (atW b.1, atW b.2)) (c := (atW p.1, atW p.2)) (at_two ha).1 (at_two hb).1 (at_two hp).1 (at_two ha).2 (at_two hb).2 (at_two hp).2
  exact h
theorem side23_any {a b p : Int × Int} (ha : pOk a) (hb : pOk b) (hp : pOk p) (w : World) :
    Calls Tryz.prog 105 #[.agg #[.int .i64 a.1, .int .i64 a.2, .int .i64 b.1, .int .i64 b.2], .agg #[.int .i64 p.1, .int .i64 p.2]] w fun e w' => e = .returned (.int .i64 (sdP a b p)) ∧ Below w.heap.size w w' :=
  side23_raw a.1 a.2 b.1 b.2 p.1 p.2 (fsP a b a p) (scP a b a p) (fsP a b b p) (scP a b b p) (sdP a b p) rfl rfl rfl rfl ⟨side_P ha hb hp (Or.inl rfl), side_P ha hb hp (Or.inr rfl)⟩ w (orient23_any ha hb hp)
set_option maxHeartbeats 6400000 in
set_option maxRecDepth 100000 in
theorem sides23_raw (a1 a2 b1 b2 c1 c2 d1 d2 X Y : Int) (w : World)
    (hX : ∀ w, Calls Tryz.prog 105 #[.agg #[.int .i64 a1, .int .i64 a2, .int .i64 b1, .int .i64 b2], .agg #[.int .i64 c1, .int .i64 c2]] w fun e w' => e = .returned (.int .i64 X) ∧ Below w.heap.size w w')
    (hY : ∀ w, Calls Tryz.prog 105 #[.agg #[.int .i64 a1, .int .i64 a2, .int .i64 b1, .int .i64 b2], .agg #[.int .i64 d1, .int .i64 d2]] w fun e w' => e = .returned (.int .i64 Y) ∧ Below w.heap.size w w') :
    Calls Tryz.prog 70 #[.agg #[.int .i64 a1, .int .i64 a2, .int .i64 b1, .int .i64 b2], .agg #[.int .i64 c1, .int .i64 c2, .int .i64 d1, .int .i64 d2]] w fun e w' => e = .returned (.agg #[.int .i64 X, .int .i64 Y]) ∧ Below w.heap.size w w' := by
  obtain ⟨w0, hw0⟩ : ∃ w0, w0 = ((w.alloc (.cells #[.int .i64 a1, .int .i64 a2, .int .i64 b1, .int .i64 b2] 80)).alloc (.cells #[.int .i64 c1, .int .i64 c2, .int .i64 d1, .int .i64 d2] 80)).alloc (.cells #[.int .i64 0, .int .i64 0] 63) := ⟨_, rfl⟩
  obtain ⟨u1, u2, u3, hb0, e0⟩ : Pb w0 w.heap.size 80 #[.int .i64 a1, .int .i64 a2, .int .i64 b1, .int .i64 b2] ∧ Pb w0 (w.heap.size + 1) 80 #[.int .i64 c1, .int .i64 c2, .int .i64 d1, .int .i64 d2] ∧ Pb w0 (w.heap.size + 1 + 1) 63 #[.int .i64 0, .int .i64 0] ∧ Below w.heap.size w w0 ∧ w0.heap.size = w.heap.size + 1 + 1 + 1 := by
    subst hw0
    exact pb_three _ _ _ _ _
  have HW0 : Hid (((w.alloc (.cells #[.int .i64 a1, .int .i64 a2, .int .i64 b1, .int .i64 b2] 80)).alloc (.cells #[.int .i64 c1, .int .i64 c2, .int .i64 d1, .int .i64 d2] 80)).alloc (.cells #[.int .i64 0, .int .i64 0] 63) = w0) := hw0.symm
  clear hw0
  go_enter Tryz.func70, Tryz.ntmps70
  go_wp2
  rw [HW0.out]
  clear HW0
  obtain ⟨g, hg⟩ : ∃ g, g = w.heap.size := ⟨_, rfl⟩
  have HG : Hid (w.heap.size = g) := hg.symm
  rw [← hg] at u1 u2 u3 hb0 e0 ⊢
  clear hg
  have hz : g ≤ w0.heap.size := by omega
  clear e0
  obtain ⟨x0, x1, x2, x3⟩ := u1.four
  obtain ⟨y0, y1, y2, y3⟩ := u2.four
  have hcl : ∀ w', Below w0.heap.size w0 w' → (w'.cell? ⟨g, 0, none⟩ = some (.int .i64 a1) ∧ w'.cell? ⟨g, 1, none⟩ = some (.int .i64 a2) ∧ w'.cell? ⟨g, 2, none⟩ = some (.int .i64 b1) ∧ w'.cell? ⟨g, 3, none⟩ = some (.int .i64 b2)) ∧ (w'.cell? ⟨g + 1, 0, none⟩ = some (.int .i64 c1) ∧ w'.cell? ⟨g + 1, 1, none⟩ = some (.int .i64 c2) ∧ w'.cell? ⟨g + 1, 2, none⟩ = some (.int .i64 d1) ∧ w'.cell? ⟨g + 1, 3, none⟩ = some (.int .i64 d2)) ∧ ((∃ v, w'.cell? ⟨g + 1 + 1, 0, none⟩ = some v) ∧ (∃ v, w'.cell? ⟨g + 1 + 1, 1, none⟩ = some v) ∧ w'.frozen? ⟨g + 1 + 1, 0, none⟩ = false ∧ w'.frozen? ⟨g + 1 + 1, 1, none⟩ = false) := fun w' h => ⟨(u1.later h).four, (u2.later h).four, ⟨_, (u3.later h).two.1⟩, ⟨_, (u3.later h).two.2⟩, (u3.later h).frozen _, (u3.later h).frozen _⟩
  have u3' := fun w' (h : Below w0.heap.size w0 w') => u3.later h
  have HU : Hid _ := u3'
  have n0 : ¬ g + 1 + 1 = g := by omega
  have n1 : ¬ g = g + 1 + 1 := by omega
  clear u1 u2 u3 u3'
  go_region_held3 (fun w' => (w'.cell? ⟨g, 0, none⟩ = some (.int .i64 a1) ∧ w'.cell? ⟨g, 1, none⟩ = some (.int .i64 a2) ∧ w'.cell? ⟨g, 2, none⟩ = some (.int .i64 b1) ∧ w'.cell? ⟨g, 3, none⟩ = some (.int .i64 b2)) ∧ (w'.cell? ⟨g + 1, 0, none⟩ = some (.int .i64 c1) ∧ w'.cell? ⟨g + 1, 1, none⟩ = some (.int .i64 c2) ∧ w'.cell? ⟨g + 1, 2, none⟩ = some (.int .i64 d1) ∧ w'.cell? ⟨g + 1, 3, none⟩ = some (.int .i64 d2))) (go_keep) (first | (go_at_call_of 105 c1; refine (hX _).mono ?_; rintro e wX ⟨rfl, hbX'⟩; have hbX := (show Below w0.heap.size w0 _ by first | exact Below.refl _ _ | exact below_drewN (Below.refl _ _) _).trans hbX'; obtain ⟨⟨x0, x1, x2, x3⟩, ⟨y0, y1, y2, y3⟩, ⟨⟨v0, k0⟩, ⟨v1, k1⟩, f0, f1⟩⟩ := hcl wX hbX) | (go_at_call_of 105 d1; refine (hY _).mono ?_; rintro e wY ⟨rfl, hbY'⟩; have hbY := hbX.trans (hbY'.mono hbX.size); obtain ⟨⟨x0, x1, x2, x3⟩, ⟨y0, y1, y2, y3⟩, ⟨⟨v0, k0⟩, ⟨v1, k1⟩, f0, f1⟩⟩ := hcl wY hbY))
  go_wp2
  have T9 := ((HU.out wY hbY).set 0 (.int .i64 X)).set 1 (.int .i64 Y)
  have I9 : In (g + 1 + 1) (g + 1 + 1 + 1) wY ((wY.setCell ⟨g + 1 + 1, 0, none⟩ (.int .i64 X)).setCell ⟨g + 1 + 1, 1, none⟩ (.int .i64 Y)) := ((In.refl _ _ wY).set1 0 _).set1 1 _
  have t0 := T9.cell 0 (v := .int .i64 X) (by simp)
  have t1 := T9.cell 1 (v := .int .i64 Y) (by simp)
  refine bodyPost_ret (v := .agg #[.int .i64 X, .int .i64 Y]) (by simp [results, Tryz.results70, go_sem, t0, t1]) rfl ?_
  rw [HG.out]
  exact ⟨rfl, below_in (hb0.trans (hbY.mono hz)) I9 (by omega) (Nat.le_of_eq HG.out.symm)⟩
theorem sides23_any {a b c d : Int × Int} (ha : pOk a) (hb : pOk b) (hc : pOk c) (hd : pOk d) (w : World) :
    Calls Tryz.prog 70 #[.agg #[.int .i64 a.1, .int .i64 a.2, .int .i64 b.1, .int .i64 b.2], .agg #[.int .i64 c.1, .int .i64 c.2, .int .i64 d.1, .int .i64 d.2]] w fun e w' => e = .returned (.agg #[.int .i64 (sdP a b c), .int .i64 (sdP a b d)]) ∧ Below w.heap.size w w' :=
  sides23_raw a.1 a.2 b.1 b.2 c.1 c.2 d.1 d.2 (sdP a b c) (sdP a b d) w (side23_any ha hb hc) (side23_any ha hb hd)
end Go.Proofs.YtienpliknhkbjaaGreatDoor

/- package seg: slices.MinFunc, slices.MaxFunc at places (written by gensge.py). -/
namespace Go.Proofs.YtienpliknhkbjaaGreatDoor
open Go.ChangeShapes Go.WideShapes Go.ChangeAt Go.RowKit
open Na Ar
set_option linter.unusedVariables false
/-- places in memory, in a row -/
def RwAt (w : World) (b o : Nat) (L : List (Int × Int)) : Prop := ∀ i p, L[i]? = some p → w.cell? ⟨b, o + i * 2, none⟩ = some (.int .i64 p.1) ∧ w.cell? ⟨b, o + i * 2 + 1, none⟩ = some (.int .i64 p.2)
theorem RwAt.later {w w' : World} {b o : Nat} {L : List (Int × Int)} (h : RwAt w b o L) (hb : b < w.heap.size) (hB : Below w.heap.size w w') : RwAt w' b o L := fun i p hi => ⟨(hB.cell (p := ⟨b, o + i * 2, none⟩) hb).trans (h i p hi).1, (hB.cell (p := ⟨b, o + i * 2 + 1, none⟩) hb).trans (h i p hi).2⟩
set_option maxHeartbeats 6400000 in
set_option maxRecDepth 100000 in
theorem least23_any {w : World} {b o c : Nat} {m : Int × Int} {l : List (Int × Int)} (hL : RwAt w b o (m :: l)) (hb : b < w.heap.size) (hlen : (m :: l).length ≤ 1000) :
    Calls Tryz.prog 72 #[.slice (some ⟨b, o, none⟩) (m :: l).length c, .func (.func 73) #[] #[]] w fun e w' => e = .returned (.agg #[.int .i64 (leastP m l).1, .int .i64 (leastP m l).2]) ∧ Below w.heap.size w w' := by
  obtain ⟨L, hLL⟩ : ∃ L, L = m :: l := ⟨_, rfl⟩
  have h0 := hL 0 m rfl
  rw [Nat.zero_mul, Nat.add_zero] at h0
  obtain ⟨x0, x1⟩ := h0
  rw [← hLL] at hL hlen ⊢
  have hdr : leastP m (L.drop 1) = leastP m l := by rw [hLL]; rfl
  have hn1 : 1 ≤ L.length := by rw [hLL]; simp
  clear hLL
  obtain ⟨R, hR⟩ : ∃ R, R = leastP m l := ⟨_, rfl⟩
  rw [← hR] at hdr ⊢
  clear hR
  obtain ⟨n, hn⟩ : ∃ n, n = L.length := ⟨_, rfl⟩
  rw [← hn] at hlen hn1 ⊢
  have HN : Hid (n = L.length) := hn
  have HD : Hid (leastP m (L.drop 1) = R) := hdr
  clear hn hdr
  have i0 : ¬ (n : Int) < 1 := by omega
  obtain ⟨v1, v2, hbv⟩ := pb_two' w #[.int .i64 0, .int .i64 0] #[.int .i64 m.1, .int .i64 m.2] 78 78
  have al := alloc_below (w := w) (.cells #[.int .i64 0, .int .i64 0] 78)
  have z0 := (al.cell (p := ⟨b, o, none⟩) hb).trans x0
  have z1 := (al.cell (p := ⟨b, o + 1, none⟩) hb).trans x1
  go_enter Tryz.func72, Tryz.ntmps72
  go_wp2
  clear z0 z1 x0 x1
  obtain ⟨g, hg⟩ : ∃ g, g = w.heap.size := ⟨_, rfl⟩
  have HG : Hid (w.heap.size = g) := hg.symm
  rw [← hg] at v1 v2 hbv ⊢
  have hbg : b < g := by omega
  clear hg hb al
  generalize (w.alloc (.cells #[.int .i64 0, .int .i64 0] 78)).alloc (.cells #[.int .i64 m.1, .int .i64 m.2] 78) = w0 at *
  go_loopw [6] (fun i wr => ∃ (k : Nat) (mm : Int × Int), i = .int .i64 (k : Int) ∧ 1 ≤ k ∧ k ≤ n ∧ Hid (leastP mm (L.drop k) = R) ∧ Pb wr g 78 #[.int .i64 0, .int .i64 0] ∧ Pb wr (g + 1) 78 #[.int .i64 mm.1, .int .i64 mm.2] ∧ Below g w wr) (fun i _ => n - (intOf i).toNat)
  case atStart => exact ⟨1, m, rfl, by omega, hn1, HD, v1, v2, hbv⟩
  case round =>
    obtain ⟨k, mm, rfl, hk1, hkn, HK, V1, V2, hB⟩ := hrel
    clear v1 v2 hbv HD
    by_cases hlt : k < n
    · have i1 : (k : Int) < (n : Int) := by omega
      have hk0 : (0 : Int) ≤ (k : Int) := by omega
      obtain ⟨x, hx⟩ : ∃ x, L[k]? = some x := ⟨L[k]'(by have := HN.out; omega), by simp [show k < L.length by have := HN.out; omega]⟩
      have hdr : L.drop k = x :: L.drop (k + 1) := by
        obtain ⟨hlt', e⟩ := List.getElem?_eq_some_iff.mp hx
        rw [List.drop_eq_getElem_cons hlt', e]
      have HK2 : Hid (leastP (if orP x mm < 0 then x else mm) (L.drop (k + 1)) = R) := by
        show _ = _
        have := HK.out
        rw [hdr] at this
        exact this
      have hC : ∀ w', Below g w w' → w'.cell? ⟨b, o + k * 2, none⟩ = some (.int .i64 x.1) ∧ w'.cell? ⟨b, o + k * 2 + 1, none⟩ = some (.int .i64 x.2) := fun w' h => ⟨(h.cell (p := ⟨b, o + k * 2, none⟩) hbg).trans (hL k x hx).1, (h.cell (p := ⟨b, o + k * 2 + 1, none⟩) hbg).trans (hL k x hx).2⟩
      have hsz : g ≤ wr.heap.size := by have := hB.size; rw [HG.out] at this; exact this
      have cc := fun w' (h : Below wr.heap.size wr w') => order23_at (w := w') (w0 := wr) x mm h
      obtain ⟨O, hO⟩ : ∃ O, O = orP x mm := ⟨_, rfl⟩
      rw [← hO] at cc HK2
      clear hO hx hdr HK
      obtain ⟨x0, x1⟩ := hC wr hB
      obtain ⟨q0, q1⟩ := V2.two
      have hcl : ∀ w', Below wr.heap.size wr w' → (w'.cell? ⟨b, o + k * 2, none⟩ = some (.int .i64 x.1) ∧ w'.cell? ⟨b, o + k * 2 + 1, none⟩ = some (.int .i64 x.2)) ∧ (w'.cell? ⟨g + 1, 0, none⟩ = some (.int .i64 mm.1) ∧ w'.cell? ⟨g + 1, 1, none⟩ = some (.int .i64 mm.2)) := fun w' h => ⟨hC w' (hB.trans (h.mono hsz)), (V2.later h).two⟩
      have HCL : Hid _ := hcl
      clear hC hcl
      by_cases hlo : O < 0
      · rw [if_pos hlo] at HK2
        go_wp2
        go_region_held3 (fun w' => (w'.cell? ⟨b, o + k * 2, none⟩ = some (.int .i64 x.1) ∧ w'.cell? ⟨b, o + k * 2 + 1, none⟩ = some (.int .i64 x.2)) ∧ (w'.cell? ⟨g + 1, 0, none⟩ = some (.int .i64 mm.1) ∧ w'.cell? ⟨g + 1, 1, none⟩ = some (.int .i64 mm.2))) (go_keep) ((go_at_call 73; refine (cc _ (by first | exact Below.refl _ _ | exact below_drewN (Below.refl _ _) _)).mono ?_; rintro e wX ⟨rfl, hbX⟩; obtain ⟨⟨x0, x1⟩, ⟨q0, q1⟩⟩ := HCL.out wX hbX))
        have V3 := V2.later hbX
        have f0 := V3.frozen 0
        have f1 := V3.frozen 1
        have hB2 := hB.trans (hbX.mono hsz)
        have W1 := V1.later hbX
        clear V1 V2
        go_wp2
        have I3 : In (g + 1) (g + 1 + 1) wX ((wX.setCell ⟨g + 1, 0, none⟩ (.int .i64 x.1)).setCell ⟨g + 1, 1, none⟩ (.int .i64 x.2)) := ((In.refl _ _ wX).set1 _ _).set1 _ _
        go_roundw
        case rel => exact ⟨k + 1, x, rfl, by omega, by omega, HK2, W1.inn I3 (by omega), (V3.set 0 (.int .i64 x.1)).set 1 (.int .i64 x.2), below_in hB2 I3 (by omega) (Nat.le_of_eq HG.out.symm)⟩
        case measure => simp [intOf]; omega
      · rw [if_neg hlo] at HK2
        go_wp2
        go_region_held3 (fun w' => (w'.cell? ⟨b, o + k * 2, none⟩ = some (.int .i64 x.1) ∧ w'.cell? ⟨b, o + k * 2 + 1, none⟩ = some (.int .i64 x.2)) ∧ (w'.cell? ⟨g + 1, 0, none⟩ = some (.int .i64 mm.1) ∧ w'.cell? ⟨g + 1, 1, none⟩ = some (.int .i64 mm.2))) (go_keep) ((go_at_call 73; refine (cc _ (by first | exact Below.refl _ _ | exact below_drewN (Below.refl _ _) _)).mono ?_; rintro e wX ⟨rfl, hbX⟩; obtain ⟨⟨x0, x1⟩, ⟨q0, q1⟩⟩ := HCL.out wX hbX))
        have V3 := V2.later hbX
        have hB2 := hB.trans (hbX.mono hsz)
        have W1 := V1.later hbX
        clear V1 V2
        go_wp2
        go_roundw
        case rel => exact ⟨k + 1, mm, rfl, by omega, by omega, HK2, W1, V3, hB2⟩
        case measure => simp [intOf]; omega
    · have i1 : ¬ (k : Int) < (n : Int) := by omega
      have hR : mm = R := by
        have := HK.out
        rw [List.drop_eq_nil_of_le (by have := HN.out; omega)] at this
        exact this
      subst hR
      obtain ⟨q0, q1⟩ := V2.two
      have f0 := V1.frozen 0
      have f1 := V1.frozen 1
      obtain ⟨p0, p1⟩ := V1.two
      go_wp2
      have T9 := (V1.set 0 (.int .i64 mm.1)).set 1 (.int .i64 mm.2)
      have I9 : In g (g + 1) wr ((wr.setCell ⟨g, 0, none⟩ (.int .i64 mm.1)).setCell ⟨g, 1, none⟩ (.int .i64 mm.2)) := ((In.refl _ _ wr).set1 0 _).set1 1 _
      have t0 := T9.cell 0 (v := .int .i64 mm.1) (by simp)
      have t1 := T9.cell 1 (v := .int .i64 mm.2) (by simp)
      refine bodyPost_ret (v := .agg #[.int .i64 mm.1, .int .i64 mm.2]) (by simp [results, Tryz.results72, go_sem, t0, t1]) rfl ?_
      rw [HG.out]
      exact ⟨rfl, below_in hB I9 (Nat.le_refl _) (Nat.le_of_eq HG.out.symm)⟩
set_option maxHeartbeats 6400000 in
set_option maxRecDepth 100000 in
theorem great23_any {w : World} {b o c : Nat} {m : Int × Int} {l : List (Int × Int)} (hL : RwAt w b o (m :: l)) (hb : b < w.heap.size) (hlen : (m :: l).length ≤ 1000) :
    Calls Tryz.prog 74 #[.slice (some ⟨b, o, none⟩) (m :: l).length c, .func (.func 73) #[] #[]] w fun e w' => e = .returned (.agg #[.int .i64 (greatP m l).1, .int .i64 (greatP m l).2]) ∧ Below w.heap.size w w' := by
  obtain ⟨L, hLL⟩ : ∃ L, L = m :: l := ⟨_, rfl⟩
  have h0 := hL 0 m rfl
  rw [Nat.zero_mul, Nat.add_zero] at h0
  obtain ⟨x0, x1⟩ := h0
  rw [← hLL] at hL hlen ⊢
  have hdr : greatP m (L.drop 1) = greatP m l := by rw [hLL]; rfl
  have hn1 : 1 ≤ L.length := by rw [hLL]; simp
  clear hLL
  obtain ⟨R, hR⟩ : ∃ R, R = greatP m l := ⟨_, rfl⟩
  rw [← hR] at hdr ⊢
  clear hR
  obtain ⟨n, hn⟩ : ∃ n, n = L.length := ⟨_, rfl⟩
  rw [← hn] at hlen hn1 ⊢
  have HN : Hid (n = L.length) := hn
  have HD : Hid (greatP m (L.drop 1) = R) := hdr
  clear hn hdr
  have i0 : ¬ (n : Int) < 1 := by omega
  obtain ⟨v1, v2, hbv⟩ := pb_two' w #[.int .i64 0, .int .i64 0] #[.int .i64 m.1, .int .i64 m.2] 78 78
  have al := alloc_below (w := w) (.cells #[.int .i64 0, .int .i64 0] 78)
  have z0 := (al.cell (p := ⟨b, o, none⟩) hb).trans x0
  have z1 := (al.cell (p := ⟨b, o + 1, none⟩) hb).trans x1
  go_enter Tryz.func74, Tryz.ntmps74
  go_wp2
  clear z0 z1 x0 x1
  obtain ⟨g, hg⟩ : ∃ g, g = w.heap.size := ⟨_, rfl⟩
  have HG : Hid (w.heap.size = g) := hg.symm
  rw [← hg] at v1 v2 hbv ⊢
  have hbg : b < g := by omega
  clear hg hb al
  generalize (w.alloc (.cells #[.int .i64 0, .int .i64 0] 78)).alloc (.cells #[.int .i64 m.1, .int .i64 m.2] 78) = w0 at *
  go_loopw [6] (fun i wr => ∃ (k : Nat) (mm : Int × Int), i = .int .i64 (k : Int) ∧ 1 ≤ k ∧ k ≤ n ∧ Hid (greatP mm (L.drop k) = R) ∧ Pb wr g 78 #[.int .i64 0, .int .i64 0] ∧ Pb wr (g + 1) 78 #[.int .i64 mm.1, .int .i64 mm.2] ∧ Below g w wr) (fun i _ => n - (intOf i).toNat)
  case atStart => exact ⟨1, m, rfl, by omega, hn1, HD, v1, v2, hbv⟩
  case round =>
    obtain ⟨k, mm, rfl, hk1, hkn, HK, V1, V2, hB⟩ := hrel
    clear v1 v2 hbv HD
    by_cases hlt : k < n
    · have i1 : (k : Int) < (n : Int) := by omega
      have hk0 : (0 : Int) ≤ (k : Int) := by omega
      obtain ⟨x, hx⟩ : ∃ x, L[k]? = some x := ⟨L[k]'(by have := HN.out; omega), by simp [show k < L.length by have := HN.out; omega]⟩
      have hdr : L.drop k = x :: L.drop (k + 1) := by
        obtain ⟨hlt', e⟩ := List.getElem?_eq_some_iff.mp hx
        rw [List.drop_eq_getElem_cons hlt', e]
      have HK2 : Hid (greatP (if 0 < orP x mm then x else mm) (L.drop (k + 1)) = R) := by
        show _ = _
        have := HK.out
        rw [hdr] at this
        exact this
      have hC : ∀ w', Below g w w' → w'.cell? ⟨b, o + k * 2, none⟩ = some (.int .i64 x.1) ∧ w'.cell? ⟨b, o + k * 2 + 1, none⟩ = some (.int .i64 x.2) := fun w' h => ⟨(h.cell (p := ⟨b, o + k * 2, none⟩) hbg).trans (hL k x hx).1, (h.cell (p := ⟨b, o + k * 2 + 1, none⟩) hbg).trans (hL k x hx).2⟩
      have hsz : g ≤ wr.heap.size := by have := hB.size; rw [HG.out] at this; exact this
      have cc := fun w' (h : Below wr.heap.size wr w') => order23_at (w := w') (w0 := wr) x mm h
      obtain ⟨O, hO⟩ : ∃ O, O = orP x mm := ⟨_, rfl⟩
      rw [← hO] at cc HK2
      clear hO hx hdr HK
      obtain ⟨x0, x1⟩ := hC wr hB
      obtain ⟨q0, q1⟩ := V2.two
      have hcl : ∀ w', Below wr.heap.size wr w' → (w'.cell? ⟨b, o + k * 2, none⟩ = some (.int .i64 x.1) ∧ w'.cell? ⟨b, o + k * 2 + 1, none⟩ = some (.int .i64 x.2)) ∧ (w'.cell? ⟨g + 1, 0, none⟩ = some (.int .i64 mm.1) ∧ w'.cell? ⟨g + 1, 1, none⟩ = some (.int .i64 mm.2)) := fun w' h => ⟨hC w' (hB.trans (h.mono hsz)), (V2.later h).two⟩
      have HCL : Hid _ := hcl
      clear hC hcl
      by_cases hlo : 0 < O
      · rw [if_pos hlo] at HK2
        go_wp2
        go_region_held3 (fun w' => (w'.cell? ⟨b, o + k * 2, none⟩ = some (.int .i64 x.1) ∧ w'.cell? ⟨b, o + k * 2 + 1, none⟩ = some (.int .i64 x.2)) ∧ (w'.cell? ⟨g + 1, 0, none⟩ = some (.int .i64 mm.1) ∧ w'.cell? ⟨g + 1, 1, none⟩ = some (.int .i64 mm.2))) (go_keep) ((go_at_call 73; refine (cc _ (by first | exact Below.refl _ _ | exact below_drewN (Below.refl _ _) _)).mono ?_; rintro e wX ⟨rfl, hbX⟩; obtain ⟨⟨x0, x1⟩, ⟨q0, q1⟩⟩ := HCL.out wX hbX))
        have V3 := V2.later hbX
        have f0 := V3.frozen 0
        have f1 := V3.frozen 1
        have hB2 := hB.trans (hbX.mono hsz)
        have W1 := V1.later hbX
        clear V1 V2
        go_wp2
        have I3 : In (g + 1) (g + 1 + 1) wX ((wX.setCell ⟨g + 1, 0, none⟩ (.int .i64 x.1)).setCell ⟨g + 1, 1, none⟩ (.int .i64 x.2)) := ((In.refl _ _ wX).set1 _ _).set1 _ _
        go_roundw
        case rel => exact ⟨k + 1, x, rfl, by omega, by omega, HK2, W1.inn I3 (by omega), (V3.set 0 (.int .i64 x.1)).set 1 (.int .i64 x.2), below_in hB2 I3 (by omega) (Nat.le_of_eq HG.out.symm)⟩
        case measure => simp [intOf]; omega
      · rw [if_neg hlo] at HK2
        go_wp2
        go_region_held3 (fun w' => (w'.cell? ⟨b, o + k * 2, none⟩ = some (.int .i64 x.1) ∧ w'.cell? ⟨b, o + k * 2 + 1, none⟩ = some (.int .i64 x.2)) ∧ (w'.cell? ⟨g + 1, 0, none⟩ = some (.int .i64 mm.1) ∧ w'.cell? ⟨g + 1, 1, none⟩ = some (.int .i64 mm.2))) (go_keep) ((go_at_call 73; refine (cc _ (by first | exact Below.refl _ _ | exact below_drewN (Below.refl _ _) _)).mono ?_; rintro e wX ⟨rfl, hbX⟩; obtain ⟨⟨x0, x1⟩, ⟨q0, q1⟩⟩ := HCL.out wX hbX))
        have V3 := V2.later hbX
        have hB2 := hB.trans (hbX.mono hsz)
        have W1 := V1.later hbX
        clear V1 V2
        go_wp2
        go_roundw
        case rel => exact ⟨k + 1, mm, rfl, by omega, by omega, HK2, W1, V3, hB2⟩
        case measure => simp [intOf]; omega
    · have i1 : ¬ (k : Int) < (n : Int) := by omega
      have hR : mm = R := by
        have := HK.out
        rw [List.drop_eq_nil_of_le (by have := HN.out; omega)] at this
        exact this
      subst hR
      obtain ⟨q0, q1⟩ := V2.two
      have f0 := V1.frozen 0
      have f1 := V1.frozen 1
      obtain ⟨p0, p1⟩ := V1.two
      go_wp2
      have T9 := (V1.set 0 (.int .i64 mm.1)).set 1 (.int .i64 mm.2)
      have I9 : In g (g + 1) wr ((wr.setCell ⟨g, 0, none⟩ (.int .i64 mm.1)).setCell ⟨g, 1, none⟩ (.int .i64 mm.2)) := ((In.refl _ _ wr).set1 0 _).set1 1 _
      have t0 := T9.cell 0 (v := .int .i64 mm.1) (by simp)
      have t1 := T9.cell 1 (v := .int .i64 mm.2) (by simp)
      refine bodyPost_ret (v := .agg #[.int .i64 mm.1, .int .i64 mm.2]) (by simp [results, Tryz.results74, go_sem, t0, t1]) rfl ?_
      rw [HG.out]
      exact ⟨rfl, below_in hB I9 (Nat.le_refl _) (Nat.le_of_eq HG.out.symm)⟩
end Go.Proofs.YtienpliknhkbjaaGreatDoor

/- package seg: apart. -/
namespace Go.Proofs.YtienpliknhkbjaaGreatDoor
open Go.ChangeShapes Go.WideShapes Go.ChangeAt Go.RowKit
open Na Ar
set_option linter.unusedVariables false
set_option maxHeartbeats 3200000 in
set_option maxRecDepth 100000 in
theorem apart23_raw (a1 a2 b1 b2 c1 c2 d1 d2 : Int) (R : Bool) (HR : Hid (R = decide (b1 < c1 ∨ d1 < a1 ∨ max a2 b2 < min c2 d2 ∨ max c2 d2 < min a2 b2))) (w : World) :
    Calls Tryz.prog 69 #[.agg #[.int .i64 a1, .int .i64 a2, .int .i64 b1, .int .i64 b2], .agg #[.int .i64 c1, .int .i64 c2, .int .i64 d1, .int .i64 d2]] w fun e w' => e = .returned (.bool R) ∧ Below w.heap.size w w' := by
  obtain ⟨u1, u2, hb0⟩ := pb_two' w #[.int .i64 a1, .int .i64 a2, .int .i64 b1, .int .i64 b2] #[.int .i64 c1, .int .i64 c2, .int .i64 d1, .int .i64 d2] 80 80
  obtain ⟨x0, x1, x2, x3⟩ := u1.four
  obtain ⟨y0, y1, y2, y3⟩ := u2.four
  have HB : Hid _ := hb0
  clear u1 u2 hb0
  by_cases k1 : b1 < c1
  · have hR : R = true := by rw [HR.out]; simp [k1]
    rw [hR]
    clear hR
    go_enter Tryz.func69, Tryz.ntmps69
    go_wp2
    go_ret
    exact ⟨rfl, HB.out⟩
  · by_cases k2 : d1 < a1
    · have hR : R = true := by rw [HR.out]; simp [k2]
      rw [hR]
      clear hR
      go_enter Tryz.func69, Tryz.ntmps69
      go_wp2
      go_ret
      exact ⟨rfl, HB.out⟩
    · go_enter Tryz.func69, Tryz.ntmps69
      go_wp2
      all_goals
        go_ret
        clear x0 x1 x2 x3 y0 y1 y2 y3
        refine ⟨?_, HB.out⟩
        have hR := HR.out
        clear HR HB
        refine congrArg (fun x => Ending.returned (Value.bool x)) ?_
        show _ = R
        rw [hR, Bool.eq_iff_iff]
        simp
        omega
end Go.Proofs.YtienpliknhkbjaaGreatDoor

/- package seg: rows of places that grow; what meet reckons with. -/
namespace Go.Proofs.YtienpliknhkbjaaGreatDoor
open Go.ChangeShapes Go.WideShapes Go.ChangeAt Go.RowKit
open Na Ar
set_option linter.unusedVariables false
def plcs : List (Int × Int) → List Value
  | [] => []
  | p :: l => .int .i64 p.1 :: .int .i64 p.2 :: plcs l
theorem plcs_snoc : ∀ (l : List (Int × Int)) (p : Int × Int), plcs (l ++ [p]) = plcs l ++ [.int .i64 p.1, .int .i64 p.2]
  | [], p => rfl
  | q :: l, p => by show _ :: _ :: plcs (l ++ [p]) = _; rw [plcs_snoc l p]; rfl
theorem plcs_get : ∀ (l : List (Int × Int)) (i : Nat) (p : Int × Int), l[i]? = some p → (plcs l)[i * 2]? = some (.int .i64 p.1) ∧ (plcs l)[i * 2 + 1]? = some (.int .i64 p.2)
  | [], i, p, h => by simp at h
  | q :: l, 0, p, h => by simp at h; subst h; exact ⟨rfl, rfl⟩
  | q :: l, i + 1, p, h => by
    have := plcs_get l i p (by simpa using h)
    rw [show (i + 1) * 2 = i * 2 + 2 by omega]
    exact this
/-- places in a row of their own -/
def Rz (w : World) (base : Nat) (v : Value) (L : List (Int × Int)) : Prop := w.ownsRow base 78 2 v L.length (plcs L)
theorem Rz.nil (w : World) (base : Nat) : Rz w base (.slice none 0 0) [] := World.ownsRow_nil _ _ _ _
theorem Rz.later {w w' : World} {base : Nat} {v : Value} {L : List (Int × Int)} (h : Rz w base v L) (hb : Below w.heap.size w w') : Rz w' base v L :=
  World.ownsRow.kept (row := none) h ⟨hb.os, hb.tape, hb.output, hb.size, fun k hk _ => hb.block k hk⟩ (by cases hv : v.ownBlock <;> simp)
theorem Rz.open {w : World} {base : Nat} {v : Value} {m : Int × Int} {l : List (Int × Int)} (h : Rz w base v (m :: l)) : ∃ b c, v = .slice (some ⟨b, 0, none⟩) (m :: l).length c ∧ b < w.heap.size ∧ RwAt w b 0 (m :: l) := by
  have h' := h
  rcases h.2 with ⟨_, hn⟩ | ⟨b, cap, cur, hv, _⟩
  · simp at hn
  · have ho : v.ownBlock = some b := by rw [hv]; rfl
    refine ⟨b, cap, hv, (World.ownsRow.lt h' b ho).2, fun i p hi => ?_⟩
    have hc := World.ownsRow.cells h' ho
    obtain ⟨e1, e2⟩ := plcs_get _ i p hi
    have k1 := hc _ _ e1
    have k2 := hc _ _ e2
    have ad : ∀ j, (⟨b, 0, none⟩ : Addr).add j = ⟨b, j, none⟩ := fun j => by unfold Addr.add; split <;> simp_all
    rw [ad] at k1 k2
    rw [Nat.zero_add]
    exact ⟨k1, k2⟩
theorem Rz.slice {w : World} {base : Nat} {v : Value} {L : List (Int × Int)} (h : Rz w base v L) : ∃ a c, v = .slice a L.length c := by
  rcases h.2 with ⟨hv, hn⟩ | ⟨b, cap, cur, hv, _⟩
  · rw [hn]; exact ⟨none, 0, hv⟩
  · exact ⟨some ⟨b, 0, none⟩, cap, hv⟩
/-- what grows a row leaves all below it as it was -/
theorem grown_low {w0 W w5 : World} {B base : Nat} {v : Value} {n : Nat} {e : TypeId} {size : Nat} {xs : List Value} (hB : Below B w0 W) (hg : W.grownBy w5 v.ownBlock) (hr : W.ownsRow base e size v n xs) (hb : B ≤ base) (hBw : B ≤ W.heap.size) : Below B w0 w5 := by
  refine ⟨hg.os.trans hB.os, hg.tape.trans hB.tape, hg.output.trans hB.output, Nat.le_trans hB.size hg.size, fun k hk => ?_⟩
  rw [hg.block k (by omega) (fun e => ?_)]
  · exact hB.block k hk
  · have := World.ownsRow.lt hr k e.symm
    omega
theorem Rz.step {wV wx w' : World} {v : Value} {L : List (Int × Int)} (hB : Below wV.heap.size wV wx) (hR : Rz wx wV.heap.size v L) (hb : Below wx.heap.size wx w') : Below wV.heap.size wV w' ∧ Rz w' wV.heap.size v L := ⟨hB.trans (hb.mono hB.size), hR.later hb⟩
theorem info_pl23 : (Tryz.prog.info? 78).map (fun i => (i.zero, i.size, i.bytes)) = some (some (.agg #[.int .i64 0, .int .i64 0]), 2, 16) := by kernel_rfl
theorem info_parts23 {e : TypeId} {z : Value} {n b : Nat} (h : (Tryz.prog.info? e).map (fun i => (i.zero, i.size, i.bytes)) = some (some z, n, b)) : ∃ i, Tryz.prog.info? e = some i ∧ i.zero = some z ∧ i.size = n ∧ i.bytes = b := by
  cases hi : Tryz.prog.info? e with
  | none => rw [hi] at h; cases h
  | some i =>
    rw [hi] at h
    simp only [Option.map_some, Option.some.injEq, Prod.mk.injEq] at h
    exact ⟨i, rfl, h.1, h.2.1, h.2.2⟩
/-- a block of a meeting: six cells written over -/
theorem Pb.put6 {w : World} {g : Nat} {t : TypeId} {x0 x1 x2 x3 x4 x5 : Value} (h : Pb w g t #[x0, x1, x2, x3, x4, x5]) (a b c d e f : Value) :
    Pb ((((((w.setCell ⟨g, 0, none⟩ a).setCell ⟨g, 1, none⟩ b).setCell ⟨g, 2, none⟩ c).setCell ⟨g, 3, none⟩ d).setCell ⟨g, 4, none⟩ e).setCell ⟨g, 5, none⟩ f) g t #[a, b, c, d, e, f] := ((((((h.set 0 a).set 1 b).set 2 c).set 3 d).set 4 e).set 5 f)
theorem Pb.cells6 {w : World} {g : Nat} {t : TypeId} {x0 x1 x2 x3 x4 x5 : Value} (h : Pb w g t #[x0, x1, x2, x3, x4, x5]) : w.cell? ⟨g, 0, none⟩ = some x0 ∧ w.cell? ⟨g, 1, none⟩ = some x1 ∧ w.cell? ⟨g, 2, none⟩ = some x2 ∧ w.cell? ⟨g, 3, none⟩ = some x3 ∧ w.cell? ⟨g, 4, none⟩ = some x4 ∧ w.cell? ⟨g, 5, none⟩ = some x5 := ⟨h.cell 0 rfl, h.cell 1 rfl, h.cell 2 rfl, h.cell 3 rfl, h.cell 4 rfl, h.cell 5 rfl⟩
theorem Pb.free6 {w : World} {g : Nat} {t : TypeId} {x : Array Value} (h : Pb w g t x) : w.frozen? ⟨g, 0, none⟩ = false ∧ w.frozen? ⟨g, 1, none⟩ = false ∧ w.frozen? ⟨g, 2, none⟩ = false ∧ w.frozen? ⟨g, 3, none⟩ = false ∧ w.frozen? ⟨g, 4, none⟩ = false ∧ w.frozen? ⟨g, 5, none⟩ = false := ⟨h.frozen _, h.frozen _, h.frozen _, h.frozen _, h.frozen _, h.frozen _⟩
/-- a meeting's value -/
def mtV (M : (Int × Bool) × (Int × Int) × (Int × Int)) : Value := .agg #[.int .i64 M.1.1, .bool M.1.2, .int .u64 M.2.1.1, .int .u64 M.2.1.2, .int .u64 M.2.2.1, .int .u64 M.2.2.2]
end Go.Proofs.YtienpliknhkbjaaGreatDoor

/- package near: Rat. -/
namespace Go.Proofs.YtienpliknhkbjaaGreatDoor
open Go.ChangeShapes Go.WideShapes Go.ChangeAt Go.RowKit
open Na Ar
set_option linter.unusedVariables false
section
variable {w : World} {s : Bool} {a b : Option Addr} {n c m d : Nat} {q : Rat} {k : Nat}
set_option maxHeartbeats 3200000 in
set_option maxRecDepth 100000 in
theorem nearRat_ok {mode : Int} (h : Rt w s a n c b m d q) (z : Sz q k) (hk : k ≤ 4096) (h0 : 0 ≤ mode) (h1 : mode ≤ 4) (hG : GrVar w) :
    Calls Tryz.prog 22 #[.agg #[.bool s, .slice a n c, .slice b m d], .int .i64 mode] w fun e w' => ∃ v E, e = .returned (.tuple #[.int .u64 v, .int .i64 E]) ∧ RoundIs (scA (q.num.natAbs : Int) 0) (scB (q.den : Int) 0) false s mode v E ∧ U v ∧ Below w.heap.size w w' := by
  have t0 := st_new w (.bool s) (.slice a n c) (.slice b m d) 45
  have hb0 := alloc_below (w := w) (.cells #[.bool s, .slice a n c, .slice b m d] 45)
  obtain ⟨w0, hw0⟩ : ∃ w0, w0 = w.alloc (.cells #[.bool s, .slice a n c, .slice b m d] 45) := ⟨_, rfl⟩
  rw [← hw0] at t0 hb0
  have h' := h.later hb0
  have G0 := hG.later hb0
  have hk1 := known_yes h0 h1 w0
  have hC := check_ok h' z hk
  have ln := h'.le z
  have lm := h'.leD z
  have pD : (0 : Int) < (q.den : Int) := by have := q.den_pos; omega
  have vN := num_words (N := (q.num.natAbs : Int)) (by omega)
  have vD := num_words (N := (q.den : Int)) (by omega)
  clear h hG
  obtain ⟨g, hg⟩ : ∃ g, g = w.heap.size := ⟨_, rfl⟩
  have HB0 : Below w.heap.size w w0 := hb0
  rw [← hg] at t0
  obtain ⟨x0, x1, x2⟩ := t0.cells
  go_enter Tryz.func22, Tryz.ntmps22
  go_wp2_with fail
  rw [← hw0, ← hg]
  clear hw0 hg
  refine hk1.mono ?_
  rintro e w1 ⟨rfl, rfl⟩
  clear hk1
  go_wp2_with fail
  refine hC.mono ?_
  rintro e w1 ⟨rfl, hb1⟩
  have t1 := t0.later hb1
  have h2 := h'.later hb1
  have HB1 := HB0.trans (hb1.mono HB0.size)
  have hQ := quotient_any (mode := mode) (neg := s) h2.nu h2.de (Dg_words _) (Dg_words _) (by omega) (by omega) h0 h1 (by rw [vD]; exact pD) (G0.later hb1)
  rw [vN, vD] at hQ
  clear hC x0 x1 x2 t0 h'
  obtain ⟨x0, x1, x2⟩ := t1.cells
  go_wp2_with fail
  refine hQ.mono ?_
  rintro e w2 ⟨v, E, rfl, hr, hu, hb2⟩
  have hb9 := HB1.trans (hb2.mono HB1.size)
  clear hQ x0 x1 x2
  go_wp2
  go_ret2
  exact ⟨_, _, rfl, hr, hu, hb9⟩
end
end Go.Proofs.YtienpliknhkbjaaGreatDoor

/- package seg: placesOf. -/
namespace Go.Proofs.YtienpliknhkbjaaGreatDoor
open Go.ChangeShapes Go.WideShapes Go.ChangeAt Go.RowKit
open Na Ar
set_option linter.unusedVariables false
theorem info_place23 : (Tryz.prog.info? 78).map (fun i => (i.zero, i.size, i.bytes)) = some (some (.agg #[.int .i64 0, .int .i64 0]), 2, 16) := by kernel_rfl
theorem under_place23 : Tryz.prog.underlying 73 = some (.slice 78) := by kernel_rfl
theorem make23 (w : World) (n : Nat) (hn : n ≤ 1000000) : ∃ cs, cs.size = n * 2 ∧ (Instr.makeSlice 73 (.int .i64 (n : Int)) (.int .i64 (n : Int))).run Tryz.prog w = .ok (.slice (some ⟨w.heap.size, 0, none⟩) n n) (w.alloc (.cells cs 78)) := by
  cases hi : Tryz.prog.info? 78 with
  | none => have h := info_place23; rw [hi] at h; cases h
  | some i =>
    have h := info_place23
    rw [hi] at h
    simp only [Option.map_some, Option.some.injEq, Prod.mk.injEq] at h
    obtain ⟨h1, h2, h3⟩ := h
    have hr := run_make (P := Tryz.prog) w 73 78 i _ under_place23 hi h1 .i64 .i64 (n : Int) (n : Int) (by omega) (by omega) (by rw [h3]; omega) (by omega)
    refine ⟨_, ?_, by simpa using hr⟩
    rw [size_madeCells, h2]
/-- the place number t of a block of places -/
def PcAt (cs : Array Value) (t : Nat) (p : Int × Int) : Prop := cs[t * 2]? = some (.int .i64 p.1) ∧ cs[t * 2 + 1]? = some (.int .i64 p.2)
/-- the place of a point -/
def rkP (p : Int × Int) : Int × Int := (rk0 p.1, rk0 p.2)
theorem rkP_ok {p : Int × Int} (hu : U2 p) (hf : fin2 p) : pOk (rkP p) := ⟨rk_ok hu.1 hf.1, rk_ok hu.2 hf.2⟩
theorem two_at {w : World} {g : Nat} {t : TypeId} {cs : Array Value} (h : Pb w g t cs) (i : Nat) (hi : i + 1 < cs.size) : (∃ v, w.cell? ⟨g, i, none⟩ = some v) ∧ (∃ v, w.cell? ⟨g, i + 1, none⟩ = some v) ∧ w.frozen? ⟨g, i, none⟩ = false ∧ w.frozen? ⟨g, i + 1, none⟩ = false :=
  ⟨⟨cs[i], h.cell i (by simp [show i < cs.size by omega])⟩, ⟨cs[i + 1], h.cell (i + 1) (by simp [show i + 1 < cs.size by omega])⟩, h.frozen _, h.frozen _⟩
theorem pc_set {cs : Array Value} {T k : Nat} {x y : Int} (hk : k = T * 2) (hT : k + 1 < cs.size) : PcAt ((cs.setIfInBounds k (.int .i64 x)).setIfInBounds (k + 1) (.int .i64 y)) T (x, y) ∧ ∀ t p, t ≠ T → PcAt cs t p → PcAt ((cs.setIfInBounds k (.int .i64 x)).setIfInBounds (k + 1) (.int .i64 y)) t p := by
  subst hk
  refine ⟨⟨?_, ?_⟩, ?_⟩
  · simp [show T * 2 < cs.size by omega]
  · simp [show T * 2 + 1 < cs.size by omega]
  · rintro t p ht ⟨e1, e2⟩
    refine ⟨?_, ?_⟩
    · rw [Array.getElem?_setIfInBounds_ne (by omega), Array.getElem?_setIfInBounds_ne (by omega)]; exact e1
    · rw [Array.getElem?_setIfInBounds_ne (by omega), Array.getElem?_setIfInBounds_ne (by omega)]; exact e2
/-- what placesOf answers -/
def PlQ (w : World) (n : Nat) (P : Nat → Int × Int) (e : Ending) (w' : World) : Prop :=
  ((∀ i, i < n → fin2 (P i)) ∧ ∃ o cs, e = .returned (.tuple #[.slice (some ⟨o, 0, none⟩) n n, .int .i64 0]) ∧ Pb w' o 78 cs ∧ w.heap.size ≤ o ∧ cs.size = n * 2 ∧ (∀ i, i < n → PcAt cs i (rkP (P i))) ∧ Below w.heap.size w w') ∨
  ((∃ i, i < n ∧ ¬ fin2 (P i)) ∧ e = .returned (.tuple #[.slice none 0 0, .int .i64 220]) ∧ Below w.heap.size w w')
set_option maxHeartbeats 6400000 in
set_option maxRecDepth 100000 in
theorem places23_any {w : World} {g n c : Nat} {P : Nat → Int × Int} (hP : PtAt w g 0 P n) (hg : g < w.heap.size) (hn : n ≤ 1000000) :
    Calls Tryz.prog 34 #[.slice (some ⟨g, 0, none⟩) n c] w fun e w' => PlQ w n P e w' := by
  obtain ⟨cs0, hcs0, hmk⟩ := make23 w n hn
  have hb0 := alloc_below (w := w) (.cells cs0 78)
  have p0 := Pb.new w 78 cs0
  obtain ⟨o, ho⟩ : ∃ o, o = w.heap.size := ⟨_, rfl⟩
  have HO : Hid (w.heap.size = o) := ho.symm
  rw [← ho] at hmk p0
  clear ho
  go_enter Tryz.func34, Tryz.ntmps34
  go_wp2
  clear hmk
  generalize w.alloc (.cells cs0 78) = w0 at *
  go_loopw [16] (fun i wr => ∃ (j : Nat) (cs : Array Value), j ≤ n ∧ i = .int .i64 j ∧ Pb wr o 78 cs ∧ cs.size = n * 2 ∧ (∀ t, t < j → fin2 (P t) ∧ PcAt cs t (rkP (P t))) ∧ Below w.heap.size w wr) (fun i _ => n - (intOf i).toNat)
  case atStart => exact ⟨0, cs0, Nat.zero_le _, rfl, p0, hcs0, fun t ht => absurd ht (by omega), hb0⟩
  case round =>
    obtain ⟨j, cs, hj, rfl, hPb, hcs, hT, hB⟩ := hrel
    clear p0 hb0
    by_cases hlt : j < n
    · have i1 : (j : Int) < (n : Int) := by omega
      have hi0 : (0 : Int) ≤ (j : Int) := by omega
      obtain ⟨x0, x1, ux, uy⟩ := hP j hlt
      simp only [Nat.zero_add] at x0 x1
      have X0 := (hB.cell (p := ⟨g, j * 2, none⟩) hg).trans x0
      have X1 := (hB.cell (p := ⟨g, j * 2 + 1, none⟩) hg).trans x1
      have HX : Hid (P j = ((P j).1, (P j).2)) := rfl
      clear x0 x1
      generalize (P j).1 = x at *
      generalize (P j).2 = y at *
      have al := alloc_below (w := wr) (.cells #[.int .u64 x, .int .u64 y] 24)
      have ob := hPb.lt
      have oH := HO.out
      have wo : w.heap.size ≤ o := by rw [oH]; exact Nat.le_refl _
      clear oH
      have hBs := hB.size
      have P1 := hPb.later al
      have B1 := hB.trans (al.mono hBs)
      obtain ⟨nb0, nb1⟩ := (Pb.new wr 24 #[.int .u64 x, .int .u64 y]).two
      have r1 := f6Rank_any ux
      have r2 := f6Rank_any uy
      by_cases fx : ef x = 2047
      · have Fx : Hid (¬ fin2 (P j)) := fun h => by rw [HX.out] at h; exact h.1 fx
        rw [fiE_inf fx] at r1
        go_wp2_with fail
        generalize wr.alloc (.cells #[.int .u64 x, .int .u64 y] 24) = w1 at *
        clear X0 X1
        refine (r1 _).mono ?_
        rintro e wX ⟨rfl, rfl⟩
        go_wp2_with fail
        refine (r2 _).mono ?_
        rintro e wX ⟨rfl, rfl⟩
        go_wp2
        go_ret2
        exact Or.inr ⟨⟨j, hlt, Fx.out⟩, rfl, B1⟩
      · rw [fiE_fin fx, rkW_fin fx] at r1
        by_cases fy : ef y = 2047
        · have Fx : Hid (¬ fin2 (P j)) := fun h => by rw [HX.out] at h; exact h.2 fy
          rw [fiE_inf fy] at r2
          go_wp2_with fail
          generalize wr.alloc (.cells #[.int .u64 x, .int .u64 y] 24) = w1 at *
          clear X0 X1
          refine (r1 _).mono ?_
          rintro e wX ⟨rfl, rfl⟩
          go_wp2_with fail
          refine (r2 _).mono ?_
          rintro e wX ⟨rfl, rfl⟩
          go_wp2
          go_ret2
          exact Or.inr ⟨⟨j, hlt, Fx.out⟩, rfl, B1⟩
        · rw [fiE_fin fy, rkW_fin fy] at r2
          have Fx : Hid (fin2 (P j)) := by show fin2 (P j); rw [HX.out]; exact ⟨fx, fy⟩
          have HY : Hid (rkP (P j) = (rk0 x, rk0 y)) := by show rkP (P j) = _; rw [HX.out]; rfl
          generalize rk0 x = rx at *
          generalize rk0 y = ry at *
          obtain ⟨⟨c0, k0⟩, ⟨c1, k1⟩, f0, f1⟩ := two_at P1 (j * 2) (by omega)
          go_wp2_with fail
          generalize wr.alloc (.cells #[.int .u64 x, .int .u64 y] 24) = w1 at *
          clear X0 X1
          refine (r1 _).mono ?_
          rintro e wX ⟨rfl, rfl⟩
          go_wp2_with fail
          refine (r2 _).mono ?_
          rintro e wX ⟨rfl, rfl⟩
          go_wp2
          obtain ⟨q1, q2⟩ := pc_set (x := rx) (y := ry) (rfl : j * 2 = j * 2) (show j * 2 + 1 < cs.size by omega)
          have P2 := (P1.set (j * 2) (.int .i64 rx)).set (j * 2 + 1) (.int .i64 ry)
          have I2 : In o (o + 1) w1 ((w1.setCell ⟨o, j * 2, none⟩ (.int .i64 rx)).setCell ⟨o, j * 2 + 1, none⟩ (.int .i64 ry)) := ((In.refl o (o + 1) w1).set1 _ _).set1 _ _
          go_roundw
          case rel =>
            refine ⟨j + 1, _, by omega, rfl, P2, by simpa using hcs, fun t ht => ?_, below_in B1 I2 wo (Nat.le_refl _)⟩
            by_cases e : t = j
            · subst e; rw [HY.out]; exact ⟨Fx.out, q1⟩
            · exact ⟨(hT t (by omega)).1, q2 t _ e (hT t (by omega)).2⟩
          case measure => simp [intOf]; omega
    · have i1 : ¬ (j : Int) < (n : Int) := by omega
      have HJ : Hid (j = n) := by show j = n; omega
      go_wp2
      go_ret2
      have e := HJ.out
      subst e
      exact Or.inl ⟨fun i hi => (hT i hi).1, o, cs, rfl, hPb, Nat.le_of_eq HO.out, hcs, fun i hi => (hT i hi).2, hB⟩
end Go.Proofs.YtienpliknhkbjaaGreatDoor

/- NearBack. -/
namespace Go.Proofs.YtienpliknhkbjaaGreatDoor
open Go.ChangeShapes Go.WideShapes Go.ChangeAt Go.RowKit
open Na Ar
set_option linter.unusedVariables false
namespace Na
theorem ordR_self (p : Rat) : ordR p p = 0 := by
  unfold ordR
  rw [if_neg Rat.lt_irrefl, if_pos rfl]
theorem valR_neg {b : Int} (h : U b) (hf : ef b ≠ 2047) : valR b + valR (negW b) = ((0 : Int) : Rat) := by
  have e1 : spM (negW b) = spM b := by unfold spM; rw [ef_negW h, fr_negW h]
  have e3 : spX (negW b) = spX b := by unfold spX; rw [ef_negW h]
  have e4 : spS (negW b) = !spS b := by
    unfold spS; rw [ef_negW h, if_neg hf, if_neg hf]
    unfold U at h
    unfold negW
    rw [Bool.eq_iff_iff]
    simp
    split <;> omega
  unfold valR
  rw [e1, e3, e4]
  unfold mkR
  have s : sg (!spS b) (spM b * e2 (spX b)) = -(sg (spS b) (spM b * e2 (spX b))) := by
    unfold sg
    cases spS b <;> simp
  rw [s, ← Rat.neg_mkRat, Rat.add_neg_cancel]
  rfl
theorem fin_size {b : Int} (h : U b) (hf : ef b ≠ 2047) : 0 ≤ mg b ∧ mg b ≤ mostP ∧ numW (mg b) = numW b := by
  have b1 := mg_bd b
  have b2 := mg_parts b
  have b3 := ef_bd b
  have b4 := fr_bd b
  have l : mg b ≤ mostP := by unfold mostP; omega
  obtain ⟨u1, f1, m1⟩ := size_fin b1.1 l
  exact ⟨b1.1, l, (num_ord u1 h f1 hf).2 m1⟩
theorem want_is {b : Int} (h : U b) (hf : ef b ≠ 2047) : mg b + sgB (decide ((valR b).num < 0)) = wantB b := by
  obtain ⟨p, e1, e2', e3, e4, e5, e6, e7⟩ := num_parts h hf
  have pp := pat_parts h hf
  by_cases hz : spM b = 0
  · have q : valR b = ((0 : Int) : Rat) := by rw [binQ_val, hz, binQ_zero]
    have hm : mg b = 0 := by omega
    rw [q, hm]
    unfold wantB
    unfold mg at hm
    unfold U at h
    show (0 : Int) + 0 = _
    split <;> omega
  · obtain ⟨K, o, hmo, ho2, ho0, hzn, hdv⟩ := two_form (M := spM b) (by omega)
    have q : valR b = binQ (spS b) o (spX b + K) := by rw [binQ_val, hmo]; exact binQ_move _ (by omega) K _
    obtain ⟨a1, a2, a3⟩ := binQ_odd ho2 ho0 (spS b) (spX b + K)
    rw [q, a3]
    unfold wantB
    rw [if_neg]
    · omega
    · intro r
      have : mg b = 0 := by rw [r]; rfl
      omega
theorem round_val {b v E mode : Int} {s : Bool} (h : U b) (hf : ef b ≠ 2047) (hs : s = decide ((valR b).num < 0)) (hr : RoundIs (scA ((valR b).num.natAbs : Int) 0) (scB ((valR b).den : Int) 0) false s mode v E) : v = wantB b ∧ E = 0 := by
  obtain ⟨f1, f2, f3⟩ := fin_size h hf
  have pD : (0 : Int) < ((valR b).den : Int) := by have := (valR b).den_pos; omega
  have pB : 0 < scB ((valR b).den : Int) 0 := by unfold scB; exact Int.mul_pos pD (e2_pos _)
  have eq : scA ((valR b).num.natAbs : Int) 0 = numW (mg b) * scB ((valR b).den : Int) 0 := by
    rw [f3]
    unfold scA scB
    rw [e2_zero (show -(0 + 1074 : Int) ≤ 0 by omega), Int.mul_one, Int.zero_add]
    have nn : 0 ≤ numW b := by rw [← f3]; exact num_nonneg' f1 f2
    have p1 := e2_pos 1074
    have c := mkR_cross (spS b) nn p1
    rw [← valR_num h hf] at c
    have c2 := congrArg (fun z : Int => (z.natAbs : Int)) c
    simp only [Int.natAbs_mul, Int.natCast_mul] at c2
    rw [sg_abs _ nn] at c2
    have q1 : ((e2 1074).natAbs : Int) = e2 1074 := by omega
    rw [q1] at c2
    rw [c2]
    simp
  have rs := round_self (neg := s) (mode := mode) pB f1 f2 eq
  have u := roundIs_uniq pB hr rs
  rw [u.1, hs, want_is h hf]
  exact ⟨rfl, u.2⟩
end Na
end Go.Proofs.YtienpliknhkbjaaGreatDoor

