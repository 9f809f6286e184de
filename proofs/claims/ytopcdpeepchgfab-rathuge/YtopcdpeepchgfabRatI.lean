/- package rat: Add, Mul, Div, Cmp where a product is too long: the panic, and what is deferred. -/
import Derived.Test.YtopcdpeepchgfabRatH
import Derived.OrdersHeld
namespace Go.Proofs.Ytopcdpeepchgfab
open Go.ChangeShapes Go.WideShapes Go.ChangeAt Go.RowKit
open Na Ar
set_option linter.unusedVariables false
theorem leaves_tmps {P : Program} {fn : Func} {R : Ending → World → Prop} {tmps tmps' : Array Value} (h : results fn tmps' = results fn tmps) : ∀ (ds : List Deferred) (u : FrameMode) (w : World), Leaves P fn tmps R ds u w → Leaves P fn tmps' R ds u w := by
  intro ds
  induction ds with
  | nil =>
    intro u w hl
    cases u with
    | run => exact hl
    | returning =>
      obtain ⟨v, hr, hR⟩ := hl
      exact ⟨v, by rw [h]; exact hr, hR⟩
    | panicking c => exact hl
  | cons d ds ih =>
    intro u w hl
    obtain ⟨hu, fv, cap, f, args, ht, hi, hc⟩ := hl
    refine ⟨hu, fv, cap, f, args, ht, hi, hc.mono fun e u' w' he => ?_⟩
    cases e with
    | returned v => exact ih _ _ he
    | panicked c => exact ih _ _ he
    | outgrown => exact he
theorem getD_put (tmps : Array Value) (d : Nat) (v : Value) (t : Nat) (h : t ≠ d) : (tmps.setIfInBounds d v).getD t undef = tmps.getD t undef := by
  simp [Array.getD_eq_getD_getElem?, Array.getElem?_setIfInBounds_ne (Ne.symm h)]
theorem takeD {P : Program} {ops : Array Oper} {Q : Exit → Act → World → Prop} {S : World → Prop} {i d : Nat} {oi : Oper} {v : Value} {fuel : Nat} {listed : Array Bool} {a : Act} {w : World} (hi : ops[i]? = some oi) (hd : oi.dst = some d)
    (hs : Region.noSelect ops = true) (hf : Region.free .any ops listed i = true) (hr : (Region.ready .any ops listed).contains i = true)
    (hQ : ∀ c a w, Q (.panic c) (a.put (some d) v) w → Q (.panic c) a w) (hy : YieldsIf P ops S oi v a) (hS : S w)
    (h : wpAnyH P .any ops Q S fuel (listed.setIfInBounds i true) (a.put (some d) v) w) : wpAnyH P .any ops Q S (fuel + 1) listed a w :=
  wpAnyH_take hi hs hf hr (by rw [hd]; exact hQ) hy hS (by rw [hd]; exact h)
theorem wpOp_panics {P : Program} {ops : Array Oper} {Q : Exit → Act → World → Prop} {K : Act → World → Prop} {i : Nat} {o : Oper} {f : FuncId} {args : Array Value} {a : Act} {w : World} (hi : ops[i]? = some o) (hw : Region.wanted o (yielded ops a.tmps) = true)
    (hx : (execOp a.eval o).run P w = .ok (.enter f args) w) (h : Calls P f args w fun e w' => ∃ c, e = .panicked c ∧ Q (.panic c) a w') : wpOp P ops Q i K a w := by
  unfold wpOp
  simp only [hi, hw, if_true]
  left
  unfold Oper.wp
  rw [hx]
  simp only [Oper.upon]
  refine h.mono ?_
  rintro e w' ⟨c, rfl, hq⟩
  exact hq
section
variable {w : World} {s1 s2 : Bool} {a1 b1 a2 b2 : Option Addr} {n1 c1 m1 d1 n2 c2 m2 d2 : Nat} {p q : Rat} {k l : Nat}
theorem panic_putMul {R : Ending → World → Prop} {d : Nat} {v : Value} (h4 : d ≠ 4) (h5 : d ≠ 5) (c : List PanicEntry) (a : Act) (w : World) (h : bodyPostD Try.prog Try.f40 R (.panic c) (a.put (some d) v) w) : bodyPostD Try.prog Try.f40 R (.panic c) a w := by
  refine leaves_tmps (tmps := a.tmps.setIfInBounds d v) ?_ _ _ _ h
  have e4 : (a.tmps.setIfInBounds d v)[4]? = a.tmps[4]? := Array.getElem?_setIfInBounds_ne h4
  have e5 : (a.tmps.setIfInBounds d v)[5]? = a.tmps[5]? := Array.getElem?_setIfInBounds_ne h5
  unfold results
  rw [Try.results40]
  simp [e4, e5]
theorem panic_putDiv {R : Ending → World → Prop} {d : Nat} {v : Value} (h4 : d ≠ 4) (h5 : d ≠ 5) (c : List PanicEntry) (a : Act) (w : World) (h : bodyPostD Try.prog Try.f41 R (.panic c) (a.put (some d) v) w) : bodyPostD Try.prog Try.f41 R (.panic c) a w := by
  refine leaves_tmps (tmps := a.tmps.setIfInBounds d v) ?_ _ _ _ h
  have e4 : (a.tmps.setIfInBounds d v)[4]? = a.tmps[4]? := Array.getElem?_setIfInBounds_ne h4
  have e5 : (a.tmps.setIfInBounds d v)[5]? = a.tmps[5]? := Array.getElem?_setIfInBounds_ne h5
  unfold results
  rw [Try.results41]
  simp [e4, e5]
theorem panic_putCmp {R : Ending → World → Prop} {d : Nat} {v : Value} (h4 : d ≠ 4) (h5 : d ≠ 5) (c : List PanicEntry) (a : Act) (w : World) (h : bodyPostD Try.prog Try.f43 R (.panic c) (a.put (some d) v) w) : bodyPostD Try.prog Try.f43 R (.panic c) a w := by
  refine leaves_tmps (tmps := a.tmps.setIfInBounds d v) ?_ _ _ _ h
  have e4 : (a.tmps.setIfInBounds d v)[4]? = a.tmps[4]? := Array.getElem?_setIfInBounds_ne h4
  have e5 : (a.tmps.setIfInBounds d v)[5]? = a.tmps[5]? := Array.getElem?_setIfInBounds_ne h5
  unfold results
  rw [Try.results43]
  simp [e4, e5]
set_option maxHeartbeats 1200000 in
set_option maxRecDepth 100000 in
theorem rMul_long (h1 : Rt w s1 a1 n1 c1 b1 m1 d1 p) (h2 : Rt w s2 a2 n2 c2 b2 m2 d2 q) (z1 : Sz p k) (z2 : Sz q l) (hk : k ≤ 4096) (hl : l ≤ 4096) (hL : 4096 < (words ((p.num.natAbs : Int) * (q.num.natAbs : Int))).length) :
    Calls Try.prog 40 #[.agg #[.bool s1, .slice a1 n1 c1, .slice b1 m1 d1], .agg #[.bool s2, .slice a2 n2 c2, .slice b2 m2 d2]] w fun e w' => e = .returned (.tuple #[.agg #[.bool false, .slice none 0 0, .slice none 0 0], .int .i64 21]) ∧ Below w.heap.size w w' := by
  have hmf : ∀ (fn : Fn) (first cap : Array Value) (w : World), (Instr.makeFunc fn first cap).run Try.prog w = .ok (.func fn first cap) w := fun _ _ _ _ => rfl
  obtain ⟨t1, t2, t3, t4, hb0, e0⟩ := st_four w (.bool s1) (.slice a1 n1 c1) (.slice b1 m1 d1) (.bool s2) (.slice a2 n2 c2) (.slice b2 m2 d2)
  obtain ⟨w0, hw0⟩ : ∃ w0, w0 = (((w.alloc (.cells #[.bool s1, .slice a1 n1 c1, .slice b1 m1 d1] 47)).alloc (.cells #[.bool s2, .slice a2 n2 c2, .slice b2 m2 d2] 47)).alloc (.cells #[.bool false, .slice none 0 0, .slice none 0 0] 47)).alloc (.cells #[.int .i64 0] 28) := ⟨_, rfl⟩
  rw [← hw0] at t1 t2 t3 t4 hb0 e0
  have r1 := h1.later hb0
  have r2 := h2.later hb0
  obtain ⟨g, hg⟩ : ∃ g, g = w.heap.size := ⟨_, rfl⟩
  have HG : Hid (w.heap.size = g) := hg.symm
  rw [← hg] at t1 t2 t3 t4 hb0 e0
  have HS : g ≤ w0.heap.size := by rw [hg]; exact hb0.size
  go_enter_defers Try.func40, Try.ntmps40
  go_wp2_with fail
  rw [← hw0, ← hg]
  refine (areRats_ok r1 r2 z1 z2 (by omega) (by omega)).mono ?_
  rintro e wA ⟨rfl, hbA⟩
  have r1A := r1.later hbA
  have r2A := r2.later hbA
  have t1A := t1.later hbA
  have t2A := t2.later hbA
  have t3A := t3.later hbA
  have t4A := t4.later hbA
  have HA := hb0.trans (hbA.mono HS)
  have HAs : w0.heap.size ≤ wA.heap.size := hbA.size
  clear hw0 hg t1 t2 t3 t4 r1 r2 hbA hb0 h1 h2
  obtain ⟨x0, x1, x2⟩ := t1A.cells
  obtain ⟨y0, y1, y2⟩ := t2A.cells
  have f1 := fun w1 (h : Below wA.heap.size wA w1) => times_long (r1A.nu.later h) (r2A.nu.later h) (nm_abs z1 (by omega)) (nm_abs z2 (by omega)) hL
  have hS : (fun w9 => w9.cell? ⟨g, 0, none⟩ = some (.bool s1) ∧ w9.cell? ⟨g, 1, none⟩ = some (.slice a1 n1 c1) ∧ w9.cell? ⟨g, 2, none⟩ = some (.slice b1 m1 d1) ∧ w9.cell? ⟨g + 1, 0, none⟩ = some (.bool s2) ∧ w9.cell? ⟨g + 1, 1, none⟩ = some (.slice a2 n2 c2) ∧ w9.cell? ⟨g + 1, 2, none⟩ = some (.slice b2 m2 d2)) wA.drew := ⟨x0, x1, x2, y0, y1, y2⟩
  clear r1A r2A z1 z2 hL
  go_wp2
  refine wp_region_held (S := (fun w9 => w9.cell? ⟨g, 0, none⟩ = some (.bool s1) ∧ w9.cell? ⟨g, 1, none⟩ = some (.slice a1 n1 c1) ∧ w9.cell? ⟨g, 2, none⟩ = some (.slice b1 m1 d1) ∧ w9.cell? ⟨g + 1, 0, none⟩ = some (.bool s2) ∧ w9.cell? ⟨g + 1, 1, none⟩ = some (.slice a2 n2 c2) ∧ w9.cell? ⟨g + 1, 2, none⟩ = some (.slice b2 m2 d2))) mixed ?_
  refine takeD (i := 0) (d := 12) (v := .pointer (some ⟨g, 0, none⟩)) rfl rfl (by kernel_rfl) (by kernel_rfl) (by kernel_rfl) (panic_putMul (by decide) (by decide)) (Or.inl ⟨by rfl, ?_⟩) hS ?_
  · intro w9 hSw
    obtain ⟨k0, k1, k2, k3, k4, k5⟩ := hSw
    go_simp
  simp only [Act.put, List.setIfInBounds_toArray, List.set_cons_zero, List.set_cons_succ]
  refine takeD (i := 1) (d := 13) (v := .bool s1) rfl rfl (by kernel_rfl) (by kernel_rfl) (by kernel_rfl) (panic_putMul (by decide) (by decide)) (Or.inl ⟨by rfl, ?_⟩) hS ?_
  · intro w9 hSw
    obtain ⟨k0, k1, k2, k3, k4, k5⟩ := hSw
    go_simp
  simp only [Act.put, List.setIfInBounds_toArray, List.set_cons_zero, List.set_cons_succ]
  refine takeD (i := 2) (d := 14) (v := .pointer (some ⟨g + 1, 0, none⟩)) rfl rfl (by kernel_rfl) (by kernel_rfl) (by kernel_rfl) (panic_putMul (by decide) (by decide)) (Or.inl ⟨by rfl, ?_⟩) hS ?_
  · intro w9 hSw
    obtain ⟨k0, k1, k2, k3, k4, k5⟩ := hSw
    go_simp
  simp only [Act.put, List.setIfInBounds_toArray, List.set_cons_zero, List.set_cons_succ]
  refine takeD (i := 3) (d := 15) (v := .bool s2) rfl rfl (by kernel_rfl) (by kernel_rfl) (by kernel_rfl) (panic_putMul (by decide) (by decide)) (Or.inl ⟨by rfl, ?_⟩) hS ?_
  · intro w9 hSw
    obtain ⟨k0, k1, k2, k3, k4, k5⟩ := hSw
    go_simp
  simp only [Act.put, List.setIfInBounds_toArray, List.set_cons_zero, List.set_cons_succ]
  refine takeD (i := 4) (d := 16) (v := .bool (!(s1 == s2))) rfl rfl (by kernel_rfl) (by kernel_rfl) (by kernel_rfl) (panic_putMul (by decide) (by decide)) (Or.inl ⟨by rfl, ?_⟩) hS ?_
  · intro w9 hSw
    obtain ⟨k0, k1, k2, k3, k4, k5⟩ := hSw
    go_simp
  simp only [Act.put, List.setIfInBounds_toArray, List.set_cons_zero, List.set_cons_succ]
  refine takeD (i := 5) (d := 17) (v := .pointer (some ⟨g, 1, none⟩)) rfl rfl (by kernel_rfl) (by kernel_rfl) (by kernel_rfl) (panic_putMul (by decide) (by decide)) (Or.inl ⟨by rfl, ?_⟩) hS ?_
  · intro w9 hSw
    obtain ⟨k0, k1, k2, k3, k4, k5⟩ := hSw
    go_simp
  simp only [Act.put, List.setIfInBounds_toArray, List.set_cons_zero, List.set_cons_succ]
  refine takeD (i := 6) (d := 18) (v := .slice a1 n1 c1) rfl rfl (by kernel_rfl) (by kernel_rfl) (by kernel_rfl) (panic_putMul (by decide) (by decide)) (Or.inl ⟨by rfl, ?_⟩) hS ?_
  · intro w9 hSw
    obtain ⟨k0, k1, k2, k3, k4, k5⟩ := hSw
    go_simp
  simp only [Act.put, List.setIfInBounds_toArray, List.set_cons_zero, List.set_cons_succ]
  refine takeD (i := 7) (d := 19) (v := .pointer (some ⟨g + 1, 1, none⟩)) rfl rfl (by kernel_rfl) (by kernel_rfl) (by kernel_rfl) (panic_putMul (by decide) (by decide)) (Or.inl ⟨by rfl, ?_⟩) hS ?_
  · intro w9 hSw
    obtain ⟨k0, k1, k2, k3, k4, k5⟩ := hSw
    go_simp
  simp only [Act.put, List.setIfInBounds_toArray, List.set_cons_zero, List.set_cons_succ]
  refine takeD (i := 8) (d := 20) (v := .slice a2 n2 c2) rfl rfl (by kernel_rfl) (by kernel_rfl) (by kernel_rfl) (panic_putMul (by decide) (by decide)) (Or.inl ⟨by rfl, ?_⟩) hS ?_
  · intro w9 hSw
    obtain ⟨k0, k1, k2, k3, k4, k5⟩ := hSw
    go_simp
  simp only [Act.put, List.setIfInBounds_toArray, List.set_cons_zero, List.set_cons_succ]
  refine takeD (i := 10) (d := 22) (v := .pointer (some ⟨g, 2, none⟩)) rfl rfl (by kernel_rfl) (by kernel_rfl) (by kernel_rfl) (panic_putMul (by decide) (by decide)) (Or.inl ⟨by rfl, ?_⟩) hS ?_
  · intro w9 hSw
    obtain ⟨k0, k1, k2, k3, k4, k5⟩ := hSw
    go_simp
  simp only [Act.put, List.setIfInBounds_toArray, List.set_cons_zero, List.set_cons_succ]
  refine takeD (i := 11) (d := 23) (v := .slice b1 m1 d1) rfl rfl (by kernel_rfl) (by kernel_rfl) (by kernel_rfl) (panic_putMul (by decide) (by decide)) (Or.inl ⟨by rfl, ?_⟩) hS ?_
  · intro w9 hSw
    obtain ⟨k0, k1, k2, k3, k4, k5⟩ := hSw
    go_simp
  simp only [Act.put, List.setIfInBounds_toArray, List.set_cons_zero, List.set_cons_succ]
  refine takeD (i := 12) (d := 24) (v := .pointer (some ⟨g + 1, 2, none⟩)) rfl rfl (by kernel_rfl) (by kernel_rfl) (by kernel_rfl) (panic_putMul (by decide) (by decide)) (Or.inl ⟨by rfl, ?_⟩) hS ?_
  · intro w9 hSw
    obtain ⟨k0, k1, k2, k3, k4, k5⟩ := hSw
    go_simp
  simp only [Act.put, List.setIfInBounds_toArray, List.set_cons_zero, List.set_cons_succ]
  refine takeD (i := 13) (d := 25) (v := .slice b2 m2 d2) rfl rfl (by kernel_rfl) (by kernel_rfl) (by kernel_rfl) (panic_putMul (by decide) (by decide)) (Or.inl ⟨by rfl, ?_⟩) hS ?_
  · intro w9 hSw
    obtain ⟨k0, k1, k2, k3, k4, k5⟩ := hSw
    go_simp
  simp only [Act.put, List.setIfInBounds_toArray, List.set_cons_zero, List.set_cons_succ]
  refine wpAnyH_all (rs := [9]) (by kernel_rfl) (by simp) fun i hi => ?_
  obtain rfl : i = 9 := by simpa using hi
  refine wpOp_panics rfl rfl (f := 80) (args := #[.slice a1 n1 c1, .slice a2 n2 c2]) (by go_simp) ?_
  refine (f1 _ (below_drewN (Below.refl _ _) 1)).mono ?_
  rintro e wB ⟨rfl, hbB⟩
  refine ⟨_, rfl, ?_⟩
  have hBB : Below wA.heap.size wA wB := (below_drewN (Below.refl _ _) 1).trans hbB
  have t3B := t3A.later hBB
  have t4B := t4A.later hBB
  have HBB := HA.trans (hBB.mono (by omega))
  have sB := t4A.lt
  refine leaves_cons (f := 77) (args := #[.pointer (some ⟨g + 1 + 1 + 1, 0, none⟩)]) (by simp) (by simp [go_sem]) ?_
  refine (catchMul (g + 1 + 1 + 1) 0 _ t4B.cell t4B.frozen).mono ?_
  rintro e u' w'' ⟨rfl, rfl, rfl⟩
  have t3D := (t3B.inn (in1 _ (g + 1 + 1 + 1) (.int .i64 21)) (by omega)).drew
  have t4D := (t4B.set (.int .i64 21)).drew
  have HD := below_in (below_in HBB (in1 _ (g + 1 + 1 + 1) (.int .i64 21)) (by omega) (by rw [HG.out]; exact Nat.le_refl _)) (in_drew (g + 1 + 1 + 1) _) (by omega) (by rw [HG.out]; exact Nat.le_refl _)
  clear t3B t4B HBB
  generalize ((wB.setCell ⟨g + 1 + 1 + 1, 0, none⟩ (.int .i64 21)).drew) = wD at *
  obtain ⟨u0, u1, u2⟩ := t3D.cells
  have o0 := t4D.cell
  refine ⟨.tuple #[.agg #[.bool false, .slice none 0 0, .slice none 0 0], .int .i64 21], by simp [results, Try.results40, go_sem, u0, u1, u2, o0], ?_⟩
  rw [HG.out]
  exact ⟨rfl, HD⟩
set_option maxHeartbeats 12800000 in
set_option maxRecDepth 100000 in
theorem rDiv_long (h1 : Rt w s1 a1 n1 c1 b1 m1 d1 p) (h2 : Rt w s2 a2 n2 c2 b2 m2 d2 q) (z1 : Sz p k) (z2 : Sz q l) (hk : k ≤ 4096) (hl : l ≤ 4096) (hL : 4096 < (words ((p.num.natAbs : Int) * (q.den : Int))).length) (hq : q ≠ 0) :
    Calls Try.prog 41 #[.agg #[.bool s1, .slice a1 n1 c1, .slice b1 m1 d1], .agg #[.bool s2, .slice a2 n2 c2, .slice b2 m2 d2]] w fun e w' => e = .returned (.tuple #[.agg #[.bool false, .slice none 0 0, .slice none 0 0], .int .i64 21]) ∧ Below w.heap.size w w' := by
  have tq : ((n2 : Int) == 0) = false := beq_no (by
    have e := h2.len
    have z := (words_nil (N := (q.num.natAbs : Int)) (by omega)).mp
    intro e0
    have z1 := z (by omega)
    have : q.num ≠ 0 := fun h => hq (Rat.num_eq_zero.mp h)
    omega)
  have hmf : ∀ (fn : Fn) (first cap : Array Value) (w : World), (Instr.makeFunc fn first cap).run Try.prog w = .ok (.func fn first cap) w := fun _ _ _ _ => rfl
  obtain ⟨t1, t2, t3, t4, hb0, e0⟩ := st_four w (.bool s1) (.slice a1 n1 c1) (.slice b1 m1 d1) (.bool s2) (.slice a2 n2 c2) (.slice b2 m2 d2)
  obtain ⟨w0, hw0⟩ : ∃ w0, w0 = (((w.alloc (.cells #[.bool s1, .slice a1 n1 c1, .slice b1 m1 d1] 47)).alloc (.cells #[.bool s2, .slice a2 n2 c2, .slice b2 m2 d2] 47)).alloc (.cells #[.bool false, .slice none 0 0, .slice none 0 0] 47)).alloc (.cells #[.int .i64 0] 28) := ⟨_, rfl⟩
  rw [← hw0] at t1 t2 t3 t4 hb0 e0
  have r1 := h1.later hb0
  have r2 := h2.later hb0
  obtain ⟨g, hg⟩ : ∃ g, g = w.heap.size := ⟨_, rfl⟩
  have HG : Hid (w.heap.size = g) := hg.symm
  rw [← hg] at t1 t2 t3 t4 hb0 e0
  have HS : g ≤ w0.heap.size := by rw [hg]; exact hb0.size
  go_enter_defers Try.func41, Try.ntmps41
  go_wp2_with fail
  rw [← hw0, ← hg]
  refine (areRats_ok r1 r2 z1 z2 (by omega) (by omega)).mono ?_
  rintro e wA ⟨rfl, hbA⟩
  have r1A := r1.later hbA
  have r2A := r2.later hbA
  have t1A := t1.later hbA
  have t2A := t2.later hbA
  have t3A := t3.later hbA
  have t4A := t4.later hbA
  have HA := hb0.trans (hbA.mono HS)
  have HAs : w0.heap.size ≤ wA.heap.size := hbA.size
  clear hw0 hg t1 t2 t3 t4 r1 r2 hbA hb0 h1 h2
  obtain ⟨x0, x1, x2⟩ := t1A.cells
  obtain ⟨y0, y1, y2⟩ := t2A.cells
  have f1 := fun w1 (h : Below wA.heap.size wA w1) => times_long (r1A.nu.later h) (r2A.de.later h) (nm_abs z1 (by omega)) (nm_den z2 (by omega)) hL
  have hS : (fun w9 => w9.cell? ⟨g, 0, none⟩ = some (.bool s1) ∧ w9.cell? ⟨g, 1, none⟩ = some (.slice a1 n1 c1) ∧ w9.cell? ⟨g, 2, none⟩ = some (.slice b1 m1 d1) ∧ w9.cell? ⟨g + 1, 0, none⟩ = some (.bool s2) ∧ w9.cell? ⟨g + 1, 1, none⟩ = some (.slice a2 n2 c2) ∧ w9.cell? ⟨g + 1, 2, none⟩ = some (.slice b2 m2 d2)) wA.drew := ⟨x0, x1, x2, y0, y1, y2⟩
  clear r1A r2A z1 z2 hL
  go_wp2
  refine wp_region_held (S := (fun w9 => w9.cell? ⟨g, 0, none⟩ = some (.bool s1) ∧ w9.cell? ⟨g, 1, none⟩ = some (.slice a1 n1 c1) ∧ w9.cell? ⟨g, 2, none⟩ = some (.slice b1 m1 d1) ∧ w9.cell? ⟨g + 1, 0, none⟩ = some (.bool s2) ∧ w9.cell? ⟨g + 1, 1, none⟩ = some (.slice a2 n2 c2) ∧ w9.cell? ⟨g + 1, 2, none⟩ = some (.slice b2 m2 d2))) mixed ?_
  refine takeD (i := 0) (d := 17) (v := .pointer (some ⟨g, 0, none⟩)) rfl rfl (by kernel_rfl) (by kernel_rfl) (by kernel_rfl) (panic_putDiv (by decide) (by decide)) (Or.inl ⟨by rfl, ?_⟩) hS ?_
  · intro w9 hSw
    obtain ⟨k0, k1, k2, k3, k4, k5⟩ := hSw
    go_simp
  simp only [Act.put, List.setIfInBounds_toArray, List.set_cons_zero, List.set_cons_succ]
  refine takeD (i := 1) (d := 18) (v := .bool s1) rfl rfl (by kernel_rfl) (by kernel_rfl) (by kernel_rfl) (panic_putDiv (by decide) (by decide)) (Or.inl ⟨by rfl, ?_⟩) hS ?_
  · intro w9 hSw
    obtain ⟨k0, k1, k2, k3, k4, k5⟩ := hSw
    go_simp
  simp only [Act.put, List.setIfInBounds_toArray, List.set_cons_zero, List.set_cons_succ]
  refine takeD (i := 2) (d := 19) (v := .pointer (some ⟨g + 1, 0, none⟩)) rfl rfl (by kernel_rfl) (by kernel_rfl) (by kernel_rfl) (panic_putDiv (by decide) (by decide)) (Or.inl ⟨by rfl, ?_⟩) hS ?_
  · intro w9 hSw
    obtain ⟨k0, k1, k2, k3, k4, k5⟩ := hSw
    go_simp
  simp only [Act.put, List.setIfInBounds_toArray, List.set_cons_zero, List.set_cons_succ]
  refine takeD (i := 3) (d := 20) (v := .bool s2) rfl rfl (by kernel_rfl) (by kernel_rfl) (by kernel_rfl) (panic_putDiv (by decide) (by decide)) (Or.inl ⟨by rfl, ?_⟩) hS ?_
  · intro w9 hSw
    obtain ⟨k0, k1, k2, k3, k4, k5⟩ := hSw
    go_simp
  simp only [Act.put, List.setIfInBounds_toArray, List.set_cons_zero, List.set_cons_succ]
  refine takeD (i := 4) (d := 21) (v := .bool (!(s1 == s2))) rfl rfl (by kernel_rfl) (by kernel_rfl) (by kernel_rfl) (panic_putDiv (by decide) (by decide)) (Or.inl ⟨by rfl, ?_⟩) hS ?_
  · intro w9 hSw
    obtain ⟨k0, k1, k2, k3, k4, k5⟩ := hSw
    go_simp
  simp only [Act.put, List.setIfInBounds_toArray, List.set_cons_zero, List.set_cons_succ]
  refine takeD (i := 5) (d := 22) (v := .pointer (some ⟨g, 1, none⟩)) rfl rfl (by kernel_rfl) (by kernel_rfl) (by kernel_rfl) (panic_putDiv (by decide) (by decide)) (Or.inl ⟨by rfl, ?_⟩) hS ?_
  · intro w9 hSw
    obtain ⟨k0, k1, k2, k3, k4, k5⟩ := hSw
    go_simp
  simp only [Act.put, List.setIfInBounds_toArray, List.set_cons_zero, List.set_cons_succ]
  refine takeD (i := 6) (d := 23) (v := .slice a1 n1 c1) rfl rfl (by kernel_rfl) (by kernel_rfl) (by kernel_rfl) (panic_putDiv (by decide) (by decide)) (Or.inl ⟨by rfl, ?_⟩) hS ?_
  · intro w9 hSw
    obtain ⟨k0, k1, k2, k3, k4, k5⟩ := hSw
    go_simp
  simp only [Act.put, List.setIfInBounds_toArray, List.set_cons_zero, List.set_cons_succ]
  refine takeD (i := 7) (d := 24) (v := .pointer (some ⟨g + 1, 2, none⟩)) rfl rfl (by kernel_rfl) (by kernel_rfl) (by kernel_rfl) (panic_putDiv (by decide) (by decide)) (Or.inl ⟨by rfl, ?_⟩) hS ?_
  · intro w9 hSw
    obtain ⟨k0, k1, k2, k3, k4, k5⟩ := hSw
    go_simp
  simp only [Act.put, List.setIfInBounds_toArray, List.set_cons_zero, List.set_cons_succ]
  refine takeD (i := 8) (d := 25) (v := .slice b2 m2 d2) rfl rfl (by kernel_rfl) (by kernel_rfl) (by kernel_rfl) (panic_putDiv (by decide) (by decide)) (Or.inl ⟨by rfl, ?_⟩) hS ?_
  · intro w9 hSw
    obtain ⟨k0, k1, k2, k3, k4, k5⟩ := hSw
    go_simp
  simp only [Act.put, List.setIfInBounds_toArray, List.set_cons_zero, List.set_cons_succ]
  refine takeD (i := 10) (d := 27) (v := .pointer (some ⟨g, 2, none⟩)) rfl rfl (by kernel_rfl) (by kernel_rfl) (by kernel_rfl) (panic_putDiv (by decide) (by decide)) (Or.inl ⟨by rfl, ?_⟩) hS ?_
  · intro w9 hSw
    obtain ⟨k0, k1, k2, k3, k4, k5⟩ := hSw
    go_simp
  simp only [Act.put, List.setIfInBounds_toArray, List.set_cons_zero, List.set_cons_succ]
  refine takeD (i := 11) (d := 28) (v := .slice b1 m1 d1) rfl rfl (by kernel_rfl) (by kernel_rfl) (by kernel_rfl) (panic_putDiv (by decide) (by decide)) (Or.inl ⟨by rfl, ?_⟩) hS ?_
  · intro w9 hSw
    obtain ⟨k0, k1, k2, k3, k4, k5⟩ := hSw
    go_simp
  simp only [Act.put, List.setIfInBounds_toArray, List.set_cons_zero, List.set_cons_succ]
  refine takeD (i := 12) (d := 29) (v := .pointer (some ⟨g + 1, 1, none⟩)) rfl rfl (by kernel_rfl) (by kernel_rfl) (by kernel_rfl) (panic_putDiv (by decide) (by decide)) (Or.inl ⟨by rfl, ?_⟩) hS ?_
  · intro w9 hSw
    obtain ⟨k0, k1, k2, k3, k4, k5⟩ := hSw
    go_simp
  simp only [Act.put, List.setIfInBounds_toArray, List.set_cons_zero, List.set_cons_succ]
  refine takeD (i := 13) (d := 30) (v := .slice a2 n2 c2) rfl rfl (by kernel_rfl) (by kernel_rfl) (by kernel_rfl) (panic_putDiv (by decide) (by decide)) (Or.inl ⟨by rfl, ?_⟩) hS ?_
  · intro w9 hSw
    obtain ⟨k0, k1, k2, k3, k4, k5⟩ := hSw
    go_simp
  simp only [Act.put, List.setIfInBounds_toArray, List.set_cons_zero, List.set_cons_succ]
  refine wpAnyH_all (rs := [9]) (by kernel_rfl) (by simp) fun i hi => ?_
  obtain rfl : i = 9 := by simpa using hi
  refine wpOp_panics rfl rfl (f := 80) (args := #[.slice a1 n1 c1, .slice b2 m2 d2]) (by go_simp) ?_
  refine (f1 _ (below_drewN (Below.refl _ _) 1)).mono ?_
  rintro e wB ⟨rfl, hbB⟩
  refine ⟨_, rfl, ?_⟩
  have hBB : Below wA.heap.size wA wB := (below_drewN (Below.refl _ _) 1).trans hbB
  have t3B := t3A.later hBB
  have t4B := t4A.later hBB
  have HBB := HA.trans (hBB.mono (by omega))
  have sB := t4A.lt
  refine leaves_cons (f := 81) (args := #[.pointer (some ⟨g + 1 + 1 + 1, 0, none⟩)]) (by simp) (by simp [go_sem]) ?_
  refine (catchDiv (g + 1 + 1 + 1) 0 _ t4B.cell t4B.frozen).mono ?_
  rintro e u' w'' ⟨rfl, rfl, rfl⟩
  have t3D := (t3B.inn (in1 _ (g + 1 + 1 + 1) (.int .i64 21)) (by omega)).drew
  have t4D := (t4B.set (.int .i64 21)).drew
  have HD := below_in (below_in HBB (in1 _ (g + 1 + 1 + 1) (.int .i64 21)) (by omega) (by rw [HG.out]; exact Nat.le_refl _)) (in_drew (g + 1 + 1 + 1) _) (by omega) (by rw [HG.out]; exact Nat.le_refl _)
  clear t3B t4B HBB
  generalize ((wB.setCell ⟨g + 1 + 1 + 1, 0, none⟩ (.int .i64 21)).drew) = wD at *
  obtain ⟨u0, u1, u2⟩ := t3D.cells
  have o0 := t4D.cell
  refine ⟨.tuple #[.agg #[.bool false, .slice none 0 0, .slice none 0 0], .int .i64 21], by simp [results, Try.results41, go_sem, u0, u1, u2, o0], ?_⟩
  rw [HG.out]
  exact ⟨rfl, HD⟩
set_option maxHeartbeats 12800000 in
set_option maxRecDepth 100000 in
theorem sum_long (h1 : Rt w s1 a1 n1 c1 b1 m1 d1 p) (h2 : Rt w s2 a2 n2 c2 b2 m2 d2 q) (z1 : Sz p k) (z2 : Sz q l) (hk : k ≤ 4096) (hl : l ≤ 4096) (hL : 4096 < (words ((p.num.natAbs : Int) * (q.den : Int))).length) (t : Bool) :
    Calls Try.prog 83 #[.agg #[.bool s1, .slice a1 n1 c1, .slice b1 m1 d1], .agg #[.bool s2, .slice a2 n2 c2, .slice b2 m2 d2], .bool t] w fun e w' => e = .panicked [{ v := .iface 99 (.agg #[]), recovered := false }] ∧ Below w.heap.size w w' := by
  obtain ⟨t1, t2, t3, hb0⟩ := st_three w (.bool s1) (.slice a1 n1 c1) (.slice b1 m1 d1) (.bool s2) (.slice a2 n2 c2) (.slice b2 m2 d2) (.bool false) (.slice none 0 0) (.slice none 0 0) 47 47 47
  obtain ⟨w0, hw0⟩ : ∃ w0, w0 = ((w.alloc (.cells #[.bool s1, .slice a1 n1 c1, .slice b1 m1 d1] 47)).alloc (.cells #[.bool s2, .slice a2 n2 c2, .slice b2 m2 d2] 47)).alloc (.cells #[.bool false, .slice none 0 0, .slice none 0 0] 47) := ⟨_, rfl⟩
  rw [← hw0] at t1 t2 t3 hb0
  have r1 := h1.later hb0
  have r2 := h2.later hb0
  have f1 := fun w1 (h : Below w0.heap.size w0 w1) => times_long (r1.nu.later h) (r2.de.later h) (nm_abs z1 (by omega)) (nm_den z2 (by omega)) hL
  clear r1 r2 h1 h2 z1 z2 hL t3
  obtain ⟨g, hg⟩ : ∃ g, g = w.heap.size := ⟨_, rfl⟩
  have HG : Hid (w.heap.size = g) := hg.symm
  rw [← hg] at t1 t2 hb0
  have HS : g ≤ w0.heap.size := by rw [hg]; exact hb0.size
  obtain ⟨x0, x1, x2⟩ := t1.cells
  obtain ⟨y0, y1, y2⟩ := t2.cells
  have hS : (fun w9 => w9.cell? ⟨g, 0, none⟩ = some (.bool s1) ∧ w9.cell? ⟨g, 1, none⟩ = some (.slice a1 n1 c1) ∧ w9.cell? ⟨g, 2, none⟩ = some (.slice b1 m1 d1) ∧ w9.cell? ⟨g + 1, 0, none⟩ = some (.bool s2) ∧ w9.cell? ⟨g + 1, 1, none⟩ = some (.slice a2 n2 c2) ∧ w9.cell? ⟨g + 1, 2, none⟩ = some (.slice b2 m2 d2)) w0.drew := ⟨x0, x1, x2, y0, y1, y2⟩
  go_enter Try.func83, Try.ntmps83
  go_wp2
  rw [← hw0, ← hg]
  clear hw0 hg t1 t2
  refine wp_region_held (S := (fun w9 => w9.cell? ⟨g, 0, none⟩ = some (.bool s1) ∧ w9.cell? ⟨g, 1, none⟩ = some (.slice a1 n1 c1) ∧ w9.cell? ⟨g, 2, none⟩ = some (.slice b1 m1 d1) ∧ w9.cell? ⟨g + 1, 0, none⟩ = some (.bool s2) ∧ w9.cell? ⟨g + 1, 1, none⟩ = some (.slice a2 n2 c2) ∧ w9.cell? ⟨g + 1, 2, none⟩ = some (.slice b2 m2 d2))) mixed ?_
  refine takeD (i := 0) (d := 14) (v := .pointer (some ⟨g, 1, none⟩)) rfl rfl (by kernel_rfl) (by kernel_rfl) (by kernel_rfl) (fun _ _ _ h => h) (Or.inl ⟨by rfl, ?_⟩) hS ?_
  · intro w9 hSw
    obtain ⟨k0, k1, k2, k3, k4, k5⟩ := hSw
    go_simp
  simp only [Act.put, List.setIfInBounds_toArray, List.set_cons_zero, List.set_cons_succ]
  refine takeD (i := 1) (d := 15) (v := .slice a1 n1 c1) rfl rfl (by kernel_rfl) (by kernel_rfl) (by kernel_rfl) (fun _ _ _ h => h) (Or.inl ⟨by rfl, ?_⟩) hS ?_
  · intro w9 hSw
    obtain ⟨k0, k1, k2, k3, k4, k5⟩ := hSw
    go_simp
  simp only [Act.put, List.setIfInBounds_toArray, List.set_cons_zero, List.set_cons_succ]
  refine takeD (i := 2) (d := 16) (v := .pointer (some ⟨g + 1, 2, none⟩)) rfl rfl (by kernel_rfl) (by kernel_rfl) (by kernel_rfl) (fun _ _ _ h => h) (Or.inl ⟨by rfl, ?_⟩) hS ?_
  · intro w9 hSw
    obtain ⟨k0, k1, k2, k3, k4, k5⟩ := hSw
    go_simp
  simp only [Act.put, List.setIfInBounds_toArray, List.set_cons_zero, List.set_cons_succ]
  refine takeD (i := 3) (d := 17) (v := .slice b2 m2 d2) rfl rfl (by kernel_rfl) (by kernel_rfl) (by kernel_rfl) (fun _ _ _ h => h) (Or.inl ⟨by rfl, ?_⟩) hS ?_
  · intro w9 hSw
    obtain ⟨k0, k1, k2, k3, k4, k5⟩ := hSw
    go_simp
  simp only [Act.put, List.setIfInBounds_toArray, List.set_cons_zero, List.set_cons_succ]
  refine takeD (i := 5) (d := 19) (v := .pointer (some ⟨g + 1, 1, none⟩)) rfl rfl (by kernel_rfl) (by kernel_rfl) (by kernel_rfl) (fun _ _ _ h => h) (Or.inl ⟨by rfl, ?_⟩) hS ?_
  · intro w9 hSw
    obtain ⟨k0, k1, k2, k3, k4, k5⟩ := hSw
    go_simp
  simp only [Act.put, List.setIfInBounds_toArray, List.set_cons_zero, List.set_cons_succ]
  refine takeD (i := 6) (d := 20) (v := .slice a2 n2 c2) rfl rfl (by kernel_rfl) (by kernel_rfl) (by kernel_rfl) (fun _ _ _ h => h) (Or.inl ⟨by rfl, ?_⟩) hS ?_
  · intro w9 hSw
    obtain ⟨k0, k1, k2, k3, k4, k5⟩ := hSw
    go_simp
  simp only [Act.put, List.setIfInBounds_toArray, List.set_cons_zero, List.set_cons_succ]
  refine takeD (i := 7) (d := 21) (v := .pointer (some ⟨g, 2, none⟩)) rfl rfl (by kernel_rfl) (by kernel_rfl) (by kernel_rfl) (fun _ _ _ h => h) (Or.inl ⟨by rfl, ?_⟩) hS ?_
  · intro w9 hSw
    obtain ⟨k0, k1, k2, k3, k4, k5⟩ := hSw
    go_simp
  simp only [Act.put, List.setIfInBounds_toArray, List.set_cons_zero, List.set_cons_succ]
  refine takeD (i := 8) (d := 22) (v := .slice b1 m1 d1) rfl rfl (by kernel_rfl) (by kernel_rfl) (by kernel_rfl) (fun _ _ _ h => h) (Or.inl ⟨by rfl, ?_⟩) hS ?_
  · intro w9 hSw
    obtain ⟨k0, k1, k2, k3, k4, k5⟩ := hSw
    go_simp
  simp only [Act.put, List.setIfInBounds_toArray, List.set_cons_zero, List.set_cons_succ]
  refine takeD (i := 10) (d := 24) (v := .pointer (some ⟨g, 2, none⟩)) rfl rfl (by kernel_rfl) (by kernel_rfl) (by kernel_rfl) (fun _ _ _ h => h) (Or.inl ⟨by rfl, ?_⟩) hS ?_
  · intro w9 hSw
    obtain ⟨k0, k1, k2, k3, k4, k5⟩ := hSw
    go_simp
  simp only [Act.put, List.setIfInBounds_toArray, List.set_cons_zero, List.set_cons_succ]
  refine takeD (i := 11) (d := 25) (v := .slice b1 m1 d1) rfl rfl (by kernel_rfl) (by kernel_rfl) (by kernel_rfl) (fun _ _ _ h => h) (Or.inl ⟨by rfl, ?_⟩) hS ?_
  · intro w9 hSw
    obtain ⟨k0, k1, k2, k3, k4, k5⟩ := hSw
    go_simp
  simp only [Act.put, List.setIfInBounds_toArray, List.set_cons_zero, List.set_cons_succ]
  refine takeD (i := 12) (d := 26) (v := .pointer (some ⟨g + 1, 2, none⟩)) rfl rfl (by kernel_rfl) (by kernel_rfl) (by kernel_rfl) (fun _ _ _ h => h) (Or.inl ⟨by rfl, ?_⟩) hS ?_
  · intro w9 hSw
    obtain ⟨k0, k1, k2, k3, k4, k5⟩ := hSw
    go_simp
  simp only [Act.put, List.setIfInBounds_toArray, List.set_cons_zero, List.set_cons_succ]
  refine takeD (i := 13) (d := 27) (v := .slice b2 m2 d2) rfl rfl (by kernel_rfl) (by kernel_rfl) (by kernel_rfl) (fun _ _ _ h => h) (Or.inl ⟨by rfl, ?_⟩) hS ?_
  · intro w9 hSw
    obtain ⟨k0, k1, k2, k3, k4, k5⟩ := hSw
    go_simp
  simp only [Act.put, List.setIfInBounds_toArray, List.set_cons_zero, List.set_cons_succ]
  refine wpAnyH_all (rs := [4]) (by kernel_rfl) (by simp) fun i hi => ?_
  obtain rfl : i = 4 := by simpa using hi
  refine wpOp_panics rfl rfl (f := 80) (args := #[.slice a1 n1 c1, .slice b2 m2 d2]) (by go_simp) ?_
  refine (f1 _ (below_drewN (Below.refl _ _) 1)).mono ?_
  rintro e wB ⟨rfl, hbB⟩
  refine ⟨_, rfl, ?_⟩
  have hBB : Below w0.heap.size w0 wB := (below_drewN (Below.refl _ _) 1).trans hbB
  refine ⟨rfl, rfl, ?_⟩
  rw [HG.out]
  exact hb0.trans (hBB.mono HS)
set_option maxHeartbeats 12800000 in
set_option maxRecDepth 100000 in
theorem rAdd_long (h1 : Rt w s1 a1 n1 c1 b1 m1 d1 p) (h2 : Rt w s2 a2 n2 c2 b2 m2 d2 q) (z1 : Sz p k) (z2 : Sz q l) (hk : k ≤ 4096) (hl : l ≤ 4096) (hL : 4096 < (words ((p.num.natAbs : Int) * (q.den : Int))).length) :
    Calls Try.prog 42 #[.agg #[.bool s1, .slice a1 n1 c1, .slice b1 m1 d1], .agg #[.bool s2, .slice a2 n2 c2, .slice b2 m2 d2]] w fun e w' => e = .returned (.tuple #[.agg #[.bool false, .slice none 0 0, .slice none 0 0], .int .i64 21]) ∧ Below w.heap.size w w' := by
  have hmf : ∀ (fn : Fn) (first cap : Array Value) (w : World), (Instr.makeFunc fn first cap).run Try.prog w = .ok (.func fn first cap) w := fun _ _ _ _ => rfl
  obtain ⟨t1, t2, t3, t4, hb0, e0⟩ := st_four w (.bool s1) (.slice a1 n1 c1) (.slice b1 m1 d1) (.bool s2) (.slice a2 n2 c2) (.slice b2 m2 d2)
  obtain ⟨w0, hw0⟩ : ∃ w0, w0 = (((w.alloc (.cells #[.bool s1, .slice a1 n1 c1, .slice b1 m1 d1] 47)).alloc (.cells #[.bool s2, .slice a2 n2 c2, .slice b2 m2 d2] 47)).alloc (.cells #[.bool false, .slice none 0 0, .slice none 0 0] 47)).alloc (.cells #[.int .i64 0] 28) := ⟨_, rfl⟩
  rw [← hw0] at t1 t2 t3 t4 hb0 e0
  have r1 := h1.later hb0
  have r2 := h2.later hb0
  obtain ⟨g, hg⟩ : ∃ g, g = w.heap.size := ⟨_, rfl⟩
  have HG : Hid (w.heap.size = g) := hg.symm
  rw [← hg] at t1 t2 t3 t4 hb0 e0
  have HS : g ≤ w0.heap.size := by rw [hg]; exact hb0.size
  go_enter_defers Try.func42, Try.ntmps42
  go_wp2_with fail
  rw [← hw0, ← hg]
  refine (areRats_ok r1 r2 z1 z2 (by omega) (by omega)).mono ?_
  rintro e wA ⟨rfl, hbA⟩
  have r1A := r1.later hbA
  have r2A := r2.later hbA
  have t1A := t1.later hbA
  have t2A := t2.later hbA
  have t3A := t3.later hbA
  have t4A := t4.later hbA
  have HA := hb0.trans (hbA.mono HS)
  have HAs : w0.heap.size ≤ wA.heap.size := hbA.size
  clear hw0 hg t1 t2 t3 t4 r1 r2 hbA hb0 h1 h2
  obtain ⟨x0, x1, x2⟩ := t1A.cells
  obtain ⟨y0, y1, y2⟩ := t2A.cells
  have f1 := sum_long r1A r2A z1 z2 hk hl hL s2
  clear r1A r2A z1 z2 hL
  go_wp2_with fail
  refine f1.mono ?_
  rintro e wB ⟨rfl, hbB⟩
  have hBB : Below wA.heap.size wA wB := hbB
  have t3B := t3A.later hBB
  have t4B := t4A.later hBB
  have HBB := HA.trans (hBB.mono (by omega))
  have sB := t4A.lt
  refine leaves_cons (f := 82) (args := #[.pointer (some ⟨g + 1 + 1 + 1, 0, none⟩)]) (by simp) (by simp [go_sem]) ?_
  refine (catchAdd (g + 1 + 1 + 1) 0 _ t4B.cell t4B.frozen).mono ?_
  rintro e u' w'' ⟨rfl, rfl, rfl⟩
  have t3D := (t3B.inn (in1 _ (g + 1 + 1 + 1) (.int .i64 21)) (by omega)).drew
  have t4D := (t4B.set (.int .i64 21)).drew
  have HD := below_in (below_in HBB (in1 _ (g + 1 + 1 + 1) (.int .i64 21)) (by omega) (by rw [HG.out]; exact Nat.le_refl _)) (in_drew (g + 1 + 1 + 1) _) (by omega) (by rw [HG.out]; exact Nat.le_refl _)
  clear t3B t4B HBB
  generalize ((wB.setCell ⟨g + 1 + 1 + 1, 0, none⟩ (.int .i64 21)).drew) = wD at *
  obtain ⟨u0, u1, u2⟩ := t3D.cells
  have o0 := t4D.cell
  refine ⟨.tuple #[.agg #[.bool false, .slice none 0 0, .slice none 0 0], .int .i64 21], by simp [results, Try.results42, go_sem, u0, u1, u2, o0], ?_⟩
  rw [HG.out]
  exact ⟨rfl, HD⟩
set_option maxHeartbeats 12800000 in
set_option maxRecDepth 100000 in
theorem rCmp_long (h1 : Rt w s1 a1 n1 c1 b1 m1 d1 p) (h2 : Rt w s2 a2 n2 c2 b2 m2 d2 q) (z1 : Sz p k) (z2 : Sz q l) (hk : k ≤ 4096) (hl : l ≤ 4096) (hL : 4096 < (words ((p.num.natAbs : Int) * (q.den : Int))).length) (hpq' : sgnR p = sgnR q) :
    Calls Try.prog 43 #[.agg #[.bool s1, .slice a1 n1 c1, .slice b1 m1 d1], .agg #[.bool s2, .slice a2 n2 c2, .slice b2 m2 d2]] w fun e w' => e = .returned (.tuple #[.int .i64 0, .int .i64 21]) ∧ Below w.heap.size w w' := by
  have hmf : ∀ (fn : Fn) (first cap : Array Value) (w : World), (Instr.makeFunc fn first cap).run Try.prog w = .ok (.func fn first cap) w := fun _ _ _ _ => rfl
  obtain ⟨t1, t2, t3, hb0, e0⟩ := st_cmp w (.bool s1) (.slice a1 n1 c1) (.slice b1 m1 d1) (.bool s2) (.slice a2 n2 c2) (.slice b2 m2 d2)
  obtain ⟨w0, hw0⟩ : ∃ w0, w0 = ((w.alloc (.cells #[.bool s1, .slice a1 n1 c1, .slice b1 m1 d1] 47)).alloc (.cells #[.bool s2, .slice a2 n2 c2, .slice b2 m2 d2] 47)).alloc (.cells #[.int .i64 0] 28) := ⟨_, rfl⟩
  rw [← hw0] at t1 t2 t3 hb0 e0
  have r1 := h1.later hb0
  have r2 := h2.later hb0
  have l1 := h1.le z1
  have l2 := h2.le z2
  have hS : Hid (s1 = decide (p.num < 0)) := h1.sgn
  obtain ⟨g, hg⟩ : ∃ g, g = w.heap.size := ⟨_, rfl⟩
  have HG : Hid (w.heap.size = g) := hg.symm
  rw [← hg] at t1 t2 t3 hb0 e0
  have HS : g ≤ w0.heap.size := by rw [hg]; exact hb0.size
  go_enter_defers Try.func43, Try.ntmps43
  go_wp2_with fail
  rw [← hw0, ← hg]
  refine (areRats_ok r1 r2 z1 z2 (by omega) (by omega)).mono ?_
  rintro e wA ⟨rfl, hbA⟩
  have r1A := r1.later hbA
  have r2A := r2.later hbA
  have t1A := t1.later hbA
  have t2A := t2.later hbA
  have t3A := t3.later hbA
  have HA := hb0.trans (hbA.mono HS)
  have HAs : w0.heap.size ≤ wA.heap.size := hbA.size
  clear hw0 hg t1 t2 t3 r1 r2 hbA hb0 h1 h2
  have hcl : ∀ w1, Below wA.heap.size wA w1 → w1.cell? ⟨g, 0, none⟩ = some (.bool s1) ∧ w1.cell? ⟨g, 1, none⟩ = some (.slice a1 n1 c1) ∧ w1.cell? ⟨g, 2, none⟩ = some (.slice b1 m1 d1) ∧ w1.cell? ⟨g + 1, 0, none⟩ = some (.bool s2) ∧ w1.cell? ⟨g + 1, 1, none⟩ = some (.slice a2 n2 c2) ∧ w1.cell? ⟨g + 1, 2, none⟩ = some (.slice b2 m2 d2) := fun w1 h => by
    obtain ⟨x0, x1, x2⟩ := (t1A.later h).cells
    obtain ⟨y0, y1, y2⟩ := (t2A.later h).cells
    exact ⟨x0, x1, x2, y0, y1, y2⟩
  obtain ⟨x0, x1, x2, y0, y1, y2⟩ := hcl wA (Below.refl _ _)
  have ne1 : ¬ g = g + 1 + 1 := by omega
  have ne2 : ¬ g + 1 + 1 = g := by omega
  have sA := t3A.lt
  obtain ⟨P0, hP0⟩ : ∃ P0, sgnR p = P0 := ⟨_, rfl⟩
  obtain ⟨Q0, hQ0⟩ : ∃ Q0, sgnR q = Q0 := ⟨_, rfl⟩
  have g1 := fun w1 h => sign_at (w0 := wA) (w1 := w1) h r1A (by omega) hP0
  have g2 := fun w1 h => sign_at (w0 := wA) (w1 := w1) h r2A (by omega) hQ0
  have hpq : P0 = Q0 := by rw [← hP0, ← hQ0]; exact hpq'
  have tpq : (P0 != Q0) = false := bne_of hpq
  have f1 := fun w1 (h : Below wA.heap.size wA w1) => times_long (r1A.nu.later h) (r2A.de.later h) (nm_abs z1 (by omega)) (nm_den z2 (by omega)) hL
  clear r1A r2A z1 z2 hS hP0 hQ0 hL hpq
  go_wp2
  go_region_held3 (fun w' => w'.cell? ⟨g, 0, none⟩ = some (.bool s1) ∧ w'.cell? ⟨g, 1, none⟩ = some (.slice a1 n1 c1) ∧ w'.cell? ⟨g, 2, none⟩ = some (.slice b1 m1 d1) ∧ w'.cell? ⟨g + 1, 0, none⟩ = some (.bool s2) ∧ w'.cell? ⟨g + 1, 1, none⟩ = some (.slice a2 n2 c2) ∧ w'.cell? ⟨g + 1, 2, none⟩ = some (.slice b2 m2 d2)) (go_keep) (first | (go_at_call_of 85 a1; refine (g1 _ (by first | exact Below.refl _ _ | exact below_drewN (Below.refl _ _) _)).mono ?_; rintro e wS ⟨rfl, hBS, _⟩; obtain ⟨x0, x1, x2, y0, y1, y2⟩ := hcl wS hBS) | (go_at_call_of 85 a2; refine (g2 _ (by first | exact hBS | exact below_drewN hBS _)).mono ?_; rintro e wT ⟨rfl, hBT, _⟩; obtain ⟨x0, x1, x2, y0, y1, y2⟩ := hcl wT hBT))
  go_wp2
  have hS : (fun w9 => w9.cell? ⟨g, 0, none⟩ = some (.bool s1) ∧ w9.cell? ⟨g, 1, none⟩ = some (.slice a1 n1 c1) ∧ w9.cell? ⟨g, 2, none⟩ = some (.slice b1 m1 d1) ∧ w9.cell? ⟨g + 1, 0, none⟩ = some (.bool s2) ∧ w9.cell? ⟨g + 1, 1, none⟩ = some (.slice a2 n2 c2) ∧ w9.cell? ⟨g + 1, 2, none⟩ = some (.slice b2 m2 d2)) wT.drew := ⟨x0, x1, x2, y0, y1, y2⟩
  refine wp_region_held (S := (fun w9 => w9.cell? ⟨g, 0, none⟩ = some (.bool s1) ∧ w9.cell? ⟨g, 1, none⟩ = some (.slice a1 n1 c1) ∧ w9.cell? ⟨g, 2, none⟩ = some (.slice b1 m1 d1) ∧ w9.cell? ⟨g + 1, 0, none⟩ = some (.bool s2) ∧ w9.cell? ⟨g + 1, 1, none⟩ = some (.slice a2 n2 c2) ∧ w9.cell? ⟨g + 1, 2, none⟩ = some (.slice b2 m2 d2))) mixed ?_
  refine takeD (i := 0) (d := 22) (v := .pointer (some ⟨g, 1, none⟩)) rfl rfl (by kernel_rfl) (by kernel_rfl) (by kernel_rfl) (panic_putCmp (by decide) (by decide)) (Or.inl ⟨by rfl, ?_⟩) hS ?_
  · intro w9 hSw
    obtain ⟨k0, k1, k2, k3, k4, k5⟩ := hSw
    go_simp
  simp only [Act.put, List.setIfInBounds_toArray, List.set_cons_zero, List.set_cons_succ]
  refine takeD (i := 1) (d := 23) (v := .slice a1 n1 c1) rfl rfl (by kernel_rfl) (by kernel_rfl) (by kernel_rfl) (panic_putCmp (by decide) (by decide)) (Or.inl ⟨by rfl, ?_⟩) hS ?_
  · intro w9 hSw
    obtain ⟨k0, k1, k2, k3, k4, k5⟩ := hSw
    go_simp
  simp only [Act.put, List.setIfInBounds_toArray, List.set_cons_zero, List.set_cons_succ]
  refine takeD (i := 2) (d := 24) (v := .pointer (some ⟨g + 1, 2, none⟩)) rfl rfl (by kernel_rfl) (by kernel_rfl) (by kernel_rfl) (panic_putCmp (by decide) (by decide)) (Or.inl ⟨by rfl, ?_⟩) hS ?_
  · intro w9 hSw
    obtain ⟨k0, k1, k2, k3, k4, k5⟩ := hSw
    go_simp
  simp only [Act.put, List.setIfInBounds_toArray, List.set_cons_zero, List.set_cons_succ]
  refine takeD (i := 3) (d := 25) (v := .slice b2 m2 d2) rfl rfl (by kernel_rfl) (by kernel_rfl) (by kernel_rfl) (panic_putCmp (by decide) (by decide)) (Or.inl ⟨by rfl, ?_⟩) hS ?_
  · intro w9 hSw
    obtain ⟨k0, k1, k2, k3, k4, k5⟩ := hSw
    go_simp
  simp only [Act.put, List.setIfInBounds_toArray, List.set_cons_zero, List.set_cons_succ]
  refine takeD (i := 5) (d := 27) (v := .pointer (some ⟨g + 1, 1, none⟩)) rfl rfl (by kernel_rfl) (by kernel_rfl) (by kernel_rfl) (panic_putCmp (by decide) (by decide)) (Or.inl ⟨by rfl, ?_⟩) hS ?_
  · intro w9 hSw
    obtain ⟨k0, k1, k2, k3, k4, k5⟩ := hSw
    go_simp
  simp only [Act.put, List.setIfInBounds_toArray, List.set_cons_zero, List.set_cons_succ]
  refine takeD (i := 6) (d := 28) (v := .slice a2 n2 c2) rfl rfl (by kernel_rfl) (by kernel_rfl) (by kernel_rfl) (panic_putCmp (by decide) (by decide)) (Or.inl ⟨by rfl, ?_⟩) hS ?_
  · intro w9 hSw
    obtain ⟨k0, k1, k2, k3, k4, k5⟩ := hSw
    go_simp
  simp only [Act.put, List.setIfInBounds_toArray, List.set_cons_zero, List.set_cons_succ]
  refine takeD (i := 7) (d := 29) (v := .pointer (some ⟨g, 2, none⟩)) rfl rfl (by kernel_rfl) (by kernel_rfl) (by kernel_rfl) (panic_putCmp (by decide) (by decide)) (Or.inl ⟨by rfl, ?_⟩) hS ?_
  · intro w9 hSw
    obtain ⟨k0, k1, k2, k3, k4, k5⟩ := hSw
    go_simp
  simp only [Act.put, List.setIfInBounds_toArray, List.set_cons_zero, List.set_cons_succ]
  refine takeD (i := 8) (d := 30) (v := .slice b1 m1 d1) rfl rfl (by kernel_rfl) (by kernel_rfl) (by kernel_rfl) (panic_putCmp (by decide) (by decide)) (Or.inl ⟨by rfl, ?_⟩) hS ?_
  · intro w9 hSw
    obtain ⟨k0, k1, k2, k3, k4, k5⟩ := hSw
    go_simp
  simp only [Act.put, List.setIfInBounds_toArray, List.set_cons_zero, List.set_cons_succ]
  refine wpAnyH_all (rs := [4]) (by kernel_rfl) (by simp) fun i hi => ?_
  obtain rfl : i = 4 := by simpa using hi
  refine wpOp_panics rfl rfl (f := 80) (args := #[.slice a1 n1 c1, .slice b2 m2 d2]) (by go_simp) ?_
  refine (f1 _ (below_drewN hBT 1)).mono ?_
  rintro e wB ⟨rfl, hbB⟩
  refine ⟨_, rfl, ?_⟩
  have hBB : Below wA.heap.size wA wB := hBT.trans (((below_drewN (Below.refl wT.heap.size wT) 1).trans hbB).mono hBT.size)
  have t4B := t3A.later hBB
  have HBB := HA.trans (hBB.mono (by omega))
  have sB := t3A.lt
  refine leaves_cons (f := 84) (args := #[.pointer (some ⟨g + 1 + 1, 0, none⟩)]) (by simp) (by simp [go_sem]) ?_
  refine (catchCmp (g + 1 + 1) 0 _ t4B.cell t4B.frozen).mono ?_
  rintro e u' w'' ⟨rfl, rfl, rfl⟩
  have t4D := (t4B.set (.int .i64 21)).drew
  have HD := below_in (below_in HBB (in1 _ (g + 1 + 1) (.int .i64 21)) (by omega) (by rw [HG.out]; exact Nat.le_refl _)) (in_drew (g + 1 + 1) _) (by omega) (by rw [HG.out]; exact Nat.le_refl _)
  clear t4B HBB
  generalize ((wB.setCell ⟨g + 1 + 1, 0, none⟩ (.int .i64 21)).drew) = wD at *
  have o0 := t4D.cell
  refine ⟨.tuple #[.int .i64 0, .int .i64 21], by simp [results, Try.results43, go_sem, o0], ?_⟩
  rw [HG.out]
  exact ⟨rfl, HD⟩
end
end Go.Proofs.Ytopcdpeepchgfab
