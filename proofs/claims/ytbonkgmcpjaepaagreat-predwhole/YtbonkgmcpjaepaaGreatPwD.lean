/- plumblaw22: at, side, far. -/
import Derived.Test.YtbonkgmcpjaepaaGreatPwC
namespace Go.Proofs.YtbonkgmcpjaepaaGreat
open Go.ChangeShapes Go.WideShapes Go.ChangeAt Go.RowKit
open Na Ar
set_option linter.unusedVariables false
def I64 (n : Int) : Prop := -9223372036854775808 ≤ n ∧ n ≤ 9223372036854775807
theorem wrI {z : Int} (h : -9223372036854775808 ≤ z ∧ z ≤ 9223372036854775807) : IntKind.i64.wrap z = z := by
  rw [IntKind.wrap_i64]; omega
theorem mul_bd22 {a b A B : Int} (ha : -A ≤ a ∧ a ≤ A) (hb : -B ≤ b ∧ b ≤ B) : -(A * B) ≤ a * b ∧ a * b ≤ A * B := by
  have h1 : a.natAbs * b.natAbs ≤ A.natAbs * B.natAbs := Nat.mul_le_mul (by omega) (by omega)
  rw [← Int.natAbs_mul, ← Int.natAbs_mul] at h1
  have h2 : 0 ≤ A * B := Int.mul_nonneg (by omega) (by omega)
  omega
theorem two_cells22 {w : World} {g : Nat} {t : TypeId} {y0 y1 : Value} (h : Pb w g t #[y0, y1]) : w.cell? ⟨g, 0, none⟩ = some y0 ∧ w.cell? ⟨g, 1, none⟩ = some y1 := ⟨h.cell 0 rfl, h.cell 1 rfl⟩
def AtQ (w : World) (x y k : Int) (e : Ending) (w' : World) : Prop := ∃ b c, e = .returned (.agg #[.int .u64 b, .int .u64 c]) ∧ PtV (Wn x) k b ∧ PtV (Wn y) k c ∧ Below w.heap.size w w'
set_option maxHeartbeats 3200000 in
set_option maxRecDepth 100000 in
theorem at22_any {x y k : Int} (hx : I64 x) (hy : I64 y) (hk : -899 ≤ k ∧ k ≤ 899) (w : World) :
    Calls Tryz.prog 6 #[.agg #[.int .i64 x, .int .i64 y], .int .i64 k] w fun e w' => AtQ w x y k e w' := by
  obtain ⟨w0, hw0⟩ : ∃ w0, w0 = (w.alloc (.cells #[.int .i64 x, .int .i64 y] 23)).alloc (.cells #[.int .u64 0, .int .u64 0] 28) := ⟨_, rfl⟩
  obtain ⟨u1, u2, hb0, e0⟩ : Pb w0 w.heap.size 23 #[.int .i64 x, .int .i64 y] ∧ Pb w0 (w.heap.size + 1) 28 #[.int .u64 0, .int .u64 0] ∧ Below w.heap.size w w0 ∧ w0.heap.size = w.heap.size + 1 + 1 := by
    subst hw0
    have b1 := alloc_below (w := w) (.cells #[.int .i64 x, .int .i64 y] 23)
    have b2 := alloc_below (w := w.alloc (.cells #[.int .i64 x, .int .i64 y] 23)) (.cells #[.int .u64 0, .int .u64 0] 28)
    have p1 := Pb.new w 23 #[.int .i64 x, .int .i64 y]
    have p2 := Pb.new (w.alloc (.cells #[.int .i64 x, .int .i64 y] 23)) 28 #[.int .u64 0, .int .u64 0]
    have e : (w.alloc (.cells #[.int .i64 x, .int .i64 y] 23)).heap.size = w.heap.size + 1 := by simp
    rw [e] at p2
    exact ⟨p1.later b2, p2, b1.trans (b2.mono b1.size), by simp⟩
  obtain ⟨g, hg⟩ : ∃ g, g = w.heap.size := ⟨_, rfl⟩
  have HG : Hid (w.heap.size = g) := hg.symm
  rw [← hg] at u1 u2
  have hle : g + 1 < w0.heap.size := by omega
  have hgw : w.heap.size ≤ g + 1 := by omega
  obtain ⟨X, hX⟩ : ∃ X, X = Wn x := ⟨_, rfl⟩
  obtain ⟨Y, hY⟩ : ∃ Y, Y = Wn y := ⟨_, rfl⟩
  have bX := wn_bd x
  have bY := wn_bd y
  have hWx := fun (w : World) => within22_same x hx w
  have hWy := fun (w : World) => within22_same y hy w
  rw [← hX] at bX hWx
  rw [← hY] at bY hWy
  have hPx := fun (wx : World) => pattern22_any (v := X) bX hk wx
  have hPy := fun (wx : World) => pattern22_any (v := Y) bY hk wx
  have HXe : Hid (X = Wn x) := hX
  have HYe : Hid (Y = Wn y) := hY
  have hcl : ∀ w', Below w0.heap.size w0 w' → w'.cell? ⟨g, 0, none⟩ = some (.int .i64 x) ∧ w'.cell? ⟨g, 1, none⟩ = some (.int .i64 y) := by
    intro w' h
    exact ⟨(u1.later h).cell 0 (v := .int .i64 x) rfl, (u1.later h).cell 1 (v := .int .i64 y) rfl⟩
  obtain ⟨i0, i1⟩ := hcl w0 (Below.refl _ _)
  have ne1 : ¬ g = g + 1 := by omega
  have ne2 : ¬ g + 1 = g := by omega
  clear e0 hX hY bX bY hk hx hy
  go_enter Tryz.func6, Tryz.ntmps6
  go_wp2
  rw [← hw0, ← hg]
  clear hw0 hg
  go_region_held3 (fun w' => w'.cell? ⟨g, 0, none⟩ = some (.int .i64 x) ∧ w'.cell? ⟨g, 1, none⟩ = some (.int .i64 y)) (go_keep) (first | (go_at_call_of 11 x; refine (hWx _).mono ?_; rintro e w' ⟨rfl, rfl⟩) | (go_at_call_of 11 y; refine (hWy _).mono ?_; rintro e w' ⟨rfl, rfl⟩) | (go_at_call_of 25 X; refine (hPx _).mono ?_; rintro e wX ⟨b, rfl, hb, hbX⟩; have HbX := (by first | exact hbX | exact (below_drewN (Below.refl _ _) _).trans hbX : Below w0.heap.size w0 wX); obtain ⟨i0, i1⟩ := hcl wX HbX) | (go_at_call_of 25 Y; refine (hPy _).mono ?_; rintro e wY ⟨c, rfl, hc, hbY⟩; have HbY := (by first | exact HbX.trans (hbY.mono HbX.size) | exact (below_drewN HbX _).trans (hbY.mono (below_drewN HbX _).size) : Below w0.heap.size w0 wY); obtain ⟨i0, i1⟩ := hcl wY HbY; have u9 := u2.later HbY; obtain ⟨o0, o1⟩ : wY.cell? ⟨g + 1, 0, none⟩ = some (.int .u64 0) ∧ wY.cell? ⟨g + 1, 1, none⟩ = some (.int .u64 0) := ⟨u9.cell 0 rfl, u9.cell 1 rfl⟩; have p0 := u9.frozen 0; have p1 := u9.frozen 1))
  go_wp2
  have i9 : In (g + 1) (g + 1 + 1) wY ((wY.setCell ⟨g + 1, 0, none⟩ (.int .u64 b)).setCell ⟨g + 1, 1, none⟩ (.int .u64 c)) := ((In.refl (g + 1) (g + 1 + 1) wY).set1 0 _).set1 1 _
  have q9 := (u9.set 0 (.int .u64 b)).set 1 (.int .u64 c)
  have T0 := q9.cell 0 (v := .int .u64 b) rfl
  have T1 := q9.cell 1 (v := .int .u64 c) rfl
  refine bodyPost_ret (v := .agg #[.int .u64 b, .int .u64 c]) (by simp [results, Tryz.results6, go_sem, T0, T1]) rfl ?_
  refine ⟨b, c, rfl, by rw [← HXe.out]; exact hb, by rw [← HYe.out]; exact hc, below_in (hb0.trans (HbY.mono hb0.size)) i9 (by omega) (Nat.le_refl _)⟩
theorem wr_side {a b c d e f : Int} (ha : -4095 ≤ a ∧ a ≤ 4095) (hb : -4095 ≤ b ∧ b ≤ 4095) (hc : -4095 ≤ c ∧ c ≤ 4095) (hd : -4095 ≤ d ∧ d ≤ 4095) (he : -4095 ≤ e ∧ e ≤ 4095) (hf : -4095 ≤ f ∧ f ≤ 4095) :
    IntKind.i64.wrap (IntKind.i64.wrap (IntKind.i64.wrap (c - a) * IntKind.i64.wrap (f - b)) - IntKind.i64.wrap (IntKind.i64.wrap (d - b) * IntKind.i64.wrap (e - a))) = crI a b c d e f := by
  have p1 := mul_bd22 (a := c - a) (b := f - b) (A := 8190) (B := 8190) (by omega) (by omega)
  have p2 := mul_bd22 (a := d - b) (b := e - a) (A := 8190) (B := 8190) (by omega) (by omega)
  rw [wrI (z := c - a) (by omega), wrI (z := f - b) (by omega), wrI (z := d - b) (by omega), wrI (z := e - a) (by omega), wrI (z := (c - a) * (f - b)) (by omega), wrI (z := (d - b) * (e - a)) (by omega), wrI (by omega)]
  rfl
theorem three_two (w : World) (a b c d e f : Value) (t : TypeId) : ∃ w0, w0 = ((w.alloc (.cells #[a, b] t)).alloc (.cells #[c, d] t)).alloc (.cells #[e, f] t) ∧ Pb w0 w.heap.size t #[a, b] ∧ Pb w0 (w.heap.size + 1) t #[c, d] ∧ Pb w0 (w.heap.size + 1 + 1) t #[e, f] ∧ Below w.heap.size w w0 := by
  obtain ⟨p1, p2, p3, b, _⟩ := pb_three w #[a, b] #[c, d] #[e, f] t (t2 := t) (t3 := t)
  exact ⟨_, rfl, p1, p2, p3, b⟩
set_option maxHeartbeats 3200000 in
set_option maxRecDepth 100000 in
theorem side22_any {ax ay bx by' cx cy : Int} (h1 : I64 ax) (h2 : I64 ay) (h3 : I64 bx) (h4 : I64 by') (h5 : I64 cx) (h6 : I64 cy) (w : World) :
    Calls Tryz.prog 8 #[.agg #[.int .i64 ax, .int .i64 ay], .agg #[.int .i64 bx, .int .i64 by'], .agg #[.int .i64 cx, .int .i64 cy]] w fun e w' => e = .returned (.int .i64 (crI (Wn ax) (Wn ay) (Wn bx) (Wn by') (Wn cx) (Wn cy))) ∧ Below w.heap.size w w' := by
  obtain ⟨w0, hw0, u1, u2, u3, hb0⟩ := three_two w (.int .i64 ax) (.int .i64 ay) (.int .i64 bx) (.int .i64 by') (.int .i64 cx) (.int .i64 cy) 23
  obtain ⟨i0, i1⟩ := two_cells22 u1
  obtain ⟨i2, i3⟩ := two_cells22 u2
  obtain ⟨i4, i5⟩ := two_cells22 u3
  obtain ⟨g, hg⟩ : ∃ g, g = w.heap.size := ⟨_, rfl⟩
  rw [← hg] at i0 i1 i2 i3 i4 i5
  have HE := wr_side (wn_bd ax) (wn_bd ay) (wn_bd bx) (wn_bd by') (wn_bd cx) (wn_bd cy)
  have HE' : Hid _ := HE
  clear HE u1 u2 u3
  go_enter Tryz.func8, Tryz.ntmps8
  go_wp2
  rw [← hw0, ← hg]
  clear hw0 hg
  go_region_held3 (fun w' => w'.cell? ⟨g, 0, none⟩ = some (.int .i64 ax) ∧ w'.cell? ⟨g, 1, none⟩ = some (.int .i64 ay) ∧ w'.cell? ⟨g + 1, 0, none⟩ = some (.int .i64 bx) ∧ w'.cell? ⟨g + 1, 1, none⟩ = some (.int .i64 by') ∧ w'.cell? ⟨g + 1 + 1, 0, none⟩ = some (.int .i64 cx) ∧ w'.cell? ⟨g + 1 + 1, 1, none⟩ = some (.int .i64 cy)) (go_keep) (first | (go_at_call_of 11 ax; refine (within22_same ax h1 _).mono ?_; rintro e w' ⟨rfl, rfl⟩) | (go_at_call_of 11 ay; refine (within22_same ay h2 _).mono ?_; rintro e w' ⟨rfl, rfl⟩) | (go_at_call_of 11 bx; refine (within22_same bx h3 _).mono ?_; rintro e w' ⟨rfl, rfl⟩) | (go_at_call_of 11 by'; refine (within22_same by' h4 _).mono ?_; rintro e w' ⟨rfl, rfl⟩) | (go_at_call_of 11 cx; refine (within22_same cx h5 _).mono ?_; rintro e w' ⟨rfl, rfl⟩) | (go_at_call_of 11 cy; refine (within22_same cy h6 _).mono ?_; rintro e w' ⟨rfl, rfl⟩))
  go_wp2
  go_ret
  exact ⟨by rw [HE'.out]; rfl, below_drewN hb0 1⟩
theorem two_two (w : World) (a b c d : Value) (t : TypeId) : ∃ w0, w0 = (w.alloc (.cells #[a, b] t)).alloc (.cells #[c, d] t) ∧ Pb w0 w.heap.size t #[a, b] ∧ Pb w0 (w.heap.size + 1) t #[c, d] ∧ Below w.heap.size w w0 := by
  have b1 := alloc_below (w := w) (.cells #[a, b] t)
  have b2 := alloc_below (w := w.alloc (.cells #[a, b] t)) (.cells #[c, d] t)
  have p1 := Pb.new w t #[a, b]
  have p2 := Pb.new (w.alloc (.cells #[a, b] t)) t #[c, d]
  have e : (w.alloc (.cells #[a, b] t)).heap.size = w.heap.size + 1 := by simp
  rw [e] at p2
  exact ⟨_, rfl, p1.later b2, p2, b1.trans (b2.mono b1.size)⟩
set_option maxHeartbeats 3200000 in
set_option maxRecDepth 100000 in
theorem far22_any {ax ay bx by' : Int} (h1 : I64 ax) (h2 : I64 ay) (h3 : I64 bx) (h4 : I64 by') (w : World) :
    Calls Tryz.prog 15 #[.agg #[.int .i64 ax, .int .i64 ay], .agg #[.int .i64 bx, .int .i64 by']] w fun e w' => e = .returned (.int .i64 (sqI (Wn ax) (Wn ay) (Wn bx) (Wn by'))) ∧ Below w.heap.size w w' := by
  obtain ⟨w0, hw0, u1, u2, hb0⟩ := two_two w (.int .i64 ax) (.int .i64 ay) (.int .i64 bx) (.int .i64 by') 23
  obtain ⟨i0, i1⟩ := two_cells22 u1
  obtain ⟨i2, i3⟩ := two_cells22 u2
  obtain ⟨g, hg⟩ : ∃ g, g = w.heap.size := ⟨_, rfl⟩
  rw [← hg] at i0 i1 i2 i3
  have b1 := wn_bd ax
  have b2 := wn_bd ay
  have b3 := wn_bd bx
  have b4 := wn_bd by'
  obtain ⟨X, hX, bX⟩ : ∃ X, IntKind.i64.wrap (Wn ax - Wn bx) = X ∧ X = Wn ax - Wn bx := ⟨_, wrI (by omega), rfl⟩
  obtain ⟨Y, hY, bY⟩ : ∃ Y, IntKind.i64.wrap (Wn ay - Wn by') = Y ∧ Y = Wn ay - Wn by' := ⟨_, wrI (by omega), rfl⟩
  obtain ⟨XX, hXX⟩ : ∃ XX, X * X = XX := ⟨_, rfl⟩
  obtain ⟨YY, hYY⟩ : ∃ YY, Y * Y = YY := ⟨_, rfl⟩
  have c1 := mul_bd22 (a := X) (b := X) (A := 8190) (B := 8190) (by omega) (by omega)
  have c2 := mul_bd22 (a := Y) (b := Y) (A := 8190) (B := 8190) (by omega) (by omega)
  rw [hXX] at c1
  rw [hYY] at c2
  have HE : Hid (XX + YY = sqI (Wn ax) (Wn ay) (Wn bx) (Wn by')) := by show _ = _; unfold sqI; rw [← hXX, ← hYY, bX, bY]
  have k1 : -67076100 ≤ XX ∧ XX ≤ 67076100 := by omega
  have k2 : -67076100 ≤ YY ∧ YY ≤ 67076100 := by omega
  obtain ⟨k1, k1'⟩ := k1
  obtain ⟨k2, k2'⟩ := k2
  clear u1 u2 b1 b2 b3 b4 c1 c2 bX bY
  have ne1 : ¬ g = g + 1 := by omega
  go_enter Tryz.func15, Tryz.ntmps15
  go_wp2
  rw [← hw0, ← hg]
  clear hw0 hg
  go_region_held3 (fun w' => w'.cell? ⟨g, 0, none⟩ = some (.int .i64 ax) ∧ w'.cell? ⟨g, 1, none⟩ = some (.int .i64 ay) ∧ w'.cell? ⟨g + 1, 0, none⟩ = some (.int .i64 bx) ∧ w'.cell? ⟨g + 1, 1, none⟩ = some (.int .i64 by')) (go_keep) (first | (go_at_call_of 11 ax; refine (within22_same ax h1 _).mono ?_; rintro e w' ⟨rfl, rfl⟩) | (go_at_call_of 11 ay; refine (within22_same ay h2 _).mono ?_; rintro e w' ⟨rfl, rfl⟩) | (go_at_call_of 11 bx; refine (within22_same bx h3 _).mono ?_; rintro e w' ⟨rfl, rfl⟩) | (go_at_call_of 11 by'; refine (within22_same by' h4 _).mono ?_; rintro e w' ⟨rfl, rfl⟩))
  obtain ⟨w1, hw1⟩ : ∃ w1, w1 = w0.drew := ⟨_, rfl⟩
  have hb1 : Below w.heap.size w w1 := by rw [hw1]; exact below_drewN hb0 1
  have i0 : w1.cell? ⟨g, 0, none⟩ = some (.int .i64 ax) := by rw [hw1]; exact i0
  have i1 : w1.cell? ⟨g, 1, none⟩ = some (.int .i64 ay) := by rw [hw1]; exact i1
  have i2 : w1.cell? ⟨g + 1, 0, none⟩ = some (.int .i64 bx) := by rw [hw1]; exact i2
  have i3 : w1.cell? ⟨g + 1, 1, none⟩ = some (.int .i64 by') := by rw [hw1]; exact i3
  rw [← hw1]
  clear hw1 hb0
  go_wp2
  go_region_held3 (fun w' => w'.cell? ⟨g, 0, none⟩ = some (.int .i64 ax) ∧ w'.cell? ⟨g, 1, none⟩ = some (.int .i64 ay) ∧ w'.cell? ⟨g + 1, 0, none⟩ = some (.int .i64 bx) ∧ w'.cell? ⟨g + 1, 1, none⟩ = some (.int .i64 by')) (go_keep) (first | (go_at_call_of 11 ax; refine (within22_same ax h1 _).mono ?_; rintro e w' ⟨rfl, rfl⟩) | (go_at_call_of 11 ay; refine (within22_same ay h2 _).mono ?_; rintro e w' ⟨rfl, rfl⟩) | (go_at_call_of 11 bx; refine (within22_same bx h3 _).mono ?_; rintro e w' ⟨rfl, rfl⟩) | (go_at_call_of 11 by'; refine (within22_same by' h4 _).mono ?_; rintro e w' ⟨rfl, rfl⟩))
  have MARK4 := 1
  go_wp2
  go_ret
  exact ⟨by rw [← HE.out]; rfl, below_drewN hb1 1⟩
end Go.Proofs.YtbonkgmcpjaepaaGreat
