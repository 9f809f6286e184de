/- package pred: order, spotsOf. -/
import Derived.Test.YtbonkgmcpjaepaaGreatPdD
namespace Go.Proofs.YtbonkgmcpjaepaaGreat
open Go.ChangeShapes Go.WideShapes Go.ChangeAt Go.RowKit
open Na Ar
set_option linter.unusedVariables false
/-- by x, then y -/
def ordS (ax ay bx by' : Rat) : Int := if ordR ax bx = 0 then ordR ay by' else ordR ax bx
section
variable {w : World} {s1 s2 s3 s4 : Bool} {a1 b1 a2 b2 a3 b3 a4 b4 : Option Addr} {n1 c1 m1 d1 n2 c2 m2 d2 n3 c3 m3 d3 n4 c4 m4 d4 : Nat} {p q r t : Rat} {k : Nat}
set_option maxHeartbeats 6400000 in
set_option maxRecDepth 100000 in
theorem order22_any (h1 : Rt w s1 a1 n1 c1 b1 m1 d1 p) (h2 : Rt w s2 a2 n2 c2 b2 m2 d2 q) (h3 : Rt w s3 a3 n3 c3 b3 m3 d3 r) (h4 : Rt w s4 a4 n4 c4 b4 m4 d4 t) (z1 : Sz p k) (z2 : Sz q k) (z3 : Sz r k) (z4 : Sz t k) (hk : k ≤ 600) :
    Calls Tryz.prog 33 #[.agg #[.bool s1, .slice a1 n1 c1, .slice b1 m1 d1, .bool s2, .slice a2 n2 c2, .slice b2 m2 d2], .agg #[.bool s3, .slice a3 n3 c3, .slice b3 m3 d3, .bool s4, .slice a4 n4 c4, .slice b4 m4 d4]] w fun e w' => e = .returned (.int .i64 (ordS p q r t)) ∧ Below w.heap.size w w' := by
  obtain ⟨w0, hw0⟩ : ∃ w0, w0 = (w.alloc (.cells #[.bool s1, .slice a1 n1 c1, .slice b1 m1 d1, .bool s2, .slice a2 n2 c2, .slice b2 m2 d2] 68)).alloc (.cells #[.bool s3, .slice a3 n3 c3, .slice b3 m3 d3, .bool s4, .slice a4 n4 c4, .slice b4 m4 d4] 68) := ⟨_, rfl⟩
  obtain ⟨u1, u2, hb0⟩ : Pb w0 w.heap.size 68 #[.bool s1, .slice a1 n1 c1, .slice b1 m1 d1, .bool s2, .slice a2 n2 c2, .slice b2 m2 d2] ∧ Pb w0 (w.heap.size + 1) 68 #[.bool s3, .slice a3 n3 c3, .slice b3 m3 d3, .bool s4, .slice a4 n4 c4, .slice b4 m4 d4] ∧ Below w.heap.size w w0 := by
    subst hw0
    exact pb_two' _ _ _ _ _
  have c1 := rCmp_ok (h1.later hb0) (h3.later hb0) z1 z3 (by omega) rfl
  have r2 := h2.later hb0
  have r4 := h4.later hb0
  clear h1 h2 h3 h4
  by_cases h0 : ordR p r = 0
  · have HE : Hid (ordR q t = ordS p q r t) := by show _ = _; unfold ordS; rw [if_pos h0]
    rw [h0] at c1
    clear h0
    go_enter Tryz.func33, Tryz.ntmps33
    go_wp2_with fail
    rw [← hw0]
    refine c1.mono ?_
    rintro e wA ⟨rfl, hbA⟩
    have hB := hb0.trans (hbA.mono hb0.size)
    obtain ⟨⟨i0, i1, i2, i3, i4, i5⟩, _⟩ := (u1.later hbA).six
    obtain ⟨⟨j0, j1, j2, j3, j4, j5⟩, _⟩ := (u2.later hbA).six
    have cc := rCmp_ok (r2.later hbA) (r4.later hbA) z2 z4 (by omega) HE.out
    clear c1 hw0
    go_wp2_with fail
    refine cc.mono ?_
    rintro e wB ⟨rfl, hbB⟩
    go_wp2
    go_ret
    exact ⟨rfl, hB.trans (hbB.mono hB.size)⟩
  · have HE : Hid (ordR p r = ordS p q r t) := by show _ = _; unfold ordS; rw [if_neg h0]
    have ht : (ordR p r == 0) = false := beq_no h0
    rw [HE.out] at c1 ht
    clear h0
    go_enter Tryz.func33, Tryz.ntmps33
    go_wp2_with fail
    rw [← hw0]
    refine c1.mono ?_
    rintro e wA ⟨rfl, hbA⟩
    have hB := hb0.trans (hbA.mono hb0.size)
    clear c1 hw0
    go_wp2
    go_ret
    exact ⟨rfl, hB⟩
end
theorem order22_at {w w0 : World} {s1 s2 s3 s4 : Bool} {a1 b1 a2 b2 a3 b3 a4 b4 : Option Addr} {n1 c1 m1 d1 n2 c2 m2 d2 n3 c3 m3 d3 n4 c4 m4 d4 : Nat} {p q r t : Rat} {k : Nat} (h1 : Rt w0 s1 a1 n1 c1 b1 m1 d1 p) (h2 : Rt w0 s2 a2 n2 c2 b2 m2 d2 q) (h3 : Rt w0 s3 a3 n3 c3 b3 m3 d3 r) (h4 : Rt w0 s4 a4 n4 c4 b4 m4 d4 t) (z1 : Sz p k) (z2 : Sz q k) (z3 : Sz r k) (z4 : Sz t k) (hk : k ≤ 600) (h : Below w0.heap.size w0 w) :
    Calls Tryz.prog 33 #[.agg #[.bool s1, .slice a1 n1 c1, .slice b1 m1 d1, .bool s2, .slice a2 n2 c2, .slice b2 m2 d2], .agg #[.bool s3, .slice a3 n3 c3, .slice b3 m3 d3, .bool s4, .slice a4 n4 c4, .slice b4 m4 d4]] w fun e w' => e = .returned (.int .i64 (ordS p q r t)) ∧ Below w0.heap.size w0 w' := by
  refine (order22_any (h1.later h) (h2.later h) (h3.later h) (h4.later h) z1 z2 z3 z4 hk).mono ?_
  rintro e w' ⟨rfl, hb⟩
  exact ⟨rfl, h.trans (hb.mono h.size)⟩
theorem turn22_at {w w0 : World} {s1 s2 s3 s4 s5 s6 : Bool} {a1 b1 a2 b2 a3 b3 a4 b4 a5 b5 a6 b6 : Option Addr} {n1 c1 m1 d1 n2 c2 m2 d2 n3 c3 m3 d3 n4 c4 m4 d4 n5 c5 m5 d5 n6 c6 m6 d6 : Nat} {q1 q2 q3 q4 q5 q6 : Rat} {k : Nat} (h1 : Rt w0 s1 a1 n1 c1 b1 m1 d1 q1) (h2 : Rt w0 s2 a2 n2 c2 b2 m2 d2 q2) (h3 : Rt w0 s3 a3 n3 c3 b3 m3 d3 q3) (h4 : Rt w0 s4 a4 n4 c4 b4 m4 d4 q4) (h5 : Rt w0 s5 a5 n5 c5 b5 m5 d5 q5) (h6 : Rt w0 s6 a6 n6 c6 b6 m6 d6 q6) (z1 : Sz q1 k) (z2 : Sz q2 k) (z3 : Sz q3 k) (z4 : Sz q4 k) (z5 : Sz q5 k) (z6 : Sz q6 k) (hk : k ≤ 60) (h : Below w0.heap.size w0 w) :
    Calls Tryz.prog 27 #[.agg #[.bool s1, .slice a1 n1 c1, .slice b1 m1 d1, .bool s2, .slice a2 n2 c2, .slice b2 m2 d2], .agg #[.bool s3, .slice a3 n3 c3, .slice b3 m3 d3, .bool s4, .slice a4 n4 c4, .slice b4 m4 d4], .agg #[.bool s5, .slice a5 n5 c5, .slice b5 m5 d5, .bool s6, .slice a6 n6 c6, .slice b6 m6 d6]] w fun e w' => e = .returned (.int .i64 (sgnR (crR q1 q2 q3 q4 q5 q6))) ∧ Below w0.heap.size w0 w' := by
  refine (turn22_any (h1.later h) (h2.later h) (h3.later h) (h4.later h) (h5.later h) (h6.later h) z1 z2 z3 z4 z5 z6 hk).mono ?_
  rintro e w' ⟨rfl, hb⟩
  exact ⟨rfl, h.trans (hb.mono h.size)⟩
theorem order22_any' {w0 : World} {s1 s2 s3 s4 : Bool} {a1 b1 a2 b2 a3 b3 a4 b4 : Option Addr} {n1 c1 m1 d1 n2 c2 m2 d2 n3 c3 m3 d3 n4 c4 m4 d4 : Nat} {p q r t : Rat} {k : Nat} (h1 : Rt w0 s1 a1 n1 c1 b1 m1 d1 p) (h2 : Rt w0 s2 a2 n2 c2 b2 m2 d2 q) (h3 : Rt w0 s3 a3 n3 c3 b3 m3 d3 r) (h4 : Rt w0 s4 a4 n4 c4 b4 m4 d4 t) (z1 : Sz p k) (z2 : Sz q k) (z3 : Sz r k) (z4 : Sz t k) (hk : k ≤ 600) : ∀ w, Below w0.heap.size w0 w →
    Calls Tryz.prog 33 #[.agg #[.bool s1, .slice a1 n1 c1, .slice b1 m1 d1, .bool s2, .slice a2 n2 c2, .slice b2 m2 d2], .agg #[.bool s3, .slice a3 n3 c3, .slice b3 m3 d3, .bool s4, .slice a4 n4 c4, .slice b4 m4 d4]] w fun e w' => e = .returned (.int .i64 (ordS p q r t)) ∧ Below w0.heap.size w0 w' := fun w h => order22_at h1 h2 h3 h4 z1 z2 z3 z4 hk h
theorem turn22_any' {w0 : World} {s1 s2 s3 s4 s5 s6 : Bool} {a1 b1 a2 b2 a3 b3 a4 b4 a5 b5 a6 b6 : Option Addr} {n1 c1 m1 d1 n2 c2 m2 d2 n3 c3 m3 d3 n4 c4 m4 d4 n5 c5 m5 d5 n6 c6 m6 d6 : Nat} {q1 q2 q3 q4 q5 q6 : Rat} {k : Nat} (h1 : Rt w0 s1 a1 n1 c1 b1 m1 d1 q1) (h2 : Rt w0 s2 a2 n2 c2 b2 m2 d2 q2) (h3 : Rt w0 s3 a3 n3 c3 b3 m3 d3 q3) (h4 : Rt w0 s4 a4 n4 c4 b4 m4 d4 q4) (h5 : Rt w0 s5 a5 n5 c5 b5 m5 d5 q5) (h6 : Rt w0 s6 a6 n6 c6 b6 m6 d6 q6) (z1 : Sz q1 k) (z2 : Sz q2 k) (z3 : Sz q3 k) (z4 : Sz q4 k) (z5 : Sz q5 k) (z6 : Sz q6 k) (hk : k ≤ 60) : ∀ w, Below w0.heap.size w0 w →
    Calls Tryz.prog 27 #[.agg #[.bool s1, .slice a1 n1 c1, .slice b1 m1 d1, .bool s2, .slice a2 n2 c2, .slice b2 m2 d2], .agg #[.bool s3, .slice a3 n3 c3, .slice b3 m3 d3, .bool s4, .slice a4 n4 c4, .slice b4 m4 d4], .agg #[.bool s5, .slice a5 n5 c5, .slice b5 m5 d5, .bool s6, .slice a6 n6 c6, .slice b6 m6 d6]] w fun e w' => e = .returned (.int .i64 (sgnR (crR q1 q2 q3 q4 q5 q6))) ∧ Below w0.heap.size w0 w' := fun w h => turn22_at h1 h2 h3 h4 h5 h6 z1 z2 z3 z4 z5 z6 hk h
/-- a list of points in memory: the patterns of the point number i -/
def PtAt (w : World) (g o : Nat) (P : Nat → Int × Int) (n : Nat) : Prop := ∀ i, i < n → w.cell? ⟨g, o + i * 2, none⟩ = some (.int .u64 (P i).1) ∧ w.cell? ⟨g, o + i * 2 + 1, none⟩ = some (.int .u64 (P i).2) ∧ U (P i).1 ∧ U (P i).2
/-- the Rat number t of a block of Rats -/
def RaAt (w : World) (base : Nat) (cs : Array Value) (t : Nat) (q : Rat) : Prop := ∃ s a n c b m d, cs[t * 3]? = some (.bool s) ∧ cs[t * 3 + 1]? = some (.slice a n c) ∧ cs[t * 3 + 2]? = some (.slice b m d) ∧ RtO w base s (.slice a n c) (.slice b m d) q
/-- the number of the pattern number t of a list of points -/
def numT (P : Nat → Int × Int) (t : Nat) : Int := if t % 2 = 0 then (P (t / 2)).1 else (P (t / 2)).2
theorem info_spot22 : (Tryz.prog.info? 68).map (fun i => (i.zero, i.size, i.bytes)) = some (some (.agg #[.bool false, .slice none 0 0, .slice none 0 0, .bool false, .slice none 0 0, .slice none 0 0]), 6, 112) := by kernel_rfl
theorem under_spot22 : Tryz.prog.underlying 63 = some (.slice 68) := by kernel_rfl
theorem make22 (w : World) (n : Nat) (hn : n ≤ 1000000) : ∃ cs, cs.size = n * 6 ∧ (Instr.makeSlice 63 (.int .i64 (n : Int)) (.int .i64 (n : Int))).run Tryz.prog w = .ok (.slice (some ⟨w.heap.size, 0, none⟩) n n) (w.alloc (.cells cs 68)) := by
  cases hi : Tryz.prog.info? 68 with
  | none => have h := info_spot22; rw [hi] at h; cases h
  | some i =>
    have h := info_spot22
    rw [hi] at h
    simp only [Option.map_some, Option.some.injEq, Prod.mk.injEq] at h
    obtain ⟨h1, h2, h3⟩ := h
    have hr := run_make (P := Tryz.prog) w 63 68 i _ under_spot22 hi h1 .i64 .i64 (n : Int) (n : Int) (by omega) (by omega) (by rw [h3]; omega) (by omega)
    refine ⟨_, ?_, by simpa using hr⟩
    rw [size_madeCells, h2]
theorem index22_0 (x y : Int) (w : World) : (Instr.index 84 (.agg #[.int .u64 x, .int .u64 y]) (.int .i64 0)).run Tryz.prog w = .ok (.int .u64 x) w := by kernel_rfl
theorem index22_1 (x y : Int) (w : World) : (Instr.index 84 (.agg #[.int .u64 x, .int .u64 y]) (.int .i64 1)).run Tryz.prog w = .ok (.int .u64 y) w := by kernel_rfl
theorem raAt_later {w w' : World} {base : Nat} {cs : Array Value} {t : Nat} {q : Rat} (h : RaAt w base cs t q) (hb : Below w.heap.size w w') : RaAt w' base cs t q := by
  obtain ⟨s, a, n, c, b, m, d, e1, e2, e3, r⟩ := h
  exact ⟨s, a, n, c, b, m, d, e1, e2, e3, r.later hb⟩
theorem three_at {w : World} {g : Nat} {t : TypeId} {cs : Array Value} (h : Pb w g t cs) (i : Nat) (hi : i + 2 < cs.size) : (∃ v, w.cell? ⟨g, i, none⟩ = some v) ∧ (∃ v, w.cell? ⟨g, i + 1, none⟩ = some v) ∧ (∃ v, w.cell? ⟨g, i + 2, none⟩ = some v) :=
  ⟨⟨cs[i], h.cell i (by simp [show i < cs.size by omega])⟩, ⟨cs[i + 1], h.cell (i + 1) (by simp [show i + 1 < cs.size by omega])⟩, ⟨cs[i + 2], h.cell (i + 2) (by simp [show i + 2 < cs.size by omega])⟩⟩
theorem three_free {w : World} {g : Nat} {t : TypeId} {cs : Array Value} (h : Pb w g t cs) (i : Nat) : w.frozen? ⟨g, i, none⟩ = false ∧ w.frozen? ⟨g, i + 1, none⟩ = false ∧ w.frozen? ⟨g, i + 2, none⟩ = false := ⟨h.frozen _, h.frozen _, h.frozen _⟩
theorem ra_set {w : World} {o k T base : Nat} {ty : TypeId} {cs : Array Value} {s : Bool} {a b : Option Addr} {n c m d : Nat} {q : Rat} (h : Pb w o ty cs) (hk : k = T * 3) (hT : k + 2 < cs.size) (hR : RtO w base s (.slice a n c) (.slice b m d) q) (hb : o < base) :
    ∃ cs', cs'.size = cs.size ∧ Pb ((((w.setCell ⟨o, k, none⟩ (.bool s)).setCell ⟨o, k + 1, none⟩ (.slice a n c)).setCell ⟨o, k + 2, none⟩ (.slice b m d)).drew) o ty cs' ∧ RaAt ((((w.setCell ⟨o, k, none⟩ (.bool s)).setCell ⟨o, k + 1, none⟩ (.slice a n c)).setCell ⟨o, k + 2, none⟩ (.slice b m d)).drew) base cs' T q ∧ (∀ t p, t ≠ T → RaAt w base cs t p → RaAt ((((w.setCell ⟨o, k, none⟩ (.bool s)).setCell ⟨o, k + 1, none⟩ (.slice a n c)).setCell ⟨o, k + 2, none⟩ (.slice b m d)).drew) base cs' t p) ∧ In o (o + 1) w ((((w.setCell ⟨o, k, none⟩ (.bool s)).setCell ⟨o, k + 1, none⟩ (.slice a n c)).setCell ⟨o, k + 2, none⟩ (.slice b m d)).drew) := by
  have hi : In o (o + 1) w ((((w.setCell ⟨o, k, none⟩ (.bool s)).setCell ⟨o, k + 1, none⟩ (.slice a n c)).setCell ⟨o, k + 2, none⟩ (.slice b m d)).drew) := ((((In.refl o (o + 1) w).set1 k _).set1 (k + 1) _).set1 (k + 2) _).trans (in_drew o _)
  refine ⟨((cs.setIfInBounds k (.bool s)).setIfInBounds (k + 1) (.slice a n c)).setIfInBounds (k + 2) (.slice b m d), by simp, ((h.set k _).set (k + 1) _).set (k + 2) _, ?_, ?_, hi⟩
  · subst hk
    refine ⟨s, a, n, c, b, m, d, ?_, ?_, ?_, hR.inn hi hb⟩
    · simp [show T * 3 < cs.size by omega]
    · simp [show T * 3 + 1 < cs.size by omega]
    · simp [show T * 3 + 2 < cs.size by omega]
  · rintro t p ht ⟨s', a', n', c', b', m', d', e1, e2, e3, r⟩
    subst hk
    refine ⟨s', a', n', c', b', m', d', ?_, ?_, ?_, r.inn hi hb⟩
    · rw [Array.getElem?_setIfInBounds_ne (by omega), Array.getElem?_setIfInBounds_ne (by omega), Array.getElem?_setIfInBounds_ne (by omega)]; exact e1
    · rw [Array.getElem?_setIfInBounds_ne (by omega), Array.getElem?_setIfInBounds_ne (by omega), Array.getElem?_setIfInBounds_ne (by omega)]; exact e2
    · rw [Array.getElem?_setIfInBounds_ne (by omega), Array.getElem?_setIfInBounds_ne (by omega), Array.getElem?_setIfInBounds_ne (by omega)]; exact e3
/-- what spotsOf answers -/
def SpQ (w : World) (n : Nat) (P : Nat → Int × Int) (e : Ending) (w' : World) : Prop :=
  ((∀ t, t < 2 * n → ef (numT P t) ≠ 2047) ∧ ∃ o cs, e = .returned (.tuple #[.slice (some ⟨o, 0, none⟩) n n, .int .i64 0]) ∧ Pb w' o 68 cs ∧ w.heap.size ≤ o ∧ cs.size = n * 6 ∧ (∀ t, t < 2 * n → RaAt w' (o + 1) cs t (valR (numT P t))) ∧ Below w.heap.size w w') ∨
  ((∃ t, t < 2 * n ∧ ef (numT P t) = 2047) ∧ e = .returned (.tuple #[.slice none 0 0, .int .i64 220]) ∧ Below w.heap.size w w')
set_option maxHeartbeats 6400000 in
set_option maxRecDepth 100000 in
theorem spots22_any {w : World} {g n c : Nat} {P : Nat → Int × Int} (hP : PtAt w g 0 P n) (hg : g < w.heap.size) (hn : n ≤ 1000000) :
    Calls Tryz.prog 26 #[.slice (some ⟨g, 0, none⟩) n c] w fun e w' => SpQ w n P e w' := by
  obtain ⟨cs0, hcs0, hmk⟩ := make22 w n hn
  have hb0 := alloc_below (w := w) (.cells cs0 68)
  have p0 := Pb.new w 68 cs0
  obtain ⟨o, ho⟩ : ∃ o, o = w.heap.size := ⟨_, rfl⟩
  have HO : Hid (w.heap.size = o) := ho.symm
  rw [← ho] at hmk p0
  clear ho
  go_enter Tryz.func26, Tryz.ntmps26
  go_wp2
  clear hmk
  generalize w.alloc (.cells cs0 68) = w0 at *
  go_loopw [16] (fun i wr => ∃ (j : Nat) (cs : Array Value), j ≤ n ∧ i = .int .i64 j ∧ Pb wr o 68 cs ∧ cs.size = n * 6 ∧ (∀ t, t < 2 * j → ef (numT P t) ≠ 2047 ∧ RaAt wr (o + 1) cs t (valR (numT P t))) ∧ Below w.heap.size w wr) (fun i _ => n - (intOf i).toNat)
  case atStart => exact ⟨0, cs0, Nat.zero_le _, rfl, p0, hcs0, fun t ht => absurd ht (by omega), hb0⟩
  case round =>
    obtain ⟨j, cs, hj, rfl, hPb, hcs, hT, hB⟩ := hrel
    clear p0 hb0
    by_cases hlt : j < n
    · have i1 : (j : Int) < (n : Int) := by omega
      have hi0 : (0 : Int) ≤ (j : Int) := by omega
      obtain ⟨x0, x1, ux, uy⟩ := hP j hlt
      simp only [Nat.zero_add] at x0 x1
      have X0 := (hB.cell (p := ⟨g, j * 2, none⟩) hg).trans x0
      have X1 := (hB.cell (p := ⟨g, j * 2 + 1, none⟩) hg).trans x1
      have eX : numT P (2 * j) = (P j).1 := by unfold numT; rw [if_pos (by omega)]; congr 2; omega
      have eY : numT P (2 * j + 1) = (P j).2 := by unfold numT; rw [if_neg (by omega)]; congr 2; omega
      have HX : Hid (numT P (2 * j) = (P j).1) := eX
      have HY : Hid (numT P (2 * j + 1) = (P j).2) := eY
      clear eX eY x0 x1
      generalize (P j).1 = x at *
      generalize (P j).2 = y at *
      have al := alloc_below (w := wr) (.cells #[.int .u64 x, .int .u64 y] 28)
      have szr : (wr.alloc (.cells #[.int .u64 x, .int .u64 y] 28)).heap.size = wr.heap.size + 1 := by simp
      have ob := hPb.lt
      have oH := HO.out
      have wo : w.heap.size ≤ o := by rw [oH]; exact Nat.le_refl _
      clear oH
      have hBs := hB.size
      have P1 := hPb.later al
      have T1 := fun t ht => raAt_later (hT t ht).2 al
      have B1 := hB.trans (al.mono hBs)
      go_wp2
      generalize wr.alloc (.cells #[.int .u64 x, .int .u64 y] 28) = w1 at *
      clear X0 X1
      have ix0 := index22_0 x y
      have ix1 := index22_1 x y
      refine wp_loop_rounds 3 ?_
      rw [rounds_succ]
      by_cases fx : ef x = 2047
      · go_wp2_with fail
        refine (nearValue_inf ux fx w1).mono ?_
        rintro e wX ⟨rfl, hbX⟩
        have B2 := B1.trans (hbX.mono (by omega))
        have al2 := alloc_below (w := wX) (.cells #[.bool false, .slice none 0 0, .slice none 0 0] 57)
        have B3 := B2.trans (al2.mono B2.size)
        go_wp2
        go_ret2
        exact Or.inr ⟨⟨2 * j, by omega, by rw [HX.out]; exact fx⟩, rfl, B3⟩
      · have Fx : Hid (ef x ≠ 2047) := fx
        go_wp2_with fail
        refine (nearValue_fin ux fx w1).mono ?_
        rintro e wX ⟨s, v1, v2, rfl, hR, hbX⟩
        obtain ⟨a, k, d, b, m, q, rfl, rfl, _⟩ := hR.opens
        have B2 := B1.trans (hbX.mono (by omega))
        have al2 := alloc_below (w := wX) (.cells #[.bool s, .slice a k d, .slice b m q] 57)
        have B3 := B2.trans (al2.mono B2.size)
        have P2 := (P1.later hbX).later al2
        have T2 := fun t ht => raAt_later (raAt_later (T1 t ht) hbX) al2
        have R2 := hR.later al2
        have sX := hbX.size
        have szX : (wX.alloc (.cells #[.bool s, .slice a k d, .slice b m q] 57)).heap.size = wX.heap.size + 1 := by simp
        obtain ⟨⟨c0, k0⟩, ⟨c1, k1⟩, ⟨c2, k2⟩⟩ := three_at P2 (j * 6) (by omega)
        obtain ⟨f0, f1, f2⟩ := three_free P2 (j * 6)
        obtain ⟨n0, n1, n2⟩ := pb_tri (Pb.new wX 57 #[.bool s, .slice a k d, .slice b m q])
        have nw1 : ¬ o = wX.heap.size := by omega
        have nw2 : ¬ wX.heap.size = o := by omega
        have hj0 : (0 : Int) ≤ (j : Int) := by omega
        clear al2 B2
        go_wp2
        generalize wX.alloc (.cells #[.bool s, .slice a k d, .slice b m q] 57) = w2 at *
        go_region
        obtain ⟨cs1, hcs1, P3, RA, RO, I3⟩ := ra_set (k := j * 6) (T := 2 * j) P2 (by omega) (by omega) (R2.lower (base' := o + 1) (by omega)) (by omega)
        rw [← HX.out] at RA
        have T3 : ∀ t, t < 2 * j + 1 → RaAt _ (o + 1) cs1 t (valR (numT P t)) := fun t ht => by
          by_cases e : t = 2 * j
          · subst e; exact RA
          · exact RO t _ e (T2 t (by omega))
        have B4 := below_in B3 I3 wo (Nat.le_refl _)
        have s4 := I3.size
        rw [hcs] at hcs1
        clear k0 k1 k2 f0 f1 f2 P2 T2 R2 RO RA I3 B3 n0 n1 n2
        generalize (((w2.setCell ⟨o, j * 6, none⟩ (.bool s)).setCell ⟨o, j * 6 + 1, none⟩ (.slice a k d)).setCell ⟨o, j * 6 + 2, none⟩ (.slice b m q)).drew = w4 at *
        go_wp2
        rw [rounds_succ]
        by_cases fy : ef y = 2047
        · go_wp2_with fail
          refine (nearValue_inf uy fy w4).mono ?_
          rintro e wY ⟨rfl, hbY⟩
          have B5 := B4.trans (hbY.mono (by omega))
          have al3 := alloc_below (w := wY) (.cells #[.bool false, .slice none 0 0, .slice none 0 0] 57)
          have B6 := B5.trans (al3.mono B5.size)
          go_wp2
          go_ret2
          exact Or.inr ⟨⟨2 * j + 1, by omega, by rw [HY.out]; exact fy⟩, rfl, B6⟩
        · have Fy : Hid (ef y ≠ 2047) := fy
          go_wp2_with fail
          refine (nearValue_fin uy fy w4).mono ?_
          rintro e wY ⟨s', v1, v2, rfl, hR', hbY⟩
          obtain ⟨a', k', d', b', m', q', rfl, rfl, _⟩ := hR'.opens
          have B5 := B4.trans (hbY.mono (by omega))
          have al3 := alloc_below (w := wY) (.cells #[.bool s', .slice a' k' d', .slice b' m' q'] 57)
          have B6 := B5.trans (al3.mono B5.size)
          have P5 := (P3.later hbY).later al3
          have T5 := fun t ht => raAt_later (raAt_later (T3 t ht) hbY) al3
          have R5 := hR'.later al3
          have sY := hbY.size
          have szY : (wY.alloc (.cells #[.bool s', .slice a' k' d', .slice b' m' q'] 57)).heap.size = wY.heap.size + 1 := by simp
          obtain ⟨⟨c0', k0⟩, ⟨c1', k1⟩, ⟨c2', k2⟩⟩ := three_at P5 (j * 6 + 3) (by omega)
          obtain ⟨f0, f1, f2⟩ := three_free P5 (j * 6 + 3)
          obtain ⟨n0, n1, n2⟩ := pb_tri (Pb.new wY 57 #[.bool s', .slice a' k' d', .slice b' m' q'])
          have nw1 : ¬ o = wY.heap.size := by omega
          have nw2 : ¬ wY.heap.size = o := by omega
          clear al3 B5 P3 T3
          go_wp2
          generalize wY.alloc (.cells #[.bool s', .slice a' k' d', .slice b' m' q'] 57) = w5 at *
          go_region
          obtain ⟨cs2, hcs2, P6, RA, RO, I6⟩ := ra_set (k := j * 6 + 3) (T := 2 * j + 1) P5 (by omega) (by omega) (R5.lower (base' := o + 1) (by omega)) (by omega)
          rw [← HY.out] at RA
          have T6 : ∀ t, t < 2 * (j + 1) → ef (numT P t) ≠ 2047 ∧ RaAt _ (o + 1) cs2 t (valR (numT P t)) := fun t ht => by
            by_cases e : t = 2 * j + 1
            · subst e; exact ⟨by rw [HY.out]; exact Fy.out, RA⟩
            · refine ⟨?_, RO t _ e (T5 t (by omega))⟩
              by_cases e' : t = 2 * j
              · subst e'; rw [HX.out]; exact Fx.out
              · exact (hT t (by omega)).1
          have B7 := below_in B6 I6 wo (Nat.le_refl _)
          rw [hcs1] at hcs2
          clear k0 k1 k2 f0 f1 f2 P5 T5 R5 RO RA I6 B6 n0 n1 n2
          generalize (((w5.setCell ⟨o, j * 6 + 3, none⟩ (.bool s')).setCell ⟨o, j * 6 + 3 + 1, none⟩ (.slice a' k' d')).setCell ⟨o, j * 6 + 3 + 2, none⟩ (.slice b' m' q')).drew = w7 at *
          go_wp2
          rw [rounds_succ]
          go_wp2
          go_roundw
          case rel => exact ⟨j + 1, cs2, hlt, by go_num, P6, hcs2, T6, B7⟩
          case measure => simp [intOf]; omega
    · have i1 : ¬ (j : Int) < (n : Int) := by omega
      have hjn : j = n := by omega
      subst hjn
      have ob := HO.out
      go_wp2
      go_ret2
      exact Or.inl ⟨fun t ht => (hT t ht).1, o, cs, rfl, hPb, by rw [ob]; exact Nat.le_refl _, hcs, fun t ht => (hT t ht).2, hB⟩
end Go.Proofs.YtbonkgmcpjaepaaGreat
