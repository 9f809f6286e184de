/- plumblaw12: taken, told, apart; distances. -/
import Derived.Test.YtalglldkjbinbaaGreatDoorRyuG
import Derived.Test.YtalglldkjbinbaaGreatDoorRyuWa
import Derived.Test.YtalglldkjbinbaaGreatDoorNearR
namespace Go.Proofs.YtalglldkjbinbaaGreatDoor
open Go.ChangeShapes Go.WideShapes Go.ChangeAt Go.RowKit
open Na Ar Ry
set_option linter.unusedVariables false
namespace Ry
/-- without its sign -/
def absR (q : Rat) : Rat := if q.num < 0 then -q else q
theorem num_lt0 (q : Rat) : q.num < 0 ↔ q < 0 := by
  rw [← Int.not_le, ← Rat.not_le, Rat.num_nonneg]
theorem absR_lt (q : Rat) : absR q = if q < 0 then -q else q := by
  unfold absR
  by_cases h : q < 0
  · rw [if_pos h, if_pos ((num_lt0 q).mpr h)]
  · rw [if_neg h, if_neg (fun k => h ((num_lt0 q).mp k))]
theorem dist_lt {x y q : Rat} (hxy : x < y) (h : q + q < x + y) : absR (x - q) < absR (y - q) := by
  rw [absR_lt, absR_lt]
  split <;> split <;> grind
theorem dist_gt {x y q : Rat} (hxy : x < y) (h : x + y < q + q) : absR (y - q) < absR (x - q) := by
  rw [absR_lt, absR_lt]
  split <;> split <;> grind
theorem dist_eq {x y q : Rat} (hxy : x < y) (h : q + q = x + y) : absR (x - q) = absR (y - q) := by
  rw [absR_lt, absR_lt]
  split <;> split <;> grind
theorem absR_num (q : Rat) : ((absR q).num.natAbs : Int) = (q.num.natAbs : Int) ∧ (absR q).den = q.den ∧ ¬ (absR q).num < 0 := by
  unfold absR
  split
  · next h =>
    rw [Rat.neg_num, Rat.neg_den]
    exact ⟨by omega, rfl, by omega⟩
  · next h => exact ⟨rfl, rfl, h⟩
theorem Rt_abs {w : World} {s : Bool} {a b : Option Addr} {n c m d : Nat} {q : Rat} (h : Rt w s a n c b m d q) : Rt w false a n c b m d (absR q) := by
  obtain ⟨h1, h2, h3⟩ := absR_num q
  refine ⟨by simp only [h3, decide_false], ?_, ?_⟩
  · rw [h1]; exact h.nu
  · rw [h2]; exact h.de
theorem Sz_abs {q : Rat} {k : Nat} (h : Sz q k) : Sz (absR q) k := by
  obtain ⟨h1, h2, h3⟩ := absR_num q
  unfold Sz
  rw [h1, h2]
  exact h
theorem mk_nonneg {A B : Int} (hA : 0 ≤ A) (hB : 0 < B) : ¬ (mkR false A B).num < 0 := by
  rw [rat_num hA hB, sg_false]
  have := Int.ediv_nonneg (a := A) (b := (Int.gcd A B : Int)) hA (by omega)
  omega
/-- a number that is not below 0, rounded -/
theorem round_rat {A B v E : Int} (hA : 0 ≤ A) (hB : 0 < B) {q : Rat} (hq : q = mkR false A B) : RoundIs (scA (q.num.natAbs : Int) 0) (scB (q.den : Int) 0) false false 0 v E ↔ RoundIs (scA A 0) (scB B 0) false false 0 v E := by
  have c := mkR_cross false hA hB
  have pd : (0 : Int) < (q.den : Int) := by have := q.den_pos; omega
  have nn := mk_nonneg hA hB
  rw [← hq] at c nn
  have e : (q.num.natAbs : Int) = q.num := by omega
  rw [e]
  rw [sg_false] at c
  refine round_cross (scB_pos' pd) (scB_pos' hB) ?_
  rw [scB_flat, scB_flat]
  show q.num * e2 (0 + 1074) * B = A * e2 (0 + 1074) * q.den
  rw [Int.mul_right_comm, c, Int.mul_right_comm]
end Ry
theorem RtO_rt12 {w : World} {base : Nat} {s : Bool} {a b : Option Addr} {n c m d : Nat} {q : Rat} (h : RtO w base s (.slice a n c) (.slice b m d) q) : Rt w s a n c b m d q := by
  obtain ⟨a', n', c', b', m', d', e1, e2, r⟩ := h.opens
  injection e1 with i1 i2 i3
  injection e2 with j1 j2 j3
  subst i1 i2 i3 j1 j2 j3
  exact r
theorem st_flag {w : World} {g : Nat} {t : TypeId} {x y z x' : Value} (h : St w g t x y z) : St (w.setCell ⟨g, 0, none⟩ x') g t x' y z := by
  have := set_block8 (i := 0) (v := x') h
  unfold St
  rw [this]
  simp
theorem dec_nn {d e : Int} (hd : U d) : ¬ (decR d e).num < 0 := mk_nonneg (exN_nonneg hd.1 e) (exD_pos e)
set_option maxHeartbeats 1600000 in
set_option maxRecDepth 100000 in
theorem taken12_any {d e b : Int} (hd : U d) (he0 : -370 ≤ e) (he1 : e ≤ 370) {w : World} (hG : GrVar w) :
    Calls Tryz.prog 15 #[.int .u64 d, .int .i64 e, .int .u64 b] w fun r w' => ∃ t, r = .returned (.bool t) ∧ (t = true ↔ ExIs d e b 0) ∧ Below w.heap.size w w' := by
  have D1 := dec12_any hd he0 he1 w
  have z1 := (dec_size hd he0 he1).2.2
  have nn := dec_nn (e := e) hd
  have hR : ∀ v E, RoundIs (scA ((decR d e).num.natAbs : Int) 0) (scB ((decR d e).den : Int) 0) false false 0 v E ↔ ExIs d e v E := fun v E => round_rat (exN_nonneg hd.1 e) (exD_pos e) rfl
  generalize decR d e = P at *
  go_enter Tryz.func15, Tryz.ntmps15
  go_wp2_with fail
  refine D1.mono ?_
  rintro r v4 ⟨s4, a4, n4, c4, b4, m4, f4, rfl, R4, hb4⟩
  have hs : s4 = false := by rw [R4.sgn]; simpa using nn
  subst hs
  have t4 := st_new v4 (.bool false) (.slice a4 n4 c4) (.slice b4 m4 f4) 26
  have R5 := R4.later (alloc_below (w := v4) (.cells #[.bool false, .slice a4 n4 c4, .slice b4 m4 f4] 26))
  have B5 : Below w.heap.size w (v4.alloc (.cells #[.bool false, .slice a4 n4 c4, .slice b4 m4 f4] 26)) := hb4.alloc hb4.size _
  have hQ := nearRat_ok (mode := 0) R5 z1 (by omega) (by omega) (by omega) (hG.later B5)
  obtain ⟨x0, x1, x2⟩ := t4.cells
  clear D1 R4 R5 t4 hb4
  go_wp2_with fail
  refine hQ.mono ?_
  rintro r v5 ⟨v, E, rfl, hr, hu, b5⟩
  have B6 := B5.trans (b5.mono B5.size)
  have hx := (hR v E).mp hr
  have HX : Hid (ExIs d e v E) := hx
  clear hQ x0 x1 x2 b5 B5 hr hx hR
  go_wp2_with fail
  refine (num12_same _ _).mono ?_
  rintro r vz ⟨rfl, hz⟩
  rw [hz]
  clear hz
  by_cases e0 : E = 0
  · subst e0
    by_cases hv : v = b
    · subst hv
      have q1 : (v == v) = true := beq_of rfl
      go_wp2
      go_ret
      exact ⟨true, rfl, ⟨fun _ => HX.out, fun _ => rfl⟩, B6⟩
    · have q1 : (v == b) = false := beq_no hv
      go_wp2
      go_ret
      exact ⟨false, rfl, ⟨(fun h => nomatch h), fun h => absurd (ex_uniq HX.out h).1 hv⟩, B6⟩
  · have q1 : (E == 0) = false := beq_no e0
    go_wp2
    go_ret
    exact ⟨false, rfl, ⟨(fun h => nomatch h), fun h => absurd (ex_uniq HX.out h).2 e0⟩, B6⟩
theorem taken12_yes {d e b : Int} (hd : U d) (he0 : -370 ≤ e) (he1 : e ≤ 370) (h : ExIs d e b 0) {w : World} (hG : GrVar w) :
    Calls Tryz.prog 15 #[.int .u64 d, .int .i64 e, .int .u64 b] w fun r w' => r = .returned (.bool true) ∧ Below w.heap.size w w' :=
  (taken12_any hd he0 he1 hG).mono (by rintro r w' ⟨t, rfl, h', hb⟩; rw [h'.mpr h]; exact ⟨rfl, hb⟩)
theorem taken12_no {d e b : Int} (hd : U d) (he0 : -370 ≤ e) (he1 : e ≤ 370) (h : ¬ ExIs d e b 0) {w : World} (hG : GrVar w) :
    Calls Tryz.prog 15 #[.int .u64 d, .int .i64 e, .int .u64 b] w fun r w' => r = .returned (.bool false) ∧ Below w.heap.size w w' :=
  (taken12_any hd he0 he1 hG).mono (by
    rintro r w' ⟨t, rfl, h', hb⟩
    cases t
    · exact ⟨rfl, hb⟩
    · exact absurd (h'.mp rfl) h)
theorem told12_any {d e : Int} (h1 : 0 < d) (h2 : d < 100000000000000000) (h3 : d % 10 ≠ 0) (h4 : -324 ≤ e) (h5 : e ≤ 308) (w : World) :
    Calls Tryz.prog 14 #[.int .u64 d, .int .i64 e] w fun r w' => r = .returned (.bool true) ∧ w' = w := by
  have q1 : decide (d > 0) = true := by simp; omega
  have q1' : decide (0 < d) = true := by simp; omega
  have q2 : decide (d < 100000000000000000) = true := by simp; omega
  have q3 : (d % 10 != 0) = true := bne_yes h3
  have q4 : decide (e ≥ -324) = true := by simp; omega
  have q4' : decide (-324 ≤ e) = true := by simp; omega
  have q5 : decide (e ≤ 308) = true := by simp; omega
  go_enter Tryz.func14, Tryz.ntmps14
  go_wp2
  go_ret
  exact ⟨rfl, rfl⟩
set_option maxHeartbeats 6400000 in
set_option maxRecDepth 100000 in
theorem apart12_any {d e : Int} (hd : U d) (he0 : -370 ≤ e) (he1 : e ≤ 370) {w : World} {s : Bool} {a b2 : Option Addr} {n c m f : Nat} {q : Rat} {k : Nat} (hR : Rt w s a n c b2 m f q) (hz : Sz q k) (hk : k ≤ 1000) :
    Calls Tryz.prog 16 #[.int .u64 d, .int .i64 e, .agg #[.bool s, .slice a n c, .slice b2 m f]] w fun r w' => ∃ a' n' c' b' m' d', r = .returned (.tuple #[.agg #[.bool false, .slice a' n' c', .slice b' m' d'], .bool true]) ∧ Rt w' false a' n' c' b' m' d' (absR (decR d e - q)) ∧ Sz (absR (decR d e - q)) (21 + k + 1) ∧ Below w.heap.size w w' := by
  have D1 := fun w => dec12_any hd he0 he1 w
  have z1 := (dec_size hd he0 he1).2.2
  generalize decR d e = P at *
  obtain ⟨t1, t2, hb0⟩ := st_two w (.bool s) (.slice a n c) (.slice b2 m f) (.bool false) (.slice none 0 0) (.slice none 0 0) 26 26
  obtain ⟨w0, hw0⟩ : ∃ w0, w0 = (w.alloc (.cells #[.bool s, .slice a n c, .slice b2 m f] 26)).alloc (.cells #[.bool false, .slice none 0 0, .slice none 0 0] 26) := ⟨_, rfl⟩
  obtain ⟨g, hg⟩ : ∃ g, g = w.heap.size := ⟨_, rfl⟩
  have HG : Hid (w.heap.size = g) := hg.symm
  rw [← hw0] at t1 t2 hb0
  rw [← hg] at t1 t2
  have q0 := hR.later hb0
  go_enter Tryz.func16, Tryz.ntmps16
  go_wp2_with fail
  rw [← hw0, ← hg]
  clear hw0 hg
  refine (D1 _).mono ?_
  rintro r w1 ⟨s1, a1, n1, c1, b1, m1, d1, rfl, q1, hb1⟩
  clear D1
  have tx := st_new w1 (.bool s1) (.slice a1 n1 c1) (.slice b1 m1 d1) 26
  have ha1 := alloc_below (w := w1) (.cells #[.bool s1, .slice a1 n1 c1, .slice b1 m1 d1] 26)
  have qx := q1.later ha1
  have H1 := hb1.trans (ha1.mono hb1.size)
  obtain ⟨z1w, hz1⟩ : ∃ z, z = w1.alloc (.cells #[.bool s1, .slice a1 n1 c1, .slice b1 m1 d1] 26) := ⟨_, rfl⟩
  obtain ⟨gx, hgx⟩ : ∃ gx, gx = w1.heap.size := ⟨_, rfl⟩
  rw [← hz1] at tx ha1 qx H1
  rw [← hgx] at tx
  have B3 := t1.later H1
  have B4 := t2.later H1
  have hS := rSub_ok qx (q0.later H1) z1 hz (by omega)
  obtain ⟨x0, x1, x2⟩ := B3.cells
  obtain ⟨y0, y1, y2⟩ := tx.cells
  have sb : g + 1 < z1w.heap.size := B4.lt
  clear q0 qx ha1 q1 hb1 t1 t2 B3 tx
  go_upto_region 2 with fail
  rw [← hz1, ← hgx]
  clear hz1 hgx
  go_wp2_with fail
  refine hS.mono ?_
  rintro r w2 ⟨s2, v1, v2, rfl, hR2, z2', hb2⟩
  obtain ⟨a2, n2, c2, b3, m2, d2, rfl, rfl, -⟩ := hR2.opens
  have H2 := H1.trans (hb2.mono H1.size)
  clear hS x0 x1 x2 y0 y1 y2
  have hsz := hb2.size
  have ty := st_new w2 (.bool s2) (.slice a2 n2 c2) (.slice b3 m2 d2) 26
  have ha2 := alloc_below (w := w2) (.cells #[.bool s2, .slice a2 n2 c2, .slice b3 m2 d2] 26)
  have hB23 : Below w2.heap.size w2 ((w2.alloc (.cells #[.bool s2, .slice a2 n2 c2, .slice b3 m2 d2] 26)).setCell ⟨w2.heap.size, 0, none⟩ (.bool false)) := below_cell ha2 (Nat.le_refl _) (Nat.le_refl _)
  have qy := hR2.later hB23
  have B5 := (B4.later hb2).later ha2
  have H3 := H2.trans (ha2.mono H2.size)
  obtain ⟨z2w, hz2⟩ : ∃ z, z = w2.alloc (.cells #[.bool s2, .slice a2 n2 c2, .slice b3 m2 d2] 26) := ⟨_, rfl⟩
  obtain ⟨gy, hgy⟩ : ∃ gy, gy = w2.heap.size := ⟨_, rfl⟩
  rw [← hz2] at ty ha2 qy B5 H3
  rw [← hgy] at ty qy
  have hyb : z1w.heap.size ≤ gy := by omega
  have hgz : gy < z2w.heap.size := ty.lt
  clear ha2 hR2 H2 B4 H1 hB23
  go_upto_region 3 with fail
  rw [← hz2, ← hgy]
  clear hz2 hgy
  obtain ⟨y0, y1, y2⟩ := ty.cells
  obtain ⟨f0, f1, f2⟩ := ty.frozen
  go_upto_region 4 with fail
  have ty3 := st_flag (x' := .bool false) ty
  have B6 := B5.inn ((In.refl gy (gy + 1) z2w).set1 0 (.bool false)) (by omega)
  have hB9 := hb0.trans (H3.mono hb0.size)
  have hgw := HG.out
  have hB10 : Below w.heap.size w (z2w.setCell ⟨gy, 0, none⟩ (.bool false)) := below_cell hB9 (by omega) (Nat.le_refl _)
  clear y0 y1 y2 f0 f1 f2 ty B5 H3 hgw hB9
  obtain ⟨z3, hz3⟩ : ∃ z, z = z2w.setCell ⟨gy, 0, none⟩ (.bool false) := ⟨_, rfl⟩
  rw [← hz3] at ty3 B6 hB10 qy ⊢
  clear hz3
  obtain ⟨y0, y1, y2⟩ := ty3.cells
  obtain ⟨k0, k1, k2⟩ := B6.cells
  obtain ⟨f0, f1, f2⟩ := B6.frozen
  have ng : ¬ g + 1 = gy := by omega
  have ng' : ¬ gy = g + 1 := by omega
  go_region_held3 (fun w' => w'.cell? ⟨gy, 0, none⟩ = some (.bool false) ∧ w'.cell? ⟨gy, 1, none⟩ = some (.slice a2 n2 c2) ∧ w'.cell? ⟨gy, 2, none⟩ = some (.slice b3 m2 d2)) (go_keep) (first | (go_at_call 9; refine (num12_same 0 _).mono ?_; rintro e wR ⟨rfl, hwR⟩; rw [hwR]))
  go_wp2
  have st9 := (B6.set (.bool false) (.slice a2 n2 c2) (.slice b3 m2 d2)).cells
  refine bodyPost_ret (v := .tuple #[.agg #[.bool false, .slice a2 n2 c2, .slice b3 m2 d2], .bool true]) (by simp [results, Tryz.results16, go_sem, st9]) rfl ?_
  have hgw := HG.out
  refine ⟨_, _, _, _, _, _, rfl, ?_, Sz_abs z2', ?_⟩
  · exact Rt_abs (RtO_rt12 ((qy.inn (in3 _ _ _ _ _) sb).later (below_drewN (Below.refl _ _) 1)))
  · exact below_drewN (below_in hB10 (in3 _ _ _ _ _) (by omega) (Nat.le_refl _)) 1
end Go.Proofs.YtalglldkjbinbaaGreatDoor
