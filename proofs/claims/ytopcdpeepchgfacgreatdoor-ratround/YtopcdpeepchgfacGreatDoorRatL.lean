/- plumblaw05: cut, one, add, sub, mul, div. -/
import Derived.Test.YtopcdpeepchgfacGreatDoorRatF
namespace Go.Proofs.YtopcdpeepchgfacGreatDoor
open Go.ChangeShapes Go.WideShapes Go.ChangeAt Go.RowKit
open Na Ar
set_option linter.unusedVariables false
set_option maxHeartbeats 1600000 in
set_option maxRecDepth 100000 in
theorem cut_any {a : Option Addr} {n cap : Nat} {xs : List Int} {w : World} (hrow : RowAt .u64 w a n xs) (hn : n ≤ maxLen) :
    Calls Tryz.prog 18 #[.slice a n cap] w fun e w' => ∃ v, e = .returned v ∧ Own .u64 w' w.heap.size 46 v (xs.take 12) ∧ Below w.heap.size w w' := by
  obtain ⟨i_u64, hi_u64, hz0_u64, hz1_u64, hz2_u64⟩ := info_parts info_u64
  have hlen := hrow.1
  unfold maxLen at hn
  go_enter Tryz.func18, Tryz.ntmps18
  go_wp2
  go_loopw [3, 4] (fun v i wr => ∃ k : Nat, k ≤ n ∧ k ≤ 12 ∧ i = .int .i64 k ∧ Own .u64 wr w.heap.size 46 v (xs.take k) ∧ Below w.heap.size w wr) (fun _ i _ => 12 - (intOf i).toNat)
  case atStart => exact ⟨0, Nat.zero_le _, Nat.zero_le _, rfl, own_nil _ _ _ _, Below.refl _ _⟩
  case round =>
    obtain ⟨k, hk, hk', rfl, hown, hnx⟩ := hrel
    have hsz := hnx.size
    by_cases hlt : k < n
    · have i1 : (k : Int) < (n : Int) := by omega
      by_cases hlt' : k < 12
      · have i2 : (k : Int) < 12 := by omega
        obtain ⟨b, off, rfl, hbB, hc⟩ := hrow.at (by omega)
        have hcx := (hnx.cell (p := ⟨b, off + k, none⟩) hbB).trans (hc k hlt)
        have hlk : (xs.take k).length = k := by rw [List.length_take]; omega
        have htk : Hid (xs.take (k + 1) = xs.take k ++ [xs.getD k 0]) := take_next (by omega)
        generalize xs.getD k 0 = x at *
        generalize xs.take k = ys at *
        clear hc hrow
        go_wp2_with (at_builtin; refine wpList_append_own _ rfl _ _ 22 rfl w.heap.size 46 i_u64 (.int .u64 0) 1 8 Tryz.underlying22 hi_u64 hz0_u64 hz1_u64 hz2_u64 rfl (by decide) _ _ _ rfl (hown.row.alloc _) ⟨wr.heap.size, 0, none⟩ 1 1 [.int .u64 x] rfl rfl one_new one_cell (by unfold maxLen; omega) (by omega) (by simp; omega) ?_)
        intro v' w1 hown' hgrow _
        have hb' := grow_below hsz hown.row hnx hgrow
        have ho' := own_next hown' (by omega)
        rw [← htk.out] at ho'
        clear hown' hgrow hown hnx hcx
        go_wp2
        go_roundw
        case rel => exact ⟨k + 1, by omega, by omega, by go_num, ho', hb'⟩
        case measure => simp [intOf]; omega
      · have e : k = 12 := by omega
        have i2 : ¬ (k : Int) < 12 := by omega
        have HE : Hid (xs.take 12 = xs.take k) := by show _ = _; rw [e]
        clear e
        go_wp2
        go_ret
        exact ⟨_, rfl, by rw [HE.out]; exact hown, hnx⟩
    · have i1 : ¬ (k : Int) < (n : Int) := by omega
      have HE : Hid (xs.take 12 = xs.take k) := by
        show _ = _
        rw [List.take_of_length_le (by omega), List.take_of_length_le (by omega)]
      go_wp2
      go_ret
      exact ⟨_, rfl, by rw [HE.out]; exact hown, hnx⟩
section
variable {w : World} {s1 s2 : Bool} {a1 b1 a2 b2 : Option Addr} {n1 c1 m1 d1 n2 c2 m2 d2 : Nat} {p q : Rat} {k l : Nat}
set_option maxHeartbeats 6400000 in
set_option maxRecDepth 100000 in
theorem lawAdd_ok (h1 : Rt w s1 a1 n1 c1 b1 m1 d1 p) (h2 : Rt w s2 a2 n2 c2 b2 m2 d2 q) (z1 : Sz p k) (z2 : Sz q l) (hk : k + l + 1 ≤ 4096) :
    Calls Tryz.prog 40 #[.agg #[.bool s1, .slice a1 n1 c1, .slice b1 m1 d1], .agg #[.bool s2, .slice a2 n2 c2, .slice b2 m2 d2]] w fun e w' => ∃ s v1 v2, e = .returned (.tuple #[.agg #[.bool s, v1, v2], .bool true]) ∧ RtO w' w.heap.size s v1 v2 (p + q) ∧ Sz (p + q) (k + l + 1) ∧ Below w.heap.size w w' := by
  obtain ⟨t1, t2, t3, hb0⟩ := st_three w (.bool s1) (.slice a1 n1 c1) (.slice b1 m1 d1) (.bool s2) (.slice a2 n2 c2) (.slice b2 m2 d2) (.bool false) (.slice none 0 0) (.slice none 0 0) 25 25 25
  have e0 : (((w.alloc (.cells #[.bool s1, .slice a1 n1 c1, .slice b1 m1 d1] 25)).alloc (.cells #[.bool s2, .slice a2 n2 c2, .slice b2 m2 d2] 25)).alloc (.cells #[.bool false, .slice none 0 0, .slice none 0 0] 25)).heap.size = w.heap.size + 3 := by simp
  obtain ⟨w0, hw0⟩ : ∃ w0, w0 = ((w.alloc (.cells #[.bool s1, .slice a1 n1 c1, .slice b1 m1 d1] 25)).alloc (.cells #[.bool s2, .slice a2 n2 c2, .slice b2 m2 d2] 25)).alloc (.cells #[.bool false, .slice none 0 0, .slice none 0 0] 25) := ⟨_, rfl⟩
  rw [← hw0] at t1 t2 t3 hb0 e0
  have f1 := rAdd_ok (h1.later hb0) (h2.later hb0) z1 z2 hk
  clear h1 h2 t1 t2
  obtain ⟨g, hg⟩ : ∃ g, g = w.heap.size := ⟨_, rfl⟩
  have HG : Hid (w.heap.size = g) := hg.symm
  rw [← hg] at t3 hb0 e0
  have HS : g ≤ w0.heap.size := by rw [hg]; exact hb0.size
  go_enter Tryz.func40, Tryz.ntmps40
  go_wp2_with fail
  rw [← hw0, ← hg]
  refine f1.mono ?_
  rintro e wB ⟨s9, v1, v2, rfl, hR, hsz, hbB⟩
  obtain ⟨a9, n9, c9, b9, m9, d9, rfl, rfl, hRt⟩ := hR.opens
  clear f1 hw0 hg
  have hal := alloc_below (w := wB) (.cells #[.bool s9, .slice a9 n9 c9, .slice b9 m9 d9] 25)
  have tr := st_new wB (.bool s9) (.slice a9 n9 c9) (.slice b9 m9 d9) 25
  obtain ⟨wC, hwC⟩ : ∃ wC, wC = wB.alloc (.cells #[.bool s9, .slice a9 n9 c9, .slice b9 m9 d9] 25) := ⟨_, rfl⟩
  obtain ⟨r, hr⟩ : ∃ r, r = wB.heap.size := ⟨_, rfl⟩
  go_wp2
  rw [← hwC] at hal tr ⊢
  rw [← hr] at tr hal ⊢
  have hRC := hRt.later (by rw [← hr]; exact hal)
  have hbC := hbB.trans (hal.mono (by rw [hr]; exact hbB.size))
  have sB := hbB.size
  have sC := tr.lt
  have sT := t3.lt
  have sR : wB.heap.size ≤ r := Nat.le_of_eq hr.symm
  have hcl : ∀ w1, Below wC.heap.size wC w1 → w1.cell? ⟨r, 0, none⟩ = some (.bool s9) ∧ w1.cell? ⟨r, 1, none⟩ = some (.slice a9 n9 c9) ∧ w1.cell? ⟨r, 2, none⟩ = some (.slice b9 m9 d9) := fun w1 h => (tr.later h).cells
  obtain ⟨x0, x1, x2⟩ := hcl wC (Below.refl _ _)
  have t3C := t3.later hbC
  have hR2 := hR.later (by rw [← hr]; exact hal)
  have fc := fun w1 (h : Below wC.heap.size wC w1) => check_ok (hRC.later h) hsz hk
  have ne1 : ¬ r = g + 1 + 1 := by omega
  have ne2 : ¬ g + 1 + 1 = r := by omega
  clear hwC hRt hR hal t3 tr hr
  go_region_held3 (fun w' => w'.cell? ⟨r, 0, none⟩ = some (.bool s9) ∧ w'.cell? ⟨r, 1, none⟩ = some (.slice a9 n9 c9) ∧ w'.cell? ⟨r, 2, none⟩ = some (.slice b9 m9 d9)) (go_keep) ((go_at_call 23; refine (fc _ (by first | exact Below.refl _ _ | exact below_drewN (Below.refl _ _) _)).mono ?_; rintro e wD ⟨rfl, hbD⟩; have hBD : Below wC.heap.size wC wD := (by first | exact hbD | exact (below_drewN (Below.refl _ _) 1).trans hbD); obtain ⟨x0, x1, x2⟩ := hcl wD hBD; have t3D := t3C.later hBD; obtain ⟨u0, u1, u2⟩ := t3D.cells; obtain ⟨v0, v1, v2⟩ := t3D.frozen))
  go_wp2
  have hRD := hR2.later hBD
  have hbF9 := (hb0.trans (hbC.mono HS)).trans (hBD.mono (by omega))
  have st9 := (t3D.set (.bool s9) (.slice a9 n9 c9) (.slice b9 m9 d9)).cells
  refine bodyPost_ret (v := .tuple #[.agg #[.bool s9, .slice a9 n9 c9, .slice b9 m9 d9], .bool true]) (by simp [results, Tryz.results40, go_sem, st9]) rfl ?_
  rw [HG.out]
  exact ⟨_, _, _, rfl, (hRD.inn (in3 _ _ _ _ _) (by omega)).lower (by omega), hsz, below_in hbF9 (in3 _ _ _ _ _) (by omega) (by rw [HG.out]; exact Nat.le_refl _)⟩
set_option maxHeartbeats 6400000 in
set_option maxRecDepth 100000 in
theorem lawSub_ok (h1 : Rt w s1 a1 n1 c1 b1 m1 d1 p) (h2 : Rt w s2 a2 n2 c2 b2 m2 d2 q) (z1 : Sz p k) (z2 : Sz q l) (hk : k + l + 1 ≤ 4096) :
    Calls Tryz.prog 41 #[.agg #[.bool s1, .slice a1 n1 c1, .slice b1 m1 d1], .agg #[.bool s2, .slice a2 n2 c2, .slice b2 m2 d2]] w fun e w' => ∃ s v1 v2, e = .returned (.tuple #[.agg #[.bool s, v1, v2], .bool true]) ∧ RtO w' w.heap.size s v1 v2 (p - q) ∧ Sz (p - q) (k + l + 1) ∧ Below w.heap.size w w' := by
  obtain ⟨t1, t2, t3, hb0⟩ := st_three w (.bool s1) (.slice a1 n1 c1) (.slice b1 m1 d1) (.bool s2) (.slice a2 n2 c2) (.slice b2 m2 d2) (.bool false) (.slice none 0 0) (.slice none 0 0) 25 25 25
  have e0 : (((w.alloc (.cells #[.bool s1, .slice a1 n1 c1, .slice b1 m1 d1] 25)).alloc (.cells #[.bool s2, .slice a2 n2 c2, .slice b2 m2 d2] 25)).alloc (.cells #[.bool false, .slice none 0 0, .slice none 0 0] 25)).heap.size = w.heap.size + 3 := by simp
  obtain ⟨w0, hw0⟩ : ∃ w0, w0 = ((w.alloc (.cells #[.bool s1, .slice a1 n1 c1, .slice b1 m1 d1] 25)).alloc (.cells #[.bool s2, .slice a2 n2 c2, .slice b2 m2 d2] 25)).alloc (.cells #[.bool false, .slice none 0 0, .slice none 0 0] 25) := ⟨_, rfl⟩
  rw [← hw0] at t1 t2 t3 hb0 e0
  have f1 := rSub_ok (h1.later hb0) (h2.later hb0) z1 z2 hk
  clear h1 h2 t1 t2
  obtain ⟨g, hg⟩ : ∃ g, g = w.heap.size := ⟨_, rfl⟩
  have HG : Hid (w.heap.size = g) := hg.symm
  rw [← hg] at t3 hb0 e0
  have HS : g ≤ w0.heap.size := by rw [hg]; exact hb0.size
  go_enter Tryz.func41, Tryz.ntmps41
  go_wp2_with fail
  rw [← hw0, ← hg]
  refine f1.mono ?_
  rintro e wB ⟨s9, v1, v2, rfl, hR, hsz, hbB⟩
  obtain ⟨a9, n9, c9, b9, m9, d9, rfl, rfl, hRt⟩ := hR.opens
  clear f1 hw0 hg
  have hal := alloc_below (w := wB) (.cells #[.bool s9, .slice a9 n9 c9, .slice b9 m9 d9] 25)
  have tr := st_new wB (.bool s9) (.slice a9 n9 c9) (.slice b9 m9 d9) 25
  obtain ⟨wC, hwC⟩ : ∃ wC, wC = wB.alloc (.cells #[.bool s9, .slice a9 n9 c9, .slice b9 m9 d9] 25) := ⟨_, rfl⟩
  obtain ⟨r, hr⟩ : ∃ r, r = wB.heap.size := ⟨_, rfl⟩
  go_wp2
  rw [← hwC] at hal tr ⊢
  rw [← hr] at tr hal ⊢
  have hRC := hRt.later (by rw [← hr]; exact hal)
  have hbC := hbB.trans (hal.mono (by rw [hr]; exact hbB.size))
  have sB := hbB.size
  have sC := tr.lt
  have sT := t3.lt
  have sR : wB.heap.size ≤ r := Nat.le_of_eq hr.symm
  have hcl : ∀ w1, Below wC.heap.size wC w1 → w1.cell? ⟨r, 0, none⟩ = some (.bool s9) ∧ w1.cell? ⟨r, 1, none⟩ = some (.slice a9 n9 c9) ∧ w1.cell? ⟨r, 2, none⟩ = some (.slice b9 m9 d9) := fun w1 h => (tr.later h).cells
  obtain ⟨x0, x1, x2⟩ := hcl wC (Below.refl _ _)
  have t3C := t3.later hbC
  have hR2 := hR.later (by rw [← hr]; exact hal)
  have fc := fun w1 (h : Below wC.heap.size wC w1) => check_ok (hRC.later h) hsz hk
  have ne1 : ¬ r = g + 1 + 1 := by omega
  have ne2 : ¬ g + 1 + 1 = r := by omega
  clear hwC hRt hR hal t3 tr hr
  go_region_held3 (fun w' => w'.cell? ⟨r, 0, none⟩ = some (.bool s9) ∧ w'.cell? ⟨r, 1, none⟩ = some (.slice a9 n9 c9) ∧ w'.cell? ⟨r, 2, none⟩ = some (.slice b9 m9 d9)) (go_keep) ((go_at_call 23; refine (fc _ (by first | exact Below.refl _ _ | exact below_drewN (Below.refl _ _) _)).mono ?_; rintro e wD ⟨rfl, hbD⟩; have hBD : Below wC.heap.size wC wD := (by first | exact hbD | exact (below_drewN (Below.refl _ _) 1).trans hbD); obtain ⟨x0, x1, x2⟩ := hcl wD hBD; have t3D := t3C.later hBD; obtain ⟨u0, u1, u2⟩ := t3D.cells; obtain ⟨v0, v1, v2⟩ := t3D.frozen))
  go_wp2
  have hRD := hR2.later hBD
  have hbF9 := (hb0.trans (hbC.mono HS)).trans (hBD.mono (by omega))
  have st9 := (t3D.set (.bool s9) (.slice a9 n9 c9) (.slice b9 m9 d9)).cells
  refine bodyPost_ret (v := .tuple #[.agg #[.bool s9, .slice a9 n9 c9, .slice b9 m9 d9], .bool true]) (by simp [results, Tryz.results41, go_sem, st9]) rfl ?_
  rw [HG.out]
  exact ⟨_, _, _, rfl, (hRD.inn (in3 _ _ _ _ _) (by omega)).lower (by omega), hsz, below_in hbF9 (in3 _ _ _ _ _) (by omega) (by rw [HG.out]; exact Nat.le_refl _)⟩
set_option maxHeartbeats 6400000 in
set_option maxRecDepth 100000 in
theorem lawMul_ok (h1 : Rt w s1 a1 n1 c1 b1 m1 d1 p) (h2 : Rt w s2 a2 n2 c2 b2 m2 d2 q) (z1 : Sz p k) (z2 : Sz q l) (hk : k + l ≤ 4096) :
    Calls Tryz.prog 42 #[.agg #[.bool s1, .slice a1 n1 c1, .slice b1 m1 d1], .agg #[.bool s2, .slice a2 n2 c2, .slice b2 m2 d2]] w fun e w' => ∃ s v1 v2, e = .returned (.tuple #[.agg #[.bool s, v1, v2], .bool true]) ∧ RtO w' w.heap.size s v1 v2 (p * q) ∧ Sz (p * q) (k + l) ∧ Below w.heap.size w w' := by
  obtain ⟨t1, t2, t3, hb0⟩ := st_three w (.bool s1) (.slice a1 n1 c1) (.slice b1 m1 d1) (.bool s2) (.slice a2 n2 c2) (.slice b2 m2 d2) (.bool false) (.slice none 0 0) (.slice none 0 0) 25 25 25
  have e0 : (((w.alloc (.cells #[.bool s1, .slice a1 n1 c1, .slice b1 m1 d1] 25)).alloc (.cells #[.bool s2, .slice a2 n2 c2, .slice b2 m2 d2] 25)).alloc (.cells #[.bool false, .slice none 0 0, .slice none 0 0] 25)).heap.size = w.heap.size + 3 := by simp
  obtain ⟨w0, hw0⟩ : ∃ w0, w0 = ((w.alloc (.cells #[.bool s1, .slice a1 n1 c1, .slice b1 m1 d1] 25)).alloc (.cells #[.bool s2, .slice a2 n2 c2, .slice b2 m2 d2] 25)).alloc (.cells #[.bool false, .slice none 0 0, .slice none 0 0] 25) := ⟨_, rfl⟩
  rw [← hw0] at t1 t2 t3 hb0 e0
  have f1 := rMul_ok (h1.later hb0) (h2.later hb0) z1 z2 hk
  clear h1 h2 t1 t2
  obtain ⟨g, hg⟩ : ∃ g, g = w.heap.size := ⟨_, rfl⟩
  have HG : Hid (w.heap.size = g) := hg.symm
  rw [← hg] at t3 hb0 e0
  have HS : g ≤ w0.heap.size := by rw [hg]; exact hb0.size
  go_enter Tryz.func42, Tryz.ntmps42
  go_wp2_with fail
  rw [← hw0, ← hg]
  refine f1.mono ?_
  rintro e wB ⟨s9, v1, v2, rfl, hR, hsz, hbB⟩
  obtain ⟨a9, n9, c9, b9, m9, d9, rfl, rfl, hRt⟩ := hR.opens
  clear f1 hw0 hg
  have hal := alloc_below (w := wB) (.cells #[.bool s9, .slice a9 n9 c9, .slice b9 m9 d9] 25)
  have tr := st_new wB (.bool s9) (.slice a9 n9 c9) (.slice b9 m9 d9) 25
  obtain ⟨wC, hwC⟩ : ∃ wC, wC = wB.alloc (.cells #[.bool s9, .slice a9 n9 c9, .slice b9 m9 d9] 25) := ⟨_, rfl⟩
  obtain ⟨r, hr⟩ : ∃ r, r = wB.heap.size := ⟨_, rfl⟩
  go_wp2
  rw [← hwC] at hal tr ⊢
  rw [← hr] at tr hal ⊢
  have hRC := hRt.later (by rw [← hr]; exact hal)
  have hbC := hbB.trans (hal.mono (by rw [hr]; exact hbB.size))
  have sB := hbB.size
  have sC := tr.lt
  have sT := t3.lt
  have sR : wB.heap.size ≤ r := Nat.le_of_eq hr.symm
  have hcl : ∀ w1, Below wC.heap.size wC w1 → w1.cell? ⟨r, 0, none⟩ = some (.bool s9) ∧ w1.cell? ⟨r, 1, none⟩ = some (.slice a9 n9 c9) ∧ w1.cell? ⟨r, 2, none⟩ = some (.slice b9 m9 d9) := fun w1 h => (tr.later h).cells
  obtain ⟨x0, x1, x2⟩ := hcl wC (Below.refl _ _)
  have t3C := t3.later hbC
  have hR2 := hR.later (by rw [← hr]; exact hal)
  have fc := fun w1 (h : Below wC.heap.size wC w1) => check_ok (hRC.later h) hsz hk
  have ne1 : ¬ r = g + 1 + 1 := by omega
  have ne2 : ¬ g + 1 + 1 = r := by omega
  clear hwC hRt hR hal t3 tr hr
  go_region_held3 (fun w' => w'.cell? ⟨r, 0, none⟩ = some (.bool s9) ∧ w'.cell? ⟨r, 1, none⟩ = some (.slice a9 n9 c9) ∧ w'.cell? ⟨r, 2, none⟩ = some (.slice b9 m9 d9)) (go_keep) ((go_at_call 23; refine (fc _ (by first | exact Below.refl _ _ | exact below_drewN (Below.refl _ _) _)).mono ?_; rintro e wD ⟨rfl, hbD⟩; have hBD : Below wC.heap.size wC wD := (by first | exact hbD | exact (below_drewN (Below.refl _ _) 1).trans hbD); obtain ⟨x0, x1, x2⟩ := hcl wD hBD; have t3D := t3C.later hBD; obtain ⟨u0, u1, u2⟩ := t3D.cells; obtain ⟨v0, v1, v2⟩ := t3D.frozen))
  go_wp2
  have hRD := hR2.later hBD
  have hbF9 := (hb0.trans (hbC.mono HS)).trans (hBD.mono (by omega))
  have st9 := (t3D.set (.bool s9) (.slice a9 n9 c9) (.slice b9 m9 d9)).cells
  refine bodyPost_ret (v := .tuple #[.agg #[.bool s9, .slice a9 n9 c9, .slice b9 m9 d9], .bool true]) (by simp [results, Tryz.results42, go_sem, st9]) rfl ?_
  rw [HG.out]
  exact ⟨_, _, _, rfl, (hRD.inn (in3 _ _ _ _ _) (by omega)).lower (by omega), hsz, below_in hbF9 (in3 _ _ _ _ _) (by omega) (by rw [HG.out]; exact Nat.le_refl _)⟩
theorem rt_eq {p q : Rat} : p = q ↔ decide (p.num < 0) = decide (q.num < 0) ∧ words (p.num.natAbs : Int) = words (q.num.natAbs : Int) ∧ words (p.den : Int) = words (q.den : Int) := by
  constructor
  · intro h; subst h; exact ⟨rfl, rfl, rfl⟩
  · rintro ⟨h1, h2, h3⟩
    have e2 : (p.num.natAbs : Int) = (q.num.natAbs : Int) := by
      rw [← num_words (N := (p.num.natAbs : Int)) (by omega), h2, num_words (by omega)]
    have e3 : (p.den : Int) = (q.den : Int) := by
      rw [← num_words (N := (p.den : Int)) (by omega), h3, num_words (by omega)]
    apply Rat.ext
    · rw [num_sg p, num_sg q, h1, e2]
    · omega
set_option maxHeartbeats 6400000 in
set_option maxRecDepth 100000 in
theorem one_any {B : Bool} (h1 : Rt w s1 a1 n1 c1 b1 m1 d1 p) (h2 : Rt w s2 a2 n2 c2 b2 m2 d2 q) (z1 : Sz p k) (z2 : Sz q l) (hk : k ≤ 4096) (hl : l ≤ 4096) (hB : decide (p = q) = B) :
    Calls Tryz.prog 10 #[.agg #[.bool s1, .slice a1 n1 c1, .slice b1 m1 d1], .agg #[.bool s2, .slice a2 n2 c2, .slice b2 m2 d2]] w fun e w' => e = .returned (.bool B) ∧ Below w.heap.size w w' := by
  obtain ⟨t1, t2, hb0⟩ := st_two w (.bool s1) (.slice a1 n1 c1) (.slice b1 m1 d1) (.bool s2) (.slice a2 n2 c2) (.slice b2 m2 d2) 25 25
  have r1 := h1.later hb0
  have r2 := h2.later hb0
  have l1 := h1.le z1
  have l2 := h2.le z2
  have l3 := h1.leD z1
  have l4 := h2.leD z2
  have HB : Hid (B = (decide (decide (p.num < 0) = decide (q.num < 0)) && (decide (words (p.num.natAbs : Int) = words (q.num.natAbs : Int)) && decide (words (p.den : Int) = words (q.den : Int))))) := by
    show _ = _
    rw [← hB, ← Bool.decide_and, ← Bool.decide_and, decide_eq_decide]
    exact rt_eq
  have HS : Hid (s1 = decide (p.num < 0) ∧ s2 = decide (q.num < 0)) := ⟨h1.sgn, h2.sgn⟩
  obtain ⟨w0, hw0⟩ : ∃ w0, w0 = (w.alloc (.cells #[.bool s1, .slice a1 n1 c1, .slice b1 m1 d1] 25)).alloc (.cells #[.bool s2, .slice a2 n2 c2, .slice b2 m2 d2] 25) := ⟨_, rfl⟩
  rw [← hw0] at t1 t2 hb0 r1 r2
  obtain ⟨g, hg⟩ : ∃ g, g = w.heap.size := ⟨_, rfl⟩
  have HG : Hid (w.heap.size = g) := hg.symm
  rw [← hg] at t1 t2 hb0
  clear hB h1 h2
  by_cases hs : s1 = s2
  · have ts : (s1 == s2) = true := by simp [hs]
    have HS2 : Hid (decide (decide (p.num < 0) = decide (q.num < 0)) = true) := by
      show _ = _
      rw [← HS.out.1, ← HS.out.2, hs]; simp
    clear hs HS
    have sm := same_any (c1 := c1) (c2 := c2) r1.nu.1 r2.nu.1 (by omega) (by omega)
    have sd := fun w1 (h : Below w0.heap.size w0 w1) => same_any (c1 := d1) (c2 := d2) (r1.de.later h).1 (r2.de.later h).1 (by omega) (by omega)
    go_enter Tryz.func10, Tryz.ntmps10
    go_wp2_with fail
    rw [← hw0, ← hg]
    refine sm.mono ?_
    rintro e wA ⟨rfl, hbA⟩
    have t1A := t1.later hbA
    have t2A := t2.later hbA
    obtain ⟨x0, x1, x2⟩ := t1A.cells
    obtain ⟨y0, y1, y2⟩ := t2A.cells
    clear sm hw0 hg
    by_cases hw1 : words (p.num.natAbs : Int) = words (q.num.natAbs : Int)
    · have e1 : decide (words (p.num.natAbs : Int) = words (q.num.natAbs : Int)) = true := decide_eq_true hw1
      rw [e1]
      have HE : Hid (decide (words (p.den : Int) = words (q.den : Int)) = B) := by
        show _ = _
        rw [HB.out, HS2.out, e1]; simp
      clear hw1 e1 HB HS2
      go_wp2_with fail
      refine (sd _ hbA).mono ?_
      rintro e wB ⟨rfl, hbB⟩
      generalize decide (words (p.den : Int) = words (q.den : Int)) = B' at *
      go_wp2
      go_ret
      rw [HG.out]
      exact ⟨ret_bool' HE.out, hb0.trans ((hbA.trans (hbB.mono hbA.size)).mono (by rw [← HG.out]; exact hb0.size))⟩
    · have e1 : decide (words (p.num.natAbs : Int) = words (q.num.natAbs : Int)) = false := decide_eq_false hw1
      rw [e1]
      have HE : Hid (false = B) := by
        show _ = _
        rw [HB.out, HS2.out, e1]; simp
      clear hw1 e1 HB HS2 sd
      go_wp2
      go_ret
      rw [HG.out]
      exact ⟨ret_bool' HE.out, hb0.trans (hbA.mono (by rw [← HG.out]; exact hb0.size))⟩
  · have ts : (s1 == s2) = false := by simp [hs]
    have HE : Hid (false = B) := by
      show _ = _
      rw [HB.out, ← HS.out.1, ← HS.out.2, decide_eq_false hs]; simp
    clear hs HS HB
    go_enter Tryz.func10, Tryz.ntmps10
    go_wp2
    go_ret
    rw [← hw0, HG.out]
    exact ⟨ret_bool' HE.out, hb0⟩
end
end Go.Proofs.YtopcdpeepchgfacGreatDoor
