/- package rat: areRats, sum. -/
import Derived.Test.YtceecgklgkiffaaGreatDoorRatA
import Derived.Deep.RegionWith
import Derived.Deep.RegionHeld3
import Derived.Deep.DeepCutAuto
import Derived.Deep.DeepFit
namespace Go.Proofs.YtceecgklgkiffaaGreatDoor
open Go.ChangeShapes Go.WideShapes Go.ChangeAt Go.RowKit
open Na Ar
set_option linter.unusedVariables false
theorem st_two (w : World) (x y z x' y' z' : Value) (t t' : TypeId) : St ((w.alloc (.cells #[x, y, z] t)).alloc (.cells #[x', y', z'] t')) w.heap.size t x y z ∧ St ((w.alloc (.cells #[x, y, z] t)).alloc (.cells #[x', y', z'] t')) (w.heap.size + 1) t' x' y' z' ∧ Below w.heap.size w ((w.alloc (.cells #[x, y, z] t)).alloc (.cells #[x', y', z'] t')) := by
  have b1 := alloc_below (w := w) (.cells #[x, y, z] t)
  have s1 := st_new w x y z t
  have e1 : (w.alloc (.cells #[x, y, z] t)).heap.size = w.heap.size + 1 := by simp
  generalize w.alloc (.cells #[x, y, z] t) = w1 at *
  have b2 := alloc_below (w := w1) (.cells #[x', y', z'] t')
  have s2 := st_new w1 x' y' z' t'
  rw [e1] at s2
  exact ⟨s1.later b2, s2, b1.trans (b2.mono b1.size)⟩
theorem st_three (w : World) (x y z x' y' z' x2 y2 z2 : Value) (t t' t2 : TypeId) : St (((w.alloc (.cells #[x, y, z] t)).alloc (.cells #[x', y', z'] t')).alloc (.cells #[x2, y2, z2] t2)) w.heap.size t x y z ∧ St (((w.alloc (.cells #[x, y, z] t)).alloc (.cells #[x', y', z'] t')).alloc (.cells #[x2, y2, z2] t2)) (w.heap.size + 1) t' x' y' z' ∧ St (((w.alloc (.cells #[x, y, z] t)).alloc (.cells #[x', y', z'] t')).alloc (.cells #[x2, y2, z2] t2)) (w.heap.size + 1 + 1) t2 x2 y2 z2 ∧ Below w.heap.size w (((w.alloc (.cells #[x, y, z] t)).alloc (.cells #[x', y', z'] t')).alloc (.cells #[x2, y2, z2] t2)) := by
  obtain ⟨s1, s2, b⟩ := st_two w x y z x' y' z' t t'
  have e1 : ((w.alloc (.cells #[x, y, z] t)).alloc (.cells #[x', y', z'] t')).heap.size = w.heap.size + 1 + 1 := by simp
  generalize (w.alloc (.cells #[x, y, z] t)).alloc (.cells #[x', y', z'] t') = w1 at *
  have b2 := alloc_below (w := w1) (.cells #[x2, y2, z2] t2)
  have s3 := st_new w1 x2 y2 z2 t2
  rw [e1] at s3
  exact ⟨s1.later b2, s2.later b2, s3, b.trans (b2.mono b.size)⟩
section
variable {w0 w1 : World} {a b : Option Addr} {n c m d : Nat} {xs ys : List Int} {A B : Int} {k : Nat}
theorem times_at (h : Below w0.heap.size w0 w1) (hr1 : RowC w0 a n c xs) (hr2 : RowC w0 b m d ys) (h1 : Nm xs A) (h2 : Nm ys B) (hL : Lt (A * B) k) (hk : k ≤ 4096) :
    Calls Tryz.prog 64 #[.slice a n c, .slice b m d] w1 fun e w' => ∃ a' n' c' l', e = .returned (.slice a' n' c') ∧ RowC w' a' n' c' l' ∧ Nm l' (A * B) ∧ n' ≤ k ∧ Below w0.heap.size w0 w' ∧ Below w1.heap.size w1 w' := by
  refine (times_ok (hr1.later h) (hr2.later h) h1 h2 hL hk).mono ?_
  rintro e w' ⟨a', n', c', l', rfl, r, nm, hn, hb⟩
  exact ⟨_, _, _, _, rfl, r, nm, hn, h.trans (hb.mono h.size), hb⟩
end
section
variable {w : World} {s1 s2 : Bool} {a1 b1 a2 b2 : Option Addr} {n1 c1 m1 d1 n2 c2 m2 d2 : Nat} {p q : Rat} {k l : Nat}
set_option maxHeartbeats 1600000 in
theorem areRats_ok (h1 : Rt w s1 a1 n1 c1 b1 m1 d1 p) (h2 : Rt w s2 a2 n2 c2 b2 m2 d2 q) (z1 : Sz p k) (z2 : Sz q l) (hk : k ≤ 4096) (hl : l ≤ 4096) :
    Calls Tryz.prog 63 #[.agg #[.bool s1, .slice a1 n1 c1, .slice b1 m1 d1], .agg #[.bool s2, .slice a2 n2 c2, .slice b2 m2 d2]] w fun e w' => e = .returned (.bool true) ∧ Below w.heap.size w w' := by
  obtain ⟨t1, t2, hb0⟩ := st_two w (.bool s1) (.slice a1 n1 c1) (.slice b1 m1 d1) (.bool s2) (.slice a2 n2 c2) (.slice b2 m2 d2) 50 50
  have k1 := check_ok (h1.later hb0) z1 hk
  have r2 := h2.later hb0
  clear h1 h2
  go_enter Tryz.func63, Tryz.ntmps63
  go_wp2_with fail
  refine k1.mono ?_
  rintro e wA ⟨rfl, hbA⟩
  have t2A := t2.later hbA
  obtain ⟨x0, x1, x2⟩ := t2A.cells
  clear k1 t1 t2
  go_wp2_with fail
  refine (check_ok (r2.later hbA) z2 hl).mono ?_
  rintro e wB ⟨rfl, hbB⟩
  go_wp2
  go_ret
  exact ⟨rfl, hb0.trans ((hbA.trans (hbB.mono hbA.size)).mono hb0.size)⟩
set_option maxHeartbeats 6400000 in
set_option maxRecDepth 100000 in
theorem sum_ok (h1 : Rt w s1 a1 n1 c1 b1 m1 d1 p) (h2 : Rt w s2 a2 n2 c2 b2 m2 d2 q) (z1 : Sz p k) (z2 : Sz q l) (hk : k + l + 1 ≤ 4096) (t : Bool) :
    Calls Tryz.prog 66 #[.agg #[.bool s1, .slice a1 n1 c1, .slice b1 m1 d1], .agg #[.bool s2, .slice a2 n2 c2, .slice b2 m2 d2], .bool t] w fun e w' => ∃ s v1 v2, e = .returned (.agg #[.bool s, v1, v2]) ∧ RtO w' w.heap.size s v1 v2 (if t = decide (q.num < 0) then p + q else p - q) ∧ Sz (if t = decide (q.num < 0) then p + q else p - q) (k + l + 1) ∧ Below w.heap.size w w' := by
  obtain ⟨t1, t2, t3, hb0⟩ := st_three w (.bool s1) (.slice a1 n1 c1) (.slice b1 m1 d1) (.bool s2) (.slice a2 n2 c2) (.slice b2 m2 d2) (.bool false) (.slice none 0 0) (.slice none 0 0) 50 50 50
  have e0 : (((w.alloc (.cells #[.bool s1, .slice a1 n1 c1, .slice b1 m1 d1] 50)).alloc (.cells #[.bool s2, .slice a2 n2 c2, .slice b2 m2 d2] 50)).alloc (.cells #[.bool false, .slice none 0 0, .slice none 0 0] 50)).heap.size = w.heap.size + 3 := by simp
  obtain ⟨w0, hw0⟩ : ∃ w0, w0 = ((w.alloc (.cells #[.bool s1, .slice a1 n1 c1, .slice b1 m1 d1] 50)).alloc (.cells #[.bool s2, .slice a2 n2 c2, .slice b2 m2 d2] 50)).alloc (.cells #[.bool false, .slice none 0 0, .slice none 0 0] 50) := ⟨_, rfl⟩
  rw [← hw0] at t1 t2 t3 hb0 e0
  have r1 := h1.later hb0
  have r2 := h2.later hb0
  have hS := h1.sgn
  have lN : Lt ((p.num.natAbs : Int) * (q.den : Int)) (k + l) := z1.1.mul z2.2
  have lM : Lt ((q.num.natAbs : Int) * (p.den : Int)) (k + l) := (z2.1.mul z1.2).mono (by omega)
  have lD : Lt ((p.den : Int) * (q.den : Int)) (k + l) := z1.2.mul z2.2
  have hD : 0 < (p.den : Int) * (q.den : Int) := Int.mul_pos (den_pos p) (den_pos q)
  have HT : Hid (((p.den : Int) * (q.den : Int)).toNat = p.den * q.den) := toNat_mul
  have HR := add_rat p q t
  rw [← hS] at HR
  have HRr : Hid (mkRat (sg s1 ((p.num.natAbs : Int) * (q.den : Int)) + sg t ((q.num.natAbs : Int) * (p.den : Int))) (p.den * q.den) = (if t = decide (q.num < 0) then p + q else p - q)) := HR
  have f1 := fun w1 h => times_at (w0 := w0) (w1 := w1) h r1.nu r2.de (nm_abs z1 (by omega)) (nm_den z2 (by omega)) lN (by omega)
  have f2 := fun w1 h => times_at (w0 := w0) (w1 := w1) h r2.nu r1.de (nm_abs z2 (by omega)) (nm_den z1 (by omega)) lM (by omega)
  have f3 := fun w1 h => times_at (w0 := w0) (w1 := w1) h r1.de r2.de (nm_den z1 (by omega)) (nm_den z2 (by omega)) lD (by omega)
  clear HR r1 r2 h1 h2 z1 z2 hS
  generalize (p.num.natAbs : Int) * (q.den : Int) = N at *
  generalize (q.num.natAbs : Int) * (p.den : Int) = M at *
  generalize (p.den : Int) * (q.den : Int) = D at *
  generalize p.den * q.den = D' at *
  generalize (if t = decide (q.num < 0) then p + q else p - q) = R at *
  obtain ⟨g, hg⟩ : ∃ g, g = w.heap.size := ⟨_, rfl⟩
  have HG : Hid (w.heap.size = g) := hg.symm
  rw [← hg] at t1 t2 t3 hb0 e0
  have hcl : ∀ w1, Below w0.heap.size w0 w1 → w1.cell? ⟨g, 0, none⟩ = some (.bool s1) ∧ w1.cell? ⟨g, 1, none⟩ = some (.slice a1 n1 c1) ∧ w1.cell? ⟨g, 2, none⟩ = some (.slice b1 m1 d1) ∧ w1.cell? ⟨g + 1, 1, none⟩ = some (.slice a2 n2 c2) ∧ w1.cell? ⟨g + 1, 2, none⟩ = some (.slice b2 m2 d2) := fun w1 h => by
    obtain ⟨x0, x1, x2⟩ := (t1.later h).cells
    obtain ⟨y0, y1, y2⟩ := (t2.later h).cells
    exact ⟨x0, x1, x2, y1, y2⟩
  obtain ⟨p0, p1, p2, p3, p4⟩ := hcl w0 (Below.refl _ _)
  go_enter Tryz.func66, Tryz.ntmps66
  go_wp2
  rw [← hw0, ← hg]
  have HB0 := hb0
  have HS : g ≤ w0.heap.size := by rw [hg]; exact hb0.size
  clear hw0 hb0 hg t1 t2
  go_region_held3 (fun w' => w'.cell? ⟨g, 1, none⟩ = some (.slice a1 n1 c1) ∧ w'.cell? ⟨g, 2, none⟩ = some (.slice b1 m1 d1) ∧ w'.cell? ⟨g + 1, 1, none⟩ = some (.slice a2 n2 c2) ∧ w'.cell? ⟨g + 1, 2, none⟩ = some (.slice b2 m2 d2)) (go_keep) (first | (go_at_call_of 64 a1; refine (f1 _ (by first | exact Below.refl _ _ | exact below_drewN (Below.refl _ _) _)).mono ?_; rintro e wA ⟨xa, xn, xc, xl, rfl, rx, mx, lx, hBA, hbA⟩; obtain ⟨p0, p1, p2, p3, p4⟩ := hcl wA hBA) | (go_at_call_of 64 a2; refine (f2 _ (by first | exact hBA | exact below_drewN hBA _)).mono ?_; rintro e wB ⟨ya, yn, yc, yl, rfl, ry, my, ly, hBB, hbB⟩; obtain ⟨p0, p1, p2, p3, p4⟩ := hcl wB hBB) | (go_at_call 64; refine (f3 _ (by first | exact hBB | exact below_drewN hBB _)).mono ?_; rintro e wC ⟨za, zn, zc, zl, rfl, rz, mz, lz, hBC, hbC⟩; obtain ⟨p0, p1, p2, p3, p4⟩ := hcl wC hBC))
  have rxC := (rx.later hbB).later hbC
  have ryC := ry.later hbC
  have t3C := t3.later hBC
  clear rx ry f1 f2 f3 hbA hbB hbC hBA hBB hcl t3
  have HBC := HB0.trans (hBC.mono HS)
  have HZ : Hid (∀ s A, Lt A (k + l + 1) → Sz (mkR s A D) (k + l + 1)) := fun s A h => Sz.mkR h (lD.mono (by omega)) hD
  have sC := t3C.lt
  have sW := HBC.size
  clear HB0 HS hBC
  by_cases hst : s1 = t
  · have e1 : (s1 == t) = true := by simp [hst]
    have HQ : Hid (mkR t (N + M) D = R) := by
      show _ = _
      rw [sum_same t N M D _ HT.out, ← HRr.out, hst]
    have lS := lt_add1 lN lM
    clear hst HRr HT
    go_wp2_with fail
    refine (plus_ok rxC ryC mx my lS hk).mono ?_
    rintro e wD ⟨ua, un, uc, ul, rfl, ru, mu, lu, hbD⟩
    have rzD := rz.later hbD
    have t3D := t3C.later hbD
    clear rxC ryC rz t3C
    go_wp2_with fail
    refine (rlow_any ru rzD mu mz hD (by omega) (by omega)).mono ?_
    rintro e wE ⟨s9, v1, v2, rfl, hR, hbE⟩
    rw [HQ.out] at hR
    have hsz := HZ.out t (N + M) lS
    rw [HQ.out] at hsz
    obtain ⟨a9, n9, c9, b9, m9, d9, rfl, rfl, _⟩ := hR.opens
    have t3E := t3D.later hbE
    obtain ⟨x0, x1, x2⟩ := t3E.cells
    obtain ⟨y0, y1, y2⟩ := t3E.frozen
    have sD := t3D.lt
    go_wp2
    have st9 := (t3E.set (.bool s9) (.slice a9 n9 c9) (.slice b9 m9 d9)).cells
    refine bodyPost_ret (v := .agg #[.bool s9, .slice a9 n9 c9, .slice b9 m9 d9]) (by simp [results, Tryz.results66, go_sem, st9]) rfl ?_
    have hbF9 := HBC.trans ((hbD.trans (hbE.mono hbD.size)).mono (by omega))
    rw [HG.out]
    exact ⟨_, _, _, rfl, (hR.inn (in3 _ _ _ _ _) (by omega)).lower (by omega), hsz, below_in hbF9 (in3 _ _ _ _ _) (by omega) (by rw [HG.out]; exact Nat.le_refl _)⟩
  · have e1 : (s1 == t) = false := by simp [hst]
    by_cases hlt : N < M
    · have HQ : Hid (mkR t (M - N) D = R) := by
        show _ = _
        rw [sum_less s1 t hst N M D _ HT.out, ← HRr.out]
      have lS : Lt (M - N) (k + l) := lM.le (by omega) (by have := lN.1; omega)
      have hle : N ≤ M := by omega
      have ho := ordN_lt hlt
      clear hst HRr HT hlt
      go_wp2_with fail
      refine (cmpK rxC ryC mx my ho).mono ?_
      rintro e wF ⟨rfl, hbF⟩
      have rxF := rxC.later hbF
      have ryF := ryC.later hbF
      have rzF := rz.later hbF
      have t3F := t3C.later hbF
      clear rxC ryC rz t3C
      go_wp2_with fail
      refine (subQ ryF rxF my mx hle lS (by omega)).mono ?_
      rintro e wD ⟨ua, un, uc, ul, rfl, ru, mu, eu, hbD0⟩
      have lu : un ≤ k + l := by rw [← ru.1.1, eu.out]; exact lS.len
      have hbD := hbF.trans (hbD0.mono hbF.size)
      have rzD := rzF.later hbD0
      have t3D := t3F.later hbD0
      clear rxF ryF rzF t3F eu
      go_wp2_with fail
      refine (rlow_any ru rzD mu mz hD (by omega) (by omega)).mono ?_
      rintro e wE ⟨s9, v1, v2, rfl, hR, hbE⟩
      rw [HQ.out] at hR
      have hsz := HZ.out t (M - N) (lS.mono (by omega))
      rw [HQ.out] at hsz
      obtain ⟨a9, n9, c9, b9, m9, d9, rfl, rfl, _⟩ := hR.opens
      have t3E := t3D.later hbE
      obtain ⟨x0, x1, x2⟩ := t3E.cells
      obtain ⟨y0, y1, y2⟩ := t3E.frozen
      have sD := t3D.lt
      go_wp2
      have st9 := (t3E.set (.bool s9) (.slice a9 n9 c9) (.slice b9 m9 d9)).cells
      refine bodyPost_ret (v := .agg #[.bool s9, .slice a9 n9 c9, .slice b9 m9 d9]) (by simp [results, Tryz.results66, go_sem, st9]) rfl ?_
      have hbF9 := HBC.trans ((hbD.trans (hbE.mono hbD.size)).mono (by omega))
      rw [HG.out]
      exact ⟨_, _, _, rfl, (hR.inn (in3 _ _ _ _ _) (by omega)).lower (by omega), hsz, below_in hbF9 (in3 _ _ _ _ _) (by omega) (by rw [HG.out]; exact Nat.le_refl _)⟩
    · have HQ : Hid (mkR s1 (N - M) D = R) := by
        show _ = _
        rw [sum_more s1 t hst N M D _ HT.out, ← HRr.out]
      have lS : Lt (N - M) (k + l) := lN.le (by omega) (by have := lM.1; omega)
      have hle : M ≤ N := by omega
      obtain ⟨K, hK, hK0⟩ : ∃ K, ordN N M = K ∧ ¬ K < 0 := ⟨_, rfl, by unfold ordN; rw [if_neg hlt]; split <;> omega⟩
      clear hst HRr HT hlt
      go_wp2_with fail
      refine (cmpK rxC ryC mx my hK).mono ?_
      rintro e wF ⟨rfl, hbF⟩
      have rxF := rxC.later hbF
      have ryF := ryC.later hbF
      have rzF := rz.later hbF
      have t3F := t3C.later hbF
      have q0 := (hbF.cell (p := ⟨g, 0, none⟩) (by show g < _; omega)).trans p0
      clear rxC ryC rz t3C
      go_wp2_with fail
      refine (subQ rxF ryF mx my hle lS (by omega)).mono ?_
      rintro e wD ⟨ua, un, uc, ul, rfl, ru, mu, eu, hbD0⟩
      have lu : un ≤ k + l := by rw [← ru.1.1, eu.out]; exact lS.len
      have hbD := hbF.trans (hbD0.mono hbF.size)
      have rzD := rzF.later hbD0
      have t3D := t3F.later hbD0
      have q1 := (hbD.cell (p := ⟨g, 0, none⟩) (by show g < _; omega)).trans p0
      clear rxF ryF rzF t3F eu
      go_wp2_with fail
      refine (rlow_any ru rzD mu mz hD (by omega) (by omega)).mono ?_
      rintro e wE ⟨s9, v1, v2, rfl, hR, hbE⟩
      rw [HQ.out] at hR
      have hsz := HZ.out s1 (N - M) (lS.mono (by omega))
      rw [HQ.out] at hsz
      obtain ⟨a9, n9, c9, b9, m9, d9, rfl, rfl, _⟩ := hR.opens
      have t3E := t3D.later hbE
      obtain ⟨x0, x1, x2⟩ := t3E.cells
      obtain ⟨y0, y1, y2⟩ := t3E.frozen
      have sD := t3D.lt
      go_wp2
      have st9 := (t3E.set (.bool s9) (.slice a9 n9 c9) (.slice b9 m9 d9)).cells
      refine bodyPost_ret (v := .agg #[.bool s9, .slice a9 n9 c9, .slice b9 m9 d9]) (by simp [results, Tryz.results66, go_sem, st9]) rfl ?_
      have hbF9 := HBC.trans ((hbD.trans (hbE.mono hbD.size)).mono (by omega))
      rw [HG.out]
      exact ⟨_, _, _, rfl, (hR.inn (in3 _ _ _ _ _) (by omega)).lower (by omega), hsz, below_in hbF9 (in3 _ _ _ _ _) (by omega) (by rw [HG.out]; exact Nat.le_refl _)⟩
end
end Go.Proofs.YtceecgklgkiffaaGreatDoor
