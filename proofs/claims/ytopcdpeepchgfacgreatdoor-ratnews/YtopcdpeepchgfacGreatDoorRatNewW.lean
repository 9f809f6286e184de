/- RatNews: the walk. -/
import Derived.Test.YtopcdpeepchgfacGreatDoorRatP9
import Derived.Deep.RegionHeld3
namespace Go.Proofs.YtopcdpeepchgfacGreatDoor
open Go.ChangeShapes Go.WideShapes Go.ChangeAt Go.RowKit
open Na Ar
set_option linter.unusedVariables false
set_option linter.unusedSimpArgs false
section
variable {w : World} {s : Bool} {a b : Option Addr} {n c m d : Nat} {xs ys : List Int}
theorem ErrVar.inn {w' : World} {g : Nat} {T : TypeId} {x : Bool} {y z : Value} (h : ErrVar w) (hi : In g (g + 1) w w') (t : St w g T (.bool x) y z) : ErrVar w' := by
  have hlt := cell_lt h
  simp only at hlt
  have hne : 0 ≠ g := by
    intro e
    subst e
    have h1 := h
    unfold ErrVar at h1
    rw [t.cells.1] at h1
    cases h1
  have hb := hi.block 0 hlt (by omega)
  unfold ErrVar at *
  unfold World.cell? at *
  simp only [] at *
  rw [hb]; exact h
theorem texts_any (h : An5 w s a n c b m d xs ys 12) (u : ByteArray) (hu : u.size ≤ maxLen) (hE : ErrVar w) :
    Calls Tryz.prog 29 #[.agg #[.bool s, .slice a n c, .slice b m d], .string u] w fun e w' => e = .returned (.bool true) ∧ Below w.heap.size w w' := by
  by_cases q : 400 < (u.size : Int)
  · exact texts_go h u _ (Or.inl ⟨q, rfl⟩) (by rw [ext_size u (by omega) (by omega)]; omega) hu hE
  · exact texts_go h u _ (Or.inr ⟨q, rfl⟩) (by omega) hu hE
set_option maxHeartbeats 25600000 in
set_option maxRecDepth 100000 in
theorem news_walk (ha : RowAt .u64 w a n xs) (hb : RowAt .u64 w b m ys) (hx : Ws xs) (hy : Ws ys) (hn : n ≤ maxLen) (hm : m ≤ maxLen) {v : Int} (hv : -9223372036854775808 ≤ v ∧ v ≤ 9223372036854775807) {t : ByteArray} (ht : t.size ≤ maxLen) (hE : ErrVar w) :
    Calls Tryz.prog 5 #[.agg #[.bool s, .slice a n c, .slice b m d], .int .i64 v, .string t] w fun e w' => e = .returned (.bool true) ∧ Below w.heap.size w w' := by
  have hnot : ∀ (x : Bool) (w : World), (Op.unary .not (.bool x)).run Tryz.prog w = .ok (.bool (!x)) w := fun _ _ => rfl
  have hb0 := alloc_below (w := w) (.cells #[.bool s, .slice a n c, .slice b m d] 25)
  have st0 := st_new w (.bool s) (.slice a n c) (.slice b m d) 25
  obtain ⟨w0, hw0⟩ : ∃ w0, w0 = w.alloc (.cells #[.bool s, .slice a n c, .slice b m d] 25) := ⟨_, rfl⟩
  rw [← hw0] at hb0 st0
  have f1 := raw_any (s := s) (c := c) (d := d) (ha.later hb0) (hb.later hb0) hx hy hn hm
  obtain ⟨g, hg⟩ : ∃ g, g = w.heap.size := ⟨_, rfl⟩
  have HG : Hid (w.heap.size = g) := hg.symm
  have hE0 := hE.later hb0
  rw [← hg] at st0 hb0
  have HS : g ≤ w0.heap.size := by rw [hg]; exact hb0.size
  have HW : g ≤ w.heap.size := by omega
  obtain ⟨x0, x1, x2⟩ := st0.cells
  clear ha hb hx hy hn hm hE
  generalize xs.take 12 = us at *
  generalize ys.take 12 = vs at *
  go_enter Tryz.func5, Tryz.ntmps5
  go_wp2_with fail
  rw [← hw0, ← hg]
  clear hw0 hg
  refine f1.mono ?_
  rintro e wX ⟨xa, xn, xc, xb, xm, xd, rfl, rx, hbX⟩
  have tX := st0.later hbX
  obtain ⟨x0, x1, x2⟩ := tX.cells
  obtain ⟨y0, y1, y2⟩ := tX.frozen
  have HBX := hb0.trans (hbX.mono HS)
  clear f1
  go_upto_region 2 with (fail)
  have I1 := in3 wX g (.bool s) (.slice xa xn xc) (.slice xb xm xd)
  have tC := tX.set (.bool s) (.slice xa xn xc) (.slice xb xm xd)
  have hA := rx.inn I1 tX
  have HC := below_in HBX I1 (Nat.le_refl _) HW
  have hEX := hE0.later hbX
  have hEC := hEX.inn I1 tX
  generalize ((wX.setCell ⟨g, 0, none⟩ (.bool s)).setCell ⟨g, 1, none⟩ (.slice xa xn xc)).setCell ⟨g, 2, none⟩ (.slice xb xm xd) = wC at *
  clear I1 rx tX HBX hEX hE0 hb0 st0 hbX x0 x1 x2 y0 y1 y2 HS
  have hcl : ∀ w1, Below wC.heap.size wC w1 → w1.cell? ⟨g, 0, none⟩ = some (.bool s) ∧ w1.cell? ⟨g, 1, none⟩ = some (.slice xa xn xc) ∧ w1.cell? ⟨g, 2, none⟩ = some (.slice xb xm xd) := fun w1 h => (tC.later h).cells
  obtain ⟨R, pNew, rNew⟩ := bothNew hA
  have H0 := Below.refl wC.heap.size wC
  obtain ⟨p0, p1, p2⟩ := hcl wC H0
  have gC := tC.lt
  have gS : g ≤ wC.heap.size := by omega
  obtain ⟨K, hK⟩ : ∃ K : Int, (if isR s us vs then (0 : Int) else 51) = K := ⟨_, rfl⟩
  obtain ⟨S, hS⟩ : ∃ S : Int, sgnG s (num us) = S := ⟨_, rfl⟩
  have k1 := fun w1 (h : Below wC.heap.size wC w1) => check_gen (hA.later h) (by omega) hK
  have k2 := fun w1 (h : Below wC.heap.size wC w1) => ref5Check_gen (hA.later h) (by omega) hK
  have k3 := fun w1 (h : Below wC.heap.size wC w1) => rSign_gen (hA.later h) (by omega) hS
  have k4 := fun w1 (h : Below wC.heap.size wC w1) => r5Sign_gen (hA.later h) (by omega) hS
  clear hK hS
  have eK : (K != K) = false := by simp
  have eS : (S != S) = false := by simp
  go_wp2_with fail
  refine (rNew _ H0).mono ?_
  rintro e w1 ⟨s1, a1, n1, c1, b1, m1, d1, rfl, o1, hb1⟩
  have H1 := H0.trans (hb1.mono H0.size)
  obtain ⟨p0, p1, p2⟩ := hcl w1 H1
  go_upto_region 3 with (fail)
  have ty := st_new w1 (.bool s1) (.slice a1 n1 c1) (.slice b1 m1 d1) 25
  have ha1 := alloc_below (w := w1) (.cells #[.bool s1, .slice a1 n1 c1, .slice b1 m1 d1] 25)
  have oy := o1.later ha1
  have HX := H1.trans (ha1.mono H1.size)
  generalize w1.alloc (.cells #[.bool s1, .slice a1 n1 c1, .slice b1 m1 d1] 25) = z1 at *
  have ky : wC.heap.size ≤ w1.heap.size := H1.size
  obtain ⟨gy, hgy⟩ : ∃ gy, gy = w1.heap.size := ⟨_, rfl⟩
  rw [← hgy] at ty ky ⊢
  clear hgy ha1
  obtain ⟨p0, p1, p2⟩ := hcl z1 HX
  go_wp2_with fail
  refine (pNew _ HX).mono ?_
  rintro e w2 ⟨s2, a2, n2, c2, b2, m2, d2, rfl, o2, hb2⟩
  have H2 := HX.trans (hb2.mono HX.size)
  obtain ⟨p0, p1, p2⟩ := hcl w2 H2
  go_upto_region 4 with (fail)
  have tx := st_new w2 (.bool s2) (.slice a2 n2 c2) (.slice b2 m2 d2) 25
  have ha2 := alloc_below (w := w2) (.cells #[.bool s2, .slice a2 n2 c2, .slice b2 m2 d2] 25)
  have ox := o2.later ha2
  have ty0 : gy < w2.heap.size := (ty.later hb2).lt
  replace oy := (oy.later hb2).later ha2
  replace ty := (ty.later hb2).later ha2
  have HY := H2.trans (ha2.mono H2.size)
  generalize w2.alloc (.cells #[.bool s2, .slice a2 n2 c2, .slice b2 m2 d2] 25) = z2 at *
  obtain ⟨gx, hgx⟩ : ∃ gx, gx = w2.heap.size := ⟨_, rfl⟩
  rw [← hgx] at tx ty0 ⊢
  have nxy : ¬ gx = gy := by omega
  have nyx : ¬ gy = gx := by omega
  have ngx : ¬ g = gx := by omega
  have nxg : ¬ gx = g := by omega
  have ngy : ¬ g = gy := by omega
  have nyg : ¬ gy = g := by omega
  clear hgx ha2
  have hcl2 : ∀ w1, Below z2.heap.size z2 w1 → w1.cell? ⟨g, 0, none⟩ = some (.bool s) ∧ w1.cell? ⟨g, 1, none⟩ = some (.slice xa xn xc) ∧ w1.cell? ⟨g, 2, none⟩ = some (.slice xb xm xd) ∧ w1.cell? ⟨gx, 0, none⟩ = some (.bool s2) ∧ w1.cell? ⟨gx, 1, none⟩ = some (.slice a2 n2 c2) ∧ w1.cell? ⟨gx, 2, none⟩ = some (.slice b2 m2 d2) ∧ w1.cell? ⟨gy, 0, none⟩ = some (.bool s1) ∧ w1.cell? ⟨gy, 1, none⟩ = some (.slice a1 n1 c1) ∧ w1.cell? ⟨gy, 2, none⟩ = some (.slice b1 m1 d1) := fun w1 h => by
    obtain ⟨r0, r1, r2⟩ := hcl w1 (HY.trans (h.mono HY.size))
    obtain ⟨i0, i1, i2⟩ := (tx.later h).cells
    obtain ⟨j0, j1, j2⟩ := (ty.later h).cells
    exact ⟨r0, r1, r2, i0, i1, i2, j0, j1, j2⟩
  have Z0 := Below.refl z2.heap.size z2
  obtain ⟨p0, p1, p2, i0, i1, i2, j0, j1, j2⟩ := hcl2 z2 Z0
  have l0 := fun w1 (h : Below z2.heap.size z2 w1) => (told_yes (E := leR R) (ox.later h) (oy.later h)).mono (R' := fun e w' => e = .returned (.bool true) ∧ Below z2.heap.size z2 w') (fun _ _ k => ⟨k.1, h.trans (k.2.mono h.size)⟩)
  have l1 := fun w1 (h : Below z2.heap.size z2 w1) => (k1 w1 (HY.trans (h.mono HY.size))).mono (R' := fun e w' => e = .returned (.int .i64 K) ∧ Below z2.heap.size z2 w') (fun _ _ k => ⟨k.1, h.trans (k.2.mono h.size)⟩)
  have l2 := fun w1 (h : Below z2.heap.size z2 w1) => (k2 w1 (HY.trans (h.mono HY.size))).mono (R' := fun e w' => e = .returned (.int .i64 K) ∧ Below z2.heap.size z2 w') (fun _ _ k => ⟨k.1, h.trans (k.2.mono h.size)⟩)
  have l3 := fun w1 (h : Below z2.heap.size z2 w1) => (k3 w1 (HY.trans (h.mono HY.size))).mono (R' := fun e w' => e = .returned (.int .i64 S) ∧ Below z2.heap.size z2 w') (fun _ _ k => ⟨k.1, h.trans (k.2.mono h.size)⟩)
  have l4 := fun w1 (h : Below z2.heap.size z2 w1) => (k4 w1 (HY.trans (h.mono HY.size))).mono (R' := fun e w' => e = .returned (.int .i64 S) ∧ Below z2.heap.size z2 w') (fun _ _ k => ⟨k.1, h.trans (k.2.mono h.size)⟩)
  clear k1 k2 k3 k4
  go_region_held3 (fun w' => w'.cell? ⟨g, 0, none⟩ = some (.bool s) ∧ w'.cell? ⟨g, 1, none⟩ = some (.slice xa xn xc) ∧ w'.cell? ⟨g, 2, none⟩ = some (.slice xb xm xd) ∧ w'.cell? ⟨gx, 0, none⟩ = some (.bool s2) ∧ w'.cell? ⟨gx, 1, none⟩ = some (.slice a2 n2 c2) ∧ w'.cell? ⟨gx, 2, none⟩ = some (.slice b2 m2 d2) ∧ w'.cell? ⟨gy, 0, none⟩ = some (.bool s1) ∧ w'.cell? ⟨gy, 1, none⟩ = some (.slice a1 n1 c1) ∧ w'.cell? ⟨gy, 2, none⟩ = some (.slice b1 m1 d1)) (go_keep) (first | (go_at_call 22; refine (l0 _ (by first | exact Below.refl _ _ | exact below_drewN (Below.refl _ _) _)).mono ?_; rintro e wA ⟨rfl, hBA⟩; obtain ⟨p0, p1, p2, i0, i1, i2, j0, j1, j2⟩ := hcl2 wA hBA) | (go_at_call 23; refine (l1 _ (by first | exact hBA | exact below_drewN hBA _)).mono ?_; rintro e wB ⟨rfl, hBB⟩; obtain ⟨p0, p1, p2, i0, i1, i2, j0, j1, j2⟩ := hcl2 wB hBB) | (go_at_call 24; refine (l2 _ (by first | exact hBB | exact below_drewN hBB _)).mono ?_; rintro e wD ⟨rfl, hBD⟩; obtain ⟨p0, p1, p2, i0, i1, i2, j0, j1, j2⟩ := hcl2 wD hBD) | (go_at_call 25; refine (l3 _ (by first | exact hBD | exact below_drewN hBD _)).mono ?_; rintro e wE ⟨rfl, hBE⟩; obtain ⟨p0, p1, p2, i0, i1, i2, j0, j1, j2⟩ := hcl2 wE hBE) | (go_at_call 26; refine (l4 _ (by first | exact hBE | exact below_drewN hBE _)).mono ?_; rintro e wF ⟨rfl, hBF⟩; obtain ⟨p0, p1, p2, i0, i1, i2, j0, j1, j2⟩ := hcl2 wF hBF))
  have szv : Sz ((v : Int) : Rat) 4096 := sz_int ((Lt.word (x := (v.natAbs : Int)) ⟨by omega, by omega⟩).mono (by omega))
  have HF := HY.trans (hBF.mono HY.size)
  clear l0 l1 l2 l3 l4
  go_wp2_with fail
  refine (rInt_any hv.1 hv.2 _).mono ?_
  rintro e wG ⟨s5, u5, v5, rfl, R5, hbG⟩
  obtain ⟨a5, n5, c5, b5, m5, d5, rfl, rfl, o5⟩ := od_ok R5 szv
  have HG5 := HF.trans (hbG.mono HF.size)
  obtain ⟨p0, p1, p2⟩ := hcl wG HG5
  go_wp2_with fail
  refine (r5Int_any hv.1 hv.2 _).mono ?_
  rintro e wH ⟨s6, u6, v6, rfl, R6, hbH⟩
  obtain ⟨a6, n6, c6, b6, m6, d6, rfl, rfl, o6⟩ := od_ok R6 szv
  have HH := HG5.trans (hbH.mono HG5.size)
  obtain ⟨p0, p1, p2⟩ := hcl wH HH
  go_wp2_with fail
  refine (one_yes (o5.later hbH) o6).mono ?_
  rintro e wI ⟨rfl, hbI⟩
  have HI := HH.trans (hbI.mono HH.size)
  obtain ⟨p0, p1, p2⟩ := hcl wI HI
  go_wp2_with fail
  refine (texts_any (hA.later HI) t ht (hEC.later HI)).mono ?_
  rintro e wJ ⟨rfl, hbJ⟩
  have HJ := HI.trans (hbJ.mono HI.size)
  go_wp2_with fail
  go_ret
  rw [HG.out]
  exact ⟨rfl, HC.trans (HJ.mono gS)⟩
end
end Go.Proofs.YtopcdpeepchgfacGreatDoor
