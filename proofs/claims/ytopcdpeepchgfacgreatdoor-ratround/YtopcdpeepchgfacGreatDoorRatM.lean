/- plumblaw05: whole, made, alive. -/
import Derived.Test.YtopcdpeepchgfacGreatDoorRatL
namespace Go.Proofs.YtopcdpeepchgfacGreatDoor
open Go.ChangeShapes Go.WideShapes Go.ChangeAt Go.RowKit
open Na Ar
set_option linter.unusedVariables false
/-- the numbers of a Part -/
def pNum (xs : List Int) : Int := num (xs.take 12)
def pDen (ys : List Int) : Int := if num (ys.take 12) = 0 then 1 else num (ys.take 12)
theorem pNum_lt {xs : List Int} (h : Ws xs) : Lt (pNum xs) 12 := by
  have hm : Nm (xs.take 12) (num (xs.take 12)) := ⟨h.take 12, rfl, by rw [List.length_take]; omega⟩
  exact hm.lt (by rw [List.length_take]; omega)
theorem pDen_lt {xs : List Int} (h : Ws xs) : Lt (pDen xs) 12 := by
  unfold pDen
  split
  · exact lt_one.mono (by omega)
  · exact pNum_lt h
theorem pDen_pos {xs : List Int} (h : Ws xs) : 0 < pDen xs := by
  have := num_nonneg (h.take 12)
  unfold pDen
  split <;> omega
theorem num_take_zero {zs : List Int} (hz : Ws zs) {k : Nat} (hk : k < zs.length) : num (zs.take (k + 1)) = 0 ↔ num (zs.take k) = 0 ∧ zs.getD k 0 = 0 := by
  rw [take_next hk]
  have a : 0 ≤ num (zs.take k) := num_nonneg (hz.take k)
  have g := hz.getAnyB k
  show val _ (zs.take k ++ [zs.getD k 0]) = 0 ↔ _
  rw [val_append]
  have e : val 18446744073709551616 [zs.getD k 0] = zs.getD k 0 := by simp [val]
  rw [e]
  have b : (0 : Int) < 18446744073709551616 ^ (zs.take k).length := Int.pow_pos (by omega)
  change num (zs.take k) + _ = 0 ↔ _
  generalize num (zs.take k) = A at *
  generalize zs.getD k 0 = x at *
  generalize (18446744073709551616 : Int) ^ (zs.take k).length = P at *
  have g0 : 0 ≤ x := g.1
  have m := Int.mul_nonneg (Int.le_of_lt b) g0
  constructor
  · intro h
    have h0 : P * x = 0 := by omega
    rcases Int.mul_eq_zero.mp h0 with h | h
    · omega
    · exact ⟨by omega, h⟩
  · rintro ⟨h1, h2⟩
    rw [h1, h2]; simp
section
variable {w : World} {s1 : Bool} {a1 b1 : Option Addr} {n1 c1 m1 d1 : Nat} {xs ys : List Int}
/-- what whole answers -/
def WholeP (xs ys : List Int) (w : World) (e : Ending) (w' : World) : Prop := ∃ a' n' c' l1 b' m' d' l2, e = .returned (.tuple #[.slice a' n' c', .slice b' m' d']) ∧ RowC w' a' n' c' l1 ∧ Nm l1 (pNum xs) ∧ n' ≤ 12 ∧ RowC w' b' m' d' l2 ∧ Nm l2 (pDen ys) ∧ m' ≤ 12 ∧ Below w.heap.size w w'
theorem cut_at {w0 w1 : World} (h : Below w0.heap.size w0 w1) (hr : RowAt .u64 w0 a1 n1 xs) (hn : n1 ≤ maxLen) :
    Calls Tryz.prog 18 #[.slice a1 n1 c1] w1 fun e w' => ∃ a' n' c' l', e = .returned (.slice a' n' c') ∧ RowC w' a' n' c' l' ∧ Hid (l' = xs.take 12) ∧ n' ≤ 12 ∧ Below w0.heap.size w0 w' ∧ Below w1.heap.size w1 w' := by
  refine (cut_any (cap := c1) (hr.later h) hn).mono ?_
  rintro e w' ⟨v, rfl, o, hb⟩
  obtain ⟨a', c', rfl, r⟩ := o.readsC
  exact ⟨a', _, c', _, rfl, r, rfl, by rw [List.length_take]; omega, h.trans (hb.mono h.size), hb⟩
set_option maxHeartbeats 6400000 in
set_option maxRecDepth 100000 in
theorem whole_any (hr1 : RowAt .u64 w a1 n1 xs) (hr2 : RowAt .u64 w b1 m1 ys) (hx : Ws xs) (hy : Ws ys) (hn : n1 ≤ maxLen) (hm : m1 ≤ maxLen) :
    Calls Tryz.prog 30 #[.agg #[.bool s1, .slice a1 n1 c1, .slice b1 m1 d1]] w fun e w' => WholeP xs ys w e w' := by
  have hb0 := alloc_below (w := w) (.cells #[.bool s1, .slice a1 n1 c1, .slice b1 m1 d1] 24)
  have t1 := st_new w (.bool s1) (.slice a1 n1 c1) (.slice b1 m1 d1) 24
  obtain ⟨w0, hw0⟩ : ∃ w0, w0 = w.alloc (.cells #[.bool s1, .slice a1 n1 c1, .slice b1 m1 d1] 24) := ⟨_, rfl⟩
  rw [← hw0] at t1 hb0
  have f1 := fun w1 h => cut_at (c1 := c1) (w0 := w0) (w1 := w1) h (hr1.later hb0) hn
  have f2 := fun w1 h => cut_at (c1 := d1) (w0 := w0) (w1 := w1) h (hr2.later hb0) hm
  obtain ⟨g, hg⟩ : ∃ g, g = w.heap.size := ⟨_, rfl⟩
  have HG : Hid (w.heap.size = g) := hg.symm
  rw [← hg] at t1 hb0
  have HS : g ≤ w0.heap.size := by rw [hg]; exact hb0.size
  have hcl : ∀ w1, Below w0.heap.size w0 w1 → w1.cell? ⟨g, 1, none⟩ = some (.slice a1 n1 c1) ∧ w1.cell? ⟨g, 2, none⟩ = some (.slice b1 m1 d1) := fun w1 h => (t1.later h).cells.2
  obtain ⟨x1, x2⟩ := hcl w0 (Below.refl _ _)
  clear hr1 hr2
  go_enter Tryz.func30, Tryz.ntmps30
  go_wp2
  rw [← hw0, ← hg]
  clear hw0 hg t1
  go_region_held3 (fun w' => w'.cell? ⟨g, 1, none⟩ = some (.slice a1 n1 c1) ∧ w'.cell? ⟨g, 2, none⟩ = some (.slice b1 m1 d1)) (go_keep) (first | (go_at_call_of 18 a1; refine (f1 _ (by first | exact Below.refl _ _ | exact below_drewN (Below.refl _ _) _)).mono ?_; rintro e wA ⟨a2, M, c2, us, rfl, r1A, eu, lA, hBA, hbA⟩; obtain ⟨x1, x2⟩ := hcl wA hBA) | (go_at_call 18; refine (f2 _ (by first | exact hBA | exact below_drewN hBA _)).mono ?_; rintro e wB ⟨a3, L, c3, zs, rfl, r2, ez, lZ, hBB, hbB⟩; obtain ⟨x1, x2⟩ := hcl wB hBB))
  have r1 := r1A.later hbB
  have HBB := hb0.trans (hBB.mono HS)
  have hA : Nm us (pNum xs) := by
    rw [eu.out]
    exact ⟨hx.take 12, rfl, by rw [List.length_take]; omega⟩
  have hZ : Ws zs := by rw [ez.out]; exact hy.take 12
  have HD : Hid (pDen ys = if num zs = 0 then 1 else num zs) := by rw [ez.out]; rfl
  have HL : Hid (L = zs.length) := r2.1.1.symm
  clear hbA hbB hBA hBB f1 f2 hcl hx hy hn hm hb0 r1A eu ez
  go_wp2
  go_loopw [6, 7] (fun zv iv wr => ∃ k : Nat, k ≤ L ∧ iv = .int .i64 k ∧ zv = .bool (decide (num (zs.take k) = 0)) ∧ wr = wB) (fun _ iv _ => L - (intOf iv).toNat)
  case atStart => exact ⟨0, Nat.zero_le _, rfl, rfl, rfl⟩
  case round =>
    obtain ⟨k, hk, rfl, rfl, rfl⟩ := hrel
    by_cases hlt : k < L
    · have i1 : (k : Int) < (L : Int) := by omega
      have nt := num_take_zero hZ (k := k) (by rw [← HL.out]; exact hlt)
      obtain ⟨b, off, rfl, hbB, hc⟩ := r2.1.at (by omega)
      have hcx := hc k hlt
      by_cases hz : num (zs.take k) = 0
      · have e1 : decide (num (zs.take k) = 0) = true := decide_eq_true hz
        rw [e1]
        have HN : Hid ((zs.getD k 0 == 0) = decide (num (zs.take (k + 1)) = 0)) := by
          show _ = _
          rw [Bool.eq_iff_iff, decide_eq_true_iff, nt]
          simp [hz]
        generalize zs.getD k 0 = x at *
        clear nt hz e1 hc
        go_wp2
        go_roundw
        case rel => exact ⟨k + 1, by omega, by go_num, by rw [HN.out], by first | rfl | trivial⟩
        case measure => simp [intOf]; omega
      · have e1 : decide (num (zs.take k) = 0) = false := decide_eq_false hz
        rw [e1]
        have HN : Hid (false = decide (num (zs.take (k + 1)) = 0)) := by
          show _ = _
          symm
          rw [decide_eq_false_iff_not, nt]
          exact fun h => hz h.1
        clear nt hz e1 hc
        go_wp2
        go_roundw
        case rel => exact ⟨k + 1, by omega, by go_num, by rw [← HN.out], by first | rfl | trivial⟩
        case measure => simp [intOf]; omega
    · have i1 : ¬ (k : Int) < (L : Int) := by omega
      have ht : zs.take k = zs := List.take_of_length_le (by rw [← HL.out]; omega)
      rw [ht]
      by_cases hz : num zs = 0
      · have e1 : decide (num zs = 0) = true := decide_eq_true hz
        rw [e1]
        have hd : pDen ys = 1 := by rw [HD.out, if_pos hz]
        have hal := alloc_below (w := wr) (.cells #[.int .u64 1] 46)
        have ro := rowC_one wr 1 46
        have r1' := r1.later hal
        clear hz e1 ht hlt HD
        go_wp2
        go_ret2
        unfold WholeP
        rw [HG.out]
        exact ⟨_, _, _, _, _, _, _, _, rfl, r1', hA, lA, ro, by rw [hd]; exact Nm.one (by omega), by omega, HBB.trans (hal.mono (by rw [← HG.out]; exact HBB.size))⟩
      · have e1 : decide (num zs = 0) = false := decide_eq_false hz
        rw [e1]
        have hd : pDen ys = num zs := by rw [HD.out, if_neg hz]
        clear hz e1 ht hlt HD
        go_wp2
        go_ret2
        unfold WholeP
        rw [HG.out]
        exact ⟨_, _, _, _, _, _, _, _, rfl, r1, hA, lA, r2, ⟨hZ, hd.symm, by rw [← HL.out]; omega⟩, lZ, HBB⟩
set_option maxHeartbeats 6400000 in
set_option maxRecDepth 100000 in
theorem made_any (hr1 : RowAt .u64 w a1 n1 xs) (hr2 : RowAt .u64 w b1 m1 ys) (hx : Ws xs) (hy : Ws ys) (hn : n1 ≤ maxLen) (hm : m1 ≤ maxLen) :
    Calls Tryz.prog 6 #[.agg #[.bool s1, .slice a1 n1 c1, .slice b1 m1 d1]] w fun e w' => ∃ s v1 v2, e = .returned (.tuple #[.agg #[.bool s, v1, v2], .bool true]) ∧ RtO w' w.heap.size s v1 v2 (mkR s1 (pNum xs) (pDen ys)) ∧ Sz (mkR s1 (pNum xs) (pDen ys)) 12 ∧ Below w.heap.size w w' := by
  obtain ⟨t1, t3, hb0⟩ := st_two w (.bool s1) (.slice a1 n1 c1) (.slice b1 m1 d1) (.bool false) (.slice none 0 0) (.slice none 0 0) 24 25
  have e0 : ((w.alloc (.cells #[.bool s1, .slice a1 n1 c1, .slice b1 m1 d1] 24)).alloc (.cells #[.bool false, .slice none 0 0, .slice none 0 0] 25)).heap.size = w.heap.size + 2 := by simp
  obtain ⟨w0, hw0⟩ : ∃ w0, w0 = (w.alloc (.cells #[.bool s1, .slice a1 n1 c1, .slice b1 m1 d1] 24)).alloc (.cells #[.bool false, .slice none 0 0, .slice none 0 0] 25) := ⟨_, rfl⟩
  rw [← hw0] at t1 t3 hb0 e0
  have hsz := Sz.mkR (s := s1) (pNum_lt hx) (pDen_lt hy) (pDen_pos hy)
  have f0 := whole_any (s1 := s1) (c1 := c1) (d1 := d1) (hr1.later hb0) (hr2.later hb0) hx hy hn hm
  have lN := (pNum_lt hx).mono (show 12 ≤ 4096 by omega)
  have lD := (pDen_lt hy).mono (show 12 ≤ 4096 by omega)
  have pD := pDen_pos hy
  clear hr1 hr2 hx hy hn hm
  obtain ⟨g, hg⟩ : ∃ g, g = w.heap.size := ⟨_, rfl⟩
  have HG : Hid (w.heap.size = g) := hg.symm
  rw [← hg] at t1 t3 hb0 e0
  have HS : g ≤ w0.heap.size := by rw [hg]; exact hb0.size
  go_enter Tryz.func6, Tryz.ntmps6
  go_wp2_with fail
  rw [← hw0, ← hg]
  refine f0.mono ?_
  rintro e wA ⟨a2, n2, c2, l1, b2, m2, d2, l2, rfl, r1, nA, ln, r2, nD, lm, hbA⟩
  obtain ⟨y0, y1, y2⟩ := (t1.later hbA).cells
  clear f0 hw0 hg
  go_wp2_with fail
  refine (rNew_ok r1 r2 nA nD pD lN lD (by omega) (by omega)).mono ?_
  rintro e wB ⟨s9, v1, v2, rfl, hR, hbB0⟩
  obtain ⟨a9, n9, c9, b9, m9, d9, rfl, rfl, hRt⟩ := hR.opens
  have hbB := hbA.trans (hbB0.mono hbA.size)
  clear r1 r2 nA nD t1 y0 y1 y2
  have hal := alloc_below (w := wB) (.cells #[.bool s9, .slice a9 n9 c9, .slice b9 m9 d9] 25)
  have tr := st_new wB (.bool s9) (.slice a9 n9 c9) (.slice b9 m9 d9) 25
  obtain ⟨wC, hwC⟩ : ∃ wC, wC = wB.alloc (.cells #[.bool s9, .slice a9 n9 c9, .slice b9 m9 d9] 25) := ⟨_, rfl⟩
  obtain ⟨r, hr⟩ : ∃ r, r = wB.heap.size := ⟨_, rfl⟩
  go_wp2
  rw [← hwC] at hal tr ⊢
  rw [← hr] at tr hal ⊢
  have hRC := hRt.later (by rw [← hr]; exact hal)
  have hbC := hbB.trans (hal.mono (by rw [hr]; exact hbB.size))
  have sA := hbA.size
  have sB := hbB.size
  have sC := tr.lt
  have sT := t3.lt
  have sR : wB.heap.size ≤ r := Nat.le_of_eq hr.symm
  have hcl : ∀ w1, Below wC.heap.size wC w1 → w1.cell? ⟨r, 0, none⟩ = some (.bool s9) ∧ w1.cell? ⟨r, 1, none⟩ = some (.slice a9 n9 c9) ∧ w1.cell? ⟨r, 2, none⟩ = some (.slice b9 m9 d9) := fun w1 h => (tr.later h).cells
  obtain ⟨x0, x1, x2⟩ := hcl wC (Below.refl _ _)
  have t3C := t3.later hbC
  have hR2 := hR.later (by rw [← hr]; exact hal)
  have fc := fun w1 (h : Below wC.heap.size wC w1) => check_ok (hRC.later h) hsz (by omega)
  have ne1 : ¬ r = g + 1 := by omega
  have ne2 : ¬ g + 1 = r := by omega
  clear hwC hRt hR hal t3 tr hr hbA hbB0
  go_region_held3 (fun w' => w'.cell? ⟨r, 0, none⟩ = some (.bool s9) ∧ w'.cell? ⟨r, 1, none⟩ = some (.slice a9 n9 c9) ∧ w'.cell? ⟨r, 2, none⟩ = some (.slice b9 m9 d9)) (go_keep) ((go_at_call 23; refine (fc _ (by first | exact Below.refl _ _ | exact below_drewN (Below.refl _ _) _)).mono ?_; rintro e wD ⟨rfl, hbD⟩; have hBD : Below wC.heap.size wC wD := (by first | exact hbD | exact (below_drewN (Below.refl _ _) 1).trans hbD); obtain ⟨x0, x1, x2⟩ := hcl wD hBD; have t3D := t3C.later hBD; obtain ⟨u0, u1, u2⟩ := t3D.cells; obtain ⟨v0, v1, v2⟩ := t3D.frozen))
  go_wp2
  have hRD := hR2.later hBD
  have hbF9 := (hb0.trans (hbC.mono HS)).trans (hBD.mono (by omega))
  have st9 := (t3D.set (.bool s9) (.slice a9 n9 c9) (.slice b9 m9 d9)).cells
  refine bodyPost_ret (v := .tuple #[.agg #[.bool s9, .slice a9 n9 c9, .slice b9 m9 d9], .bool true]) (by simp [results, Tryz.results6, go_sem, st9]) rfl ?_
  rw [HG.out]
  exact ⟨_, _, _, rfl, (hRD.inn (in3 _ _ _ _ _) (by omega)).lower (by omega), hsz, below_in hbF9 (in3 _ _ _ _ _) (by omega) (by rw [HG.out]; exact Nat.le_refl _)⟩
end
end Go.Proofs.YtopcdpeepchgfacGreatDoor
