/- package rat: New, Int, Floor, where nothing is too long. -/
import Derived.Test.YtopcdpeepchgfacGreatDoorRatE
namespace Go.Proofs.YtopcdpeepchgfacGreatDoor
open Go.ChangeShapes Go.WideShapes Go.ChangeAt Go.RowKit
open Na Ar
set_option linter.unusedVariables false
theorem fl_pos {q : Rat} (h : ¬ q.num < 0) : q.floor = (q.num.natAbs : Int) / (q.den : Int) := by
  rw [Rat.floor_def, show (q.num.natAbs : Int) = q.num by omega]
theorem fl_neg0 {q : Rat} (h : q.num < 0) (hr : (q.num.natAbs : Int) % (q.den : Int) = 0) : q.floor = -((q.num.natAbs : Int) / (q.den : Int)) := by
  rw [Rat.floor_def]
  have d := den_pos q
  have e := Int.mul_ediv_add_emod (q.num.natAbs : Int) (q.den : Int)
  rw [hr] at e
  generalize (q.num.natAbs : Int) / (q.den : Int) = z at *
  have e2 : q.num = (q.den : Int) * (-z) := by rw [Int.mul_neg]; omega
  rw [e2, Int.mul_ediv_cancel_left _ (by omega)]
theorem fl_neg1 {q : Rat} (h : q.num < 0) (hr : (q.num.natAbs : Int) % (q.den : Int) ≠ 0) : q.floor = -((q.num.natAbs : Int) / (q.den : Int) + 1) := by
  rw [Rat.floor_def]
  have d := den_pos q
  have e := Int.mul_ediv_add_emod (q.num.natAbs : Int) (q.den : Int)
  have r0 := Int.emod_nonneg (q.num.natAbs : Int) (show (q.den : Int) ≠ 0 by omega)
  have r1 := Int.emod_lt_of_pos (q.num.natAbs : Int) d
  generalize (q.num.natAbs : Int) / (q.den : Int) = z at *
  generalize (q.num.natAbs : Int) % (q.den : Int) = r at *
  have e2 : q.num = ((q.den : Int) - r) + (q.den : Int) * (-(z + 1)) := by rw [Int.mul_neg, Int.mul_add]; omega
  rw [e2, Int.add_mul_ediv_left _ _ (by omega), Int.ediv_eq_zero_of_lt (by omega) (by omega)]
  omega
theorem RtO.whole {w : World} {base : Nat} {s : Bool} {v1 v2 : Value} {Z A : Int} (hs : s = decide (Z < 0)) (hA : A = (Z.natAbs : Int)) (h1 : Own .u64 w base 46 v1 (words A)) (h2 : Own .u64 w base 46 v2 (words 1)) (ap : Apart v1 v2) : RtO w base s v1 v2 ((Z : Int) : Rat) :=
  ⟨by rw [Rat.num_intCast]; exact hs, by rw [Rat.num_intCast, ← hA]; exact h1, by rw [Rat.den_intCast]; exact h2, ap⟩
theorem apart_later {w : World} {b1 b2 : Nat} {e : TypeId} {v1 v2 : Value} {xs ys : List Int} {w' : World} (h1 : Own .u64 w b1 e v1 xs) (h2 : Own .u64 w' b2 e v2 ys) (hb : w.heap.size ≤ b2) : Apart v1 v2 := fun g hg hg' => by
  have a := (own_blk h1 hg).2
  have b := (own_blk h2 hg').1
  omega
theorem Apart.symm {v1 v2 : Value} (h : Apart v1 v2) : Apart v2 v1 := fun g hg hg' => h g hg' hg
section
variable {w : World} {a b : Option Addr} {n c m d : Nat} {xs ys : List Int} {A B : Int} {k : Nat}
set_option maxHeartbeats 6400000 in
set_option maxRecDepth 100000 in
theorem rNew_ok {neg : Bool} (hr1 : RowC w a n c xs) (hr2 : RowC w b m d ys) (h1 : Nm xs A) (h2 : Nm ys B) (hB : 0 < B) (lA : Lt A 4096) (lB : Lt B 4096) (hn : n ≤ 3700000) (hm : m ≤ 3700000) :
    Calls Tryz.prog 21 #[.bool neg, .slice a n c, .slice b m d] w fun e w' => ∃ s v1 v2, e = .returned (.tuple #[.agg #[.bool s, v1, v2], .int .i64 0]) ∧ RtO w' w.heap.size s v1 v2 (mkR neg A B) ∧ Below w.heap.size w w' := by
  have hb0 := alloc_below (w := w) (.cells #[.bool false, .slice none 0 0, .slice none 0 0] 25)
  have st0 := st_new w (.bool false) (.slice none 0 0) (.slice none 0 0) 25
  replace hr1 := hr1.later hb0
  replace hr2 := hr2.later hb0
  have k1 := bits0_any hr1 h1.ws (by omega)
  have k2 := bits0_any hr2 h2.ws (by omega)
  rw [h1.num] at k1
  rw [h2.num] at k2
  obtain ⟨j, hj, _⟩ := bits_some hB
  have bA := bits_le lA.1 lA.2
  have bB := bits_le lB.1 lB.2
  rw [hj] at k2 bB
  have tj : (((j : Int) + 1) == 0) = false := beq_no (by omega)
  have tA : ¬ 262144 < bitsN A := by omega
  have tB : ¬ 262144 < (j : Int) + 1 := by omega
  generalize bitsN A = bA' at *
  generalize (j : Int) + 1 = bB' at *
  have low := rlow_any (neg := neg) hr1 hr2 h1 h2 hB hn hm
  clear hr1 hr2 h1 h2 hB hn hm hj bA bB lA lB
  go_enter Tryz.func21, Tryz.ntmps21
  go_wp2_with fail
  refine k2.mono ?_
  rintro e w1 ⟨rfl, rfl⟩
  go_wp2_with fail
  refine k1.mono ?_
  rintro e w1 ⟨rfl, rfl⟩
  go_wp2_with fail
  refine k2.mono ?_
  rintro e w1 ⟨rfl, rfl⟩
  go_wp2_with fail
  refine low.mono ?_
  rintro e wE ⟨s9, v1, v2, rfl, hR, hbE⟩
  obtain ⟨a9, n9, c9, b9, m9, d9, rfl, rfl, _⟩ := hR.opens
  have tE := st0.later hbE
  obtain ⟨x0, x1, x2⟩ := tE.cells
  obtain ⟨y0, y1, y2⟩ := tE.frozen
  clear k1 k2 low
  go_wp2
  have st9 := (tE.set (.bool s9) (.slice a9 n9 c9) (.slice b9 m9 d9)).cells
  refine bodyPost_ret (v := .tuple #[.agg #[.bool s9, .slice a9 n9 c9, .slice b9 m9 d9], .int .i64 0]) (by simp [results, Tryz.results21, go_sem, st9]) rfl ?_
  exact ⟨_, _, _, rfl, (hR.inn (in3 _ _ _ _ _) (by simp)).lower (by simp), below_in (hb0.trans (hbE.mono hb0.size)) (in3 _ _ _ _ _) (Nat.le_refl _) (Nat.le_refl _)⟩
end
set_option maxHeartbeats 6400000 in
set_option maxRecDepth 100000 in
theorem rInt_any {v : Int} (h0 : -9223372036854775808 ≤ v) (h1 : v ≤ 9223372036854775807) (w : World) :
    Calls Tryz.prog 27 #[.int .i64 v] w fun e w' => ∃ s v1 v2, e = .returned (.agg #[.bool s, v1, v2]) ∧ RtO w' w.heap.size s v1 v2 ((v : Int) : Rat) ∧ Below w.heap.size w w' := by
  have hb0 := alloc_below (w := w) (.cells #[.bool false, .slice none 0 0, .slice none 0 0] 25)
  have st0 := st_new w (.bool false) (.slice none 0 0) (.slice none 0 0) 25
  by_cases hv : v < 0
  · have f1 := fun w => natFrom_any (v := (v.natAbs : Int)) (by omega) w
    have f2 := fun w => natFrom_any (v := 1) (by omega) w
    have e1 : IntKind.u64.wrap (-IntKind.u64.wrap v) = (v.natAbs : Int) := by rw [wrapU, wrapU]; omega
    have HV : Hid (true = decide (v < 0)) := by exact (decide_eq_true hv).symm
    go_enter Tryz.func27, Tryz.ntmps27
    go_wp2_with fail
    refine (f1 _).mono ?_
    rintro e wA ⟨u1, rfl, o1, hbA⟩
    obtain ⟨a1, c1, rfl, _⟩ := o1.readsC
    clear f1 h0 h1 hv
    go_wp2_with fail
    refine (f2 _).mono ?_
    rintro e wB ⟨u2, rfl, o2, hbB⟩
    have hap := apart_later o1 o2 (Nat.le_refl _)
    obtain ⟨a2, c2, rfl, _⟩ := o2.readsC
    have o1B := own_same o1 fun g hg => hbB.block g (own_blk o1 hg).2
    have o2B := own_lower o2 hbA.size
    have hbAB := hbA.trans (hbB.mono hbA.size)
    have tE := st0.later hbAB
    obtain ⟨x0, x1, x2⟩ := tE.cells
    obtain ⟨y0, y1, y2⟩ := tE.frozen
    clear f2 st0 o1 o2 hbA hbB
    go_wp2
    have st9 := (tE.set (.bool true) (.slice a1 (words (v.natAbs : Int)).length c1) (.slice a2 (words 1).length c2)).cells
    refine bodyPost_ret (v := .agg #[.bool true, .slice a1 (words (v.natAbs : Int)).length c1, .slice a2 (words 1).length c2]) (by simp [results, Tryz.results27, go_sem, st9]) rfl ?_
    exact ⟨_, _, _, rfl, ((RtO.whole HV.out rfl o1B o2B hap).inn (in3 _ _ _ _ _) (by simp)).lower (by simp), below_in (hb0.trans (hbAB.mono hb0.size)) (in3 _ _ _ _ _) (Nat.le_refl _) (Nat.le_refl _)⟩
  · have f1 := fun w => natFrom_any (v := (v.natAbs : Int)) (by omega) w
    have f2 := fun w => natFrom_any (v := 1) (by omega) w
    have e1 : IntKind.u64.wrap v = (v.natAbs : Int) := by rw [wrapU]; omega
    have HV : Hid (false = decide (v < 0)) := by exact (decide_eq_false hv).symm
    go_enter Tryz.func27, Tryz.ntmps27
    go_wp2_with fail
    refine (f1 _).mono ?_
    rintro e wA ⟨u1, rfl, o1, hbA⟩
    obtain ⟨a1, c1, rfl, _⟩ := o1.readsC
    clear f1 h0 h1 hv
    go_wp2_with fail
    refine (f2 _).mono ?_
    rintro e wB ⟨u2, rfl, o2, hbB⟩
    have hap := apart_later o1 o2 (Nat.le_refl _)
    obtain ⟨a2, c2, rfl, _⟩ := o2.readsC
    have o1B := own_same o1 fun g hg => hbB.block g (own_blk o1 hg).2
    have o2B := own_lower o2 hbA.size
    have hbAB := hbA.trans (hbB.mono hbA.size)
    have tE := st0.later hbAB
    obtain ⟨x0, x1, x2⟩ := tE.cells
    obtain ⟨y0, y1, y2⟩ := tE.frozen
    clear f2 st0 o1 o2 hbA hbB
    go_wp2
    have st9 := (tE.set (.bool false) (.slice a1 (words (v.natAbs : Int)).length c1) (.slice a2 (words 1).length c2)).cells
    refine bodyPost_ret (v := .agg #[.bool false, .slice a1 (words (v.natAbs : Int)).length c1, .slice a2 (words 1).length c2]) (by simp [results, Tryz.results27, go_sem, st9]) rfl ?_
    exact ⟨_, _, _, rfl, ((RtO.whole HV.out rfl o1B o2B hap).inn (in3 _ _ _ _ _) (by simp)).lower (by simp), below_in (hb0.trans (hbAB.mono hb0.size)) (in3 _ _ _ _ _) (Nat.le_refl _) (Nat.le_refl _)⟩
section
variable {w : World} {s1 : Bool} {a1 b1 : Option Addr} {n1 c1 m1 d1 : Nat} {p : Rat} {k : Nat}
theorem from_at {w0 w1 : World} (h : Below w0.heap.size w0 w1) : Calls Tryz.prog 51 #[.int .u64 1] w1 fun e w' => ∃ b m d, e = .returned (.slice b m d) ∧ Own .u64 w' w1.heap.size 46 (.slice b m d) (words 1) ∧ Below w0.heap.size w0 w' ∧ Below w1.heap.size w1 w' := by
  refine (natFrom_any (v := 1) (by omega) w1).mono ?_
  rintro e w' ⟨r, rfl, o, hb⟩
  obtain ⟨b, d, rfl, _⟩ := o.readsC
  exact ⟨b, _, d, rfl, o, h.trans (hb.mono h.size), hb⟩
theorem st_two' (w : World) (x y z : Value) : St ((w.alloc (.cells #[x, y, z] 25)).alloc (.cells #[.bool false, .slice none 0 0, .slice none 0 0] 25)) w.heap.size 25 x y z ∧ St ((w.alloc (.cells #[x, y, z] 25)).alloc (.cells #[.bool false, .slice none 0 0, .slice none 0 0] 25)) (w.heap.size + 1) 25 (.bool false) (.slice none 0 0) (.slice none 0 0) ∧ Below w.heap.size w ((w.alloc (.cells #[x, y, z] 25)).alloc (.cells #[.bool false, .slice none 0 0, .slice none 0 0] 25)) ∧ ((w.alloc (.cells #[x, y, z] 25)).alloc (.cells #[.bool false, .slice none 0 0, .slice none 0 0] 25)).heap.size = w.heap.size + 2 := by
  obtain ⟨s1, s2, b⟩ := st_two w x y z (.bool false) (.slice none 0 0) (.slice none 0 0) 25 25
  exact ⟨s1, s2, b, by simp⟩
set_option maxHeartbeats 6400000 in
set_option maxRecDepth 100000 in
theorem rFloor_ok (h1 : Rt w s1 a1 n1 c1 b1 m1 d1 p) (z1 : Sz p k) (hk : k ≤ 4096) :
    Calls Tryz.prog 43 #[.agg #[.bool s1, .slice a1 n1 c1, .slice b1 m1 d1]] w fun e w' => ∃ s v1 v2, e = .returned (.tuple #[.agg #[.bool s, v1, v2], .int .i64 0]) ∧ RtO w' w.heap.size s v1 v2 ((p.floor : Int) : Rat) ∧ Lt (p.floor.natAbs : Int) k ∧ Below w.heap.size w w' := by
  obtain ⟨t1, t2, hb0, e0⟩ := st_two' w (.bool s1) (.slice a1 n1 c1) (.slice b1 m1 d1)
  obtain ⟨w0, hw0⟩ : ∃ w0, w0 = (w.alloc (.cells #[.bool s1, .slice a1 n1 c1, .slice b1 m1 d1] 25)).alloc (.cells #[.bool false, .slice none 0 0, .slice none 0 0] 25) := ⟨_, rfl⟩
  rw [← hw0] at t1 t2 hb0 e0
  have r1 := h1.later hb0
  have l1 := h1.le z1
  have l2 := h1.leD z1
  have hS : Hid (s1 = decide (p.num < 0)) := h1.sgn
  obtain ⟨g, hg⟩ : ∃ g, g = w.heap.size := ⟨_, rfl⟩
  have HG : Hid (w.heap.size = g) := hg.symm
  rw [← hg] at t1 t2 hb0 e0
  have HS : g ≤ w0.heap.size := by rw [hg]; exact hb0.size
  have dp := den_pos p
  go_enter Tryz.func43, Tryz.ntmps43
  go_wp2_with fail
  rw [← hw0, ← hg]
  refine (check_ok r1 z1 hk).mono ?_
  rintro e wA ⟨rfl, hbA⟩
  have r1A := r1.later hbA
  have t1A := t1.later hbA
  have t2A := t2.later hbA
  have HA := hb0.trans (hbA.mono HS)
  have HAs : w0.heap.size ≤ wA.heap.size := hbA.size
  clear hw0 hg t1 t2 r1 hbA hb0 h1
  obtain ⟨x0, x1, x2⟩ := t1A.cells
  have dv := divMod_any r1A.nu r1A.de (Dg_words _) (Dg_words _) (by omega) (by omega) (by rw [num_words (by omega)]; exact dp)
  rw [num_words (by omega), num_words (by omega)] at dv
  clear r1A
  go_wp2_with fail
  refine dv.mono ?_
  rintro e wB ⟨v1, v2, rfl, o1, o2, hbB, _⟩
  clear dv
  have r0 := Int.emod_nonneg (p.num.natAbs : Int) (show (p.den : Int) ≠ 0 by omega)
  have q0 : 0 ≤ (p.num.natAbs : Int) / (p.den : Int) := Int.ediv_nonneg (by omega) (by omega)
  have qle : (p.num.natAbs : Int) / (p.den : Int) ≤ (p.num.natAbs : Int) := Int.ediv_le_self _ (by omega)
  have zr := words_nil r0
  obtain ⟨a2, c2, rfl, rw2⟩ := o1.readsC
  obtain ⟨a3, c3, rfl, _⟩ := o2.readsC
  have t1B := t1A.later hbB
  obtain ⟨x0, x1, x2⟩ := t1B.cells
  have sA := t2A.lt
  have sB := hbB.size
  have hcl : ∀ w1, Below wB.heap.size wB w1 → w1.cell? ⟨g, 0, none⟩ = some (.bool s1) := fun w1 h => (t1B.later h).cells.1
  have gF := fun w1 h => from_at (w0 := wB) (w1 := w1) h
  have ne1 : ¬ g = g + 1 := by omega
  clear x1 x2
  cases s1
  · have hp : ¬ p.num < 0 := of_decide_eq_false hS.out.symm
    have HF : Hid (p.floor = (p.num.natAbs : Int) / (p.den : Int)) := fl_pos hp
    have HL : Hid (Lt (p.floor.natAbs : Int) k) := by
      show Lt _ _
      rw [HF.out, show (((p.num.natAbs : Int) / (p.den : Int)).natAbs : Int) = (p.num.natAbs : Int) / (p.den : Int) by omega]
      exact z1.1.le q0 qle
    have HV : Hid (false = decide (p.floor < 0)) := by
      show _ = _
      rw [HF.out]; exact (decide_eq_false (by omega)).symm
    have HW : Hid ((p.num.natAbs : Int) / (p.den : Int) = (p.floor.natAbs : Int)) := by
      show _ = _
      rw [HF.out]; omega
    clear hS hp zr r0 q0 qle o2
    generalize (p.num.natAbs : Int) / (p.den : Int) = Q at *
    go_wp2
    go_region_held3 (fun w' => w'.cell? ⟨g, 0, none⟩ = some (.bool false)) (go_keep) ((go_at_call 51; refine (gF _ (by first | exact Below.refl _ _ | exact below_drewN (Below.refl _ _) _)).mono ?_; rintro e wF ⟨b7, m7, d7, rfl, o7, hBF, hbF⟩; have x0 := hcl wF hBF; have t2F := t2A.later (hbB.trans (hBF.mono hbB.size)); obtain ⟨u0, u1, u2⟩ := t2F.cells; obtain ⟨v0, v1, v2⟩ := t2F.frozen))
    have oF := own_same o1 fun g hg => hbF.block g (own_blk o1 hg).2
    have hap := apart_later o1 o7 (Nat.le_refl _)
    obtain ⟨aQ, cQ, eQ, _⟩ := oF.readsC
    have o7' := own_lower o7 sB
    go_wp2
    have tE := t2F.set (.bool false) (.slice a2 (words Q).length c2) (.slice b7 m7 d7)
    have st9 := tE.cells
    refine bodyPost_ret (v := .tuple #[.agg #[.bool false, (.slice a2 (words Q).length c2), .slice b7 m7 d7], .int .i64 0]) (by simp [results, Tryz.results43, go_sem, st9]) rfl ?_
    have hR := RtO.whole HV.out HW.out oF o7' hap
    rw [HG.out]
    exact ⟨_, _, _, rfl, (hR.inn (in3 _ (g + 1) _ _ _) (by omega)).lower (by omega), HL.out, below_in ((HA.trans (hbB.mono (by omega))).trans (hBF.mono (by omega))) (in3 _ (g + 1) _ _ _) (by omega) (by rw [HG.out]; exact Nat.le_refl _)⟩
  · have hp : p.num < 0 := of_decide_eq_true hS.out.symm
    by_cases hr : (p.num.natAbs : Int) % (p.den : Int) = 0
    · have HF : Hid (p.floor = -((p.num.natAbs : Int) / (p.den : Int))) := fl_neg0 hp hr
      have em := Int.mul_ediv_add_emod (p.num.natAbs : Int) (p.den : Int)
      have qpos : 0 < (p.num.natAbs : Int) / (p.den : Int) := by
        rcases Int.lt_or_eq_of_le q0 with h | h
        · exact h
        · rw [← h, hr] at em; omega
      have HL : Hid (Lt (p.floor.natAbs : Int) k) := by
        show Lt _ _
        rw [HF.out, show ((-((p.num.natAbs : Int) / (p.den : Int))).natAbs : Int) = (p.num.natAbs : Int) / (p.den : Int) by omega]
        exact z1.1.le q0 qle
      have HV : Hid (true = decide (p.floor < 0)) := by
        show _ = _
        rw [HF.out]; exact (decide_eq_true (by omega)).symm
      have HW : Hid ((p.num.natAbs : Int) / (p.den : Int) = (p.floor.natAbs : Int)) := by
        show _ = _
        rw [HF.out]; omega
      have tr : (((words ((p.num.natAbs : Int) % (p.den : Int))).length : Int) != 0) = false := bne_of (by rw [zr.mpr hr]; rfl)
      clear hS hp zr r0 q0 qle o2 hr em qpos
      generalize (p.num.natAbs : Int) / (p.den : Int) = Q at *
      generalize ((words ((p.num.natAbs : Int) % (p.den : Int))).length) = LR at *
      go_wp2
      go_region_held3 (fun w' => w'.cell? ⟨g, 0, none⟩ = some (.bool true)) (go_keep) ((go_at_call 51; refine (gF _ (by first | exact Below.refl _ _ | exact below_drewN (Below.refl _ _) _)).mono ?_; rintro e wF ⟨b7, m7, d7, rfl, o7, hBF, hbF⟩; have x0 := hcl wF hBF; have t2F := t2A.later (hbB.trans (hBF.mono hbB.size)); obtain ⟨u0, u1, u2⟩ := t2F.cells; obtain ⟨v0, v1, v2⟩ := t2F.frozen))
      have oF := own_same o1 fun g hg => hbF.block g (own_blk o1 hg).2
      have hap := apart_later o1 o7 (Nat.le_refl _)
      obtain ⟨aQ, cQ, eQ, _⟩ := oF.readsC
      have o7' := own_lower o7 sB
      go_wp2
      have tE := t2F.set (.bool true) (.slice a2 (words Q).length c2) (.slice b7 m7 d7)
      have st9 := tE.cells
      refine bodyPost_ret (v := .tuple #[.agg #[.bool true, (.slice a2 (words Q).length c2), .slice b7 m7 d7], .int .i64 0]) (by simp [results, Tryz.results43, go_sem, st9]) rfl ?_
      have hR := RtO.whole HV.out HW.out oF o7' hap
      rw [HG.out]
      exact ⟨_, _, _, rfl, (hR.inn (in3 _ (g + 1) _ _ _) (by omega)).lower (by omega), HL.out, below_in ((HA.trans (hbB.mono (by omega))).trans (hBF.mono (by omega))) (in3 _ (g + 1) _ _ _) (by omega) (by rw [HG.out]; exact Nat.le_refl _)⟩
    · have HF : Hid (p.floor = -((p.num.natAbs : Int) / (p.den : Int) + 1)) := fl_neg1 hp hr
      have em := Int.mul_ediv_add_emod (p.num.natAbs : Int) (p.den : Int)
      have ql1 : (p.num.natAbs : Int) / (p.den : Int) + 1 ≤ (p.num.natAbs : Int) := by
        have dd : 2 ≤ (p.den : Int) := by
          rcases Int.lt_or_le (p.den : Int) 2 with h | h
          · have h1 : (p.den : Int) = 1 := by omega
            rw [h1, Int.emod_one] at hr; exact absurd rfl hr
          · exact h
        have m2 : 2 * ((p.num.natAbs : Int) / (p.den : Int)) ≤ (p.den : Int) * ((p.num.natAbs : Int) / (p.den : Int)) := Int.mul_le_mul_of_nonneg_right dd q0
        omega
      have HL : Hid (Lt (p.floor.natAbs : Int) k) := by
        show Lt _ _
        rw [HF.out, show ((-((p.num.natAbs : Int) / (p.den : Int) + 1)).natAbs : Int) = (p.num.natAbs : Int) / (p.den : Int) + 1 by omega]
        exact z1.1.le (by omega) ql1
      have LS : Lt ((p.num.natAbs : Int) / (p.den : Int) + 1) k := z1.1.le (by omega) ql1
      have LQ : Lt ((p.num.natAbs : Int) / (p.den : Int)) k := z1.1.le q0 qle
      have HV : Hid (true = decide (p.floor < 0)) := by
        show _ = _
        rw [HF.out]; exact (decide_eq_true (by omega)).symm
      have HW : Hid ((p.num.natAbs : Int) / (p.den : Int) + 1 = (p.floor.natAbs : Int)) := by
        show _ = _
        rw [HF.out]; omega
      have tr : (((words ((p.num.natAbs : Int) % (p.den : Int))).length : Int) != 0) = true := bne_yes (fun h => hr (zr.mp (by omega)))
      clear hS hp zr r0 q0 qle o2 hr em ql1
      generalize (p.num.natAbs : Int) / (p.den : Int) = Q at *
      generalize ((words ((p.num.natAbs : Int) % (p.den : Int))).length) = LR at *
      have rQ : RowC wB a2 (words Q).length c2 (words Q) := rw2
      go_wp2_with fail
      refine (gF _ (Below.refl _ _)).mono ?_
      rintro e wC ⟨b5, m5, d5, rfl, o5, hBC, _⟩
      obtain ⟨_, _, e5, r5⟩ := o5.readsC
      simp only [Value.slice.injEq] at e5
      obtain ⟨rfl, rfl, rfl⟩ := e5
      go_wp2_with fail
      refine (addN (rQ.later hBC) r5 (LQ.nm (by omega)) (lt_one.nm (by omega)) LS hk).mono ?_
      rintro e wD ⟨v6, rfl, o6, hbD⟩
      obtain ⟨a6, c6, rfl, _⟩ := o6.readsC
      have hBD := hBC.trans (hbD.mono hBC.size)
      have o6' := own_lower o6 hBC.size
      have x0D := hcl wD hBD
      clear o6 o5 r5 rQ o1
      go_wp2
      go_region_held3 (fun w' => w'.cell? ⟨g, 0, none⟩ = some (.bool true)) (go_keep) ((go_at_call 51; refine (gF _ (by first | exact hBD | exact below_drewN (hBD) _)).mono ?_; rintro e wF ⟨b7, m7, d7, rfl, o7, hBF, hbF⟩; have x0 := hcl wF hBF; have t2F := t2A.later (hbB.trans (hBF.mono hbB.size)); obtain ⟨u0, u1, u2⟩ := t2F.cells; obtain ⟨v0, v1, v2⟩ := t2F.frozen))
      have oF := own_same o6' fun g hg => hbF.block g (own_blk o6' hg).2
      have hap := apart_later o6' o7 (Nat.le_refl _)
      obtain ⟨aQ, cQ, eQ, _⟩ := oF.readsC
      have o7' := own_lower o7 hBD.size
      go_wp2
      have tE := t2F.set (.bool true) (.slice a6 (words (Q + 1)).length c6) (.slice b7 m7 d7)
      have st9 := tE.cells
      refine bodyPost_ret (v := .tuple #[.agg #[.bool true, (.slice a6 (words (Q + 1)).length c6), .slice b7 m7 d7], .int .i64 0]) (by simp [results, Tryz.results43, go_sem, st9]) rfl ?_
      have hR := RtO.whole HV.out HW.out oF o7' hap
      rw [HG.out]
      exact ⟨_, _, _, rfl, (hR.inn (in3 _ (g + 1) _ _ _) (by omega)).lower (by omega), HL.out, below_in ((HA.trans (hbB.mono (by omega))).trans (hBF.mono (by omega))) (in3 _ (g + 1) _ _ _) (by omega) (by rw [HG.out]; exact Nat.le_refl _)⟩
end
end Go.Proofs.YtopcdpeepchgfacGreatDoor
