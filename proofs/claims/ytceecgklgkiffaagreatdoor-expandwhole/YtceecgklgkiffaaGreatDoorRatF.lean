/- package rat: New, Int, Floor, where nothing is too long. -/
import Derived.Test.YtceecgklgkiffaaGreatDoorRatE
namespace Go.Proofs.YtceecgklgkiffaaGreatDoor
open Go.ChangeShapes Go.WideShapes Go.ChangeAt Go.RowKit
open Na Ar
set_option linter.unusedVariables false
theorem fl_pos {q : Rat} (h : ¬ q.num < 0) : q.floor = (q.num.natAbs : Int) / (q.den : Int) := by
  rw [Rat.floor_def, show (q.num.natAbs : Int) = q.num by omega]
theorem fl_neg0 {q : Rat} (h : q.num < 0) (hr : (q.num.natAbs : Int) % (q.den : Int) = 0) : q.floor = -((q.num.natAbs : Int) / (q.den : Int)) := by
  rw [Rat.floor_def]
  have d := den_pos q
  have e := Int.mul_ediv_add_emod (q.num.natAbs : Int) (q.den : Int)
  rw [hr] at e
  generalize (q.num.natAbs : Int) / (q.den : Int) = z at *
  have e2 : q.num = (q.den : Int) * (-z) := by rw [Int.mul_neg]; omega
  rw [e2, Int.mul_ediv_cancel_left _ (by omega)]
theorem fl_neg1 {q : Rat} (h : q.num < 0) (hr : (q.num.natAbs : Int) % (q.den : Int) ≠ 0) : q.floor = -((q.num.natAbs : Int) / (q.den : Int) + 1) := by
  rw [Rat.floor_def]
  have d := den_pos q
  have e := Int.mul_ediv_add_emod (q.num.natAbs : Int) (q.den : Int)
  have r0 := Int.emod_nonneg (q.num.natAbs : Int) (show (q.den : Int) ≠ 0 by omega)
  have r1 := Int.emod_lt_of_pos (q.num.natAbs : Int) d
  generalize (q.num.natAbs : Int) / (q.den : Int) = z at *
  generalize (q.num.natAbs : Int) % (q.den : Int) = r at *
  have e2 : q.num = ((q.den : Int) - r) + (q.den : Int) * (-(z + 1)) := by rw [Int.mul_neg, Int.mul_add]; omega
  rw [e2, Int.add_mul_ediv_left _ _ (by omega), Int.ediv_eq_zero_of_lt (by omega) (by omega)]
  omega
theorem RtO.whole {w : World} {base : Nat} {s : Bool} {v1 v2 : Value} {Z A : Int} (hs : s = decide (Z < 0)) (hA : A = (Z.natAbs : Int)) (h1 : Own .u64 w base 22 v1 (words A)) (h2 : Own .u64 w base 22 v2 (words 1)) (ap : Apart v1 v2) : RtO w base s v1 v2 ((Z : Int) : Rat) :=
  ⟨by rw [Rat.num_intCast]; exact hs, by rw [Rat.num_intCast, ← hA]; exact h1, by rw [Rat.den_intCast]; exact h2, ap⟩
theorem apart_later {w : World} {b1 b2 : Nat} {e : TypeId} {v1 v2 : Value} {xs ys : List Int} {w' : World} (h1 : Own .u64 w b1 e v1 xs) (h2 : Own .u64 w' b2 e v2 ys) (hb : w.heap.size ≤ b2) : Apart v1 v2 := fun g hg hg' => by
  have a := (own_blk h1 hg).2
  have b := (own_blk h2 hg').1
  omega
theorem Apart.symm {v1 v2 : Value} (h : Apart v1 v2) : Apart v2 v1 := fun g hg hg' => h g hg' hg
section
variable {w : World} {a b : Option Addr} {n c m d : Nat} {xs ys : List Int} {A B : Int} {k : Nat}
set_option maxHeartbeats 6400000 in
set_option maxRecDepth 100000 in
theorem rNew_ok {neg : Bool} (hr1 : RowC w a n c xs) (hr2 : RowC w b m d ys) (h1 : Nm xs A) (h2 : Nm ys B) (hB : 0 < B) (lA : Lt A 4096) (lB : Lt B 4096) (hn : n ≤ 3700000) (hm : m ≤ 3700000) :
    Calls Tryz.prog 60 #[.bool neg, .slice a n c, .slice b m d] w fun e w' => ∃ s v1 v2, e = .returned (.tuple #[.agg #[.bool s, v1, v2], .int .i64 0]) ∧ RtO w' w.heap.size s v1 v2 (mkR neg A B) ∧ Below w.heap.size w w' := by
  have hb0 := alloc_below (w := w) (.cells #[.bool false, .slice none 0 0, .slice none 0 0] 50)
  have st0 := st_new w (.bool false) (.slice none 0 0) (.slice none 0 0) 50
  replace hr1 := hr1.later hb0
  replace hr2 := hr2.later hb0
  have k1 := bits0_any hr1 h1.ws (by omega)
  have k2 := bits0_any hr2 h2.ws (by omega)
  rw [h1.num] at k1
  rw [h2.num] at k2
  obtain ⟨j, hj, _⟩ := bits_some hB
  have bA := bits_le lA.1 lA.2
  have bB := bits_le lB.1 lB.2
  rw [hj] at k2 bB
  have tj : (((j : Int) + 1) == 0) = false := beq_no (by omega)
  have tA : ¬ 262144 < bitsN A := by omega
  have tB : ¬ 262144 < (j : Int) + 1 := by omega
  generalize bitsN A = bA' at *
  generalize (j : Int) + 1 = bB' at *
  have low := rlow_any (neg := neg) hr1 hr2 h1 h2 hB hn hm
  clear hr1 hr2 h1 h2 hB hn hm hj bA bB lA lB
  go_enter Tryz.func60, Tryz.ntmps60
  go_wp2_with fail
  refine k2.mono ?_
  rintro e w1 ⟨rfl, rfl⟩
  go_wp2_with fail
  refine k1.mono ?_
  rintro e w1 ⟨rfl, rfl⟩
  go_wp2_with fail
  refine k2.mono ?_
  rintro e w1 ⟨rfl, rfl⟩
  go_wp2_with fail
  refine low.mono ?_
  rintro e wE ⟨s9, v1, v2, rfl, hR, hbE⟩
  obtain ⟨a9, n9, c9, b9, m9, d9, rfl, rfl, _⟩ := hR.opens
  have tE := st0.later hbE
  obtain ⟨x0, x1, x2⟩ := tE.cells
  obtain ⟨y0, y1, y2⟩ := tE.frozen
  clear k1 k2 low
  go_wp2
  have st9 := (tE.set (.bool s9) (.slice a9 n9 c9) (.slice b9 m9 d9)).cells
  refine bodyPost_ret (v := .tuple #[.agg #[.bool s9, .slice a9 n9 c9, .slice b9 m9 d9], .int .i64 0]) (by simp [results, Tryz.results60, go_sem, st9]) rfl ?_
  exact ⟨_, _, _, rfl, (hR.inn (in3 _ _ _ _ _) (by simp)).lower (by simp), below_in (hb0.trans (hbE.mono hb0.size)) (in3 _ _ _ _ _) (Nat.le_refl _) (Nat.le_refl _)⟩
end
set_option maxHeartbeats 6400000 in
set_option maxRecDepth 100000 in
theorem rInt_any {v : Int} (h0 : -9223372036854775808 ≤ v) (h1 : v ≤ 9223372036854775807) (w : World) :
    Calls Tryz.prog 105 #[.int .i64 v] w fun e w' => ∃ s v1 v2, e = .returned (.agg #[.bool s, v1, v2]) ∧ RtO w' w.heap.size s v1 v2 ((v : Int) : Rat) ∧ Below w.heap.size w w' := by
  have hb0 := alloc_below (w := w) (.cells #[.bool false, .slice none 0 0, .slice none 0 0] 50)
  have st0 := st_new w (.bool false) (.slice none 0 0) (.slice none 0 0) 50
  by_cases hv : v < 0
  · have f1 := fun w => natFrom_any (v := (v.natAbs : Int)) (by omega) w
    have f2 := fun w => natFrom_any (v := 1) (by omega) w
    have e1 : IntKind.u64.wrap (-IntKind.u64.wrap v) = (v.natAbs : Int) := by rw [wrapU, wrapU]; omega
    have HV : Hid (true = decide (v < 0)) := by exact (decide_eq_true hv).symm
    go_enter Tryz.func105, Tryz.ntmps105
    go_wp2_with fail
    refine (f1 _).mono ?_
    rintro e wA ⟨u1, rfl, o1, hbA⟩
    obtain ⟨a1, c1, rfl, _⟩ := o1.readsC
    clear f1 h0 h1 hv
    go_wp2_with fail
    refine (f2 _).mono ?_
    rintro e wB ⟨u2, rfl, o2, hbB⟩
    have hap := apart_later o1 o2 (Nat.le_refl _)
    obtain ⟨a2, c2, rfl, _⟩ := o2.readsC
    have o1B := own_same o1 fun g hg => hbB.block g (own_blk o1 hg).2
    have o2B := own_lower o2 hbA.size
    have hbAB := hbA.trans (hbB.mono hbA.size)
    have tE := st0.later hbAB
    obtain ⟨x0, x1, x2⟩ := tE.cells
    obtain ⟨y0, y1, y2⟩ := tE.frozen
    clear f2 st0 o1 o2 hbA hbB
    go_wp2
    have st9 := (tE.set (.bool true) (.slice a1 (words (v.natAbs : Int)).length c1) (.slice a2 (words 1).length c2)).cells
    refine bodyPost_ret (v := .agg #[.bool true, .slice a1 (words (v.natAbs : Int)).length c1, .slice a2 (words 1).length c2]) (by simp [results, Tryz.results105, go_sem, st9]) rfl ?_
    exact ⟨_, _, _, rfl, ((RtO.whole HV.out rfl o1B o2B hap).inn (in3 _ _ _ _ _) (by simp)).lower (by simp), below_in (hb0.trans (hbAB.mono hb0.size)) (in3 _ _ _ _ _) (Nat.le_refl _) (Nat.le_refl _)⟩
  · have f1 := fun w => natFrom_any (v := (v.natAbs : Int)) (by omega) w
    have f2 := fun w => natFrom_any (v := 1) (by omega) w
    have e1 : IntKind.u64.wrap v = (v.natAbs : Int) := by rw [wrapU]; omega
    have HV : Hid (false = decide (v < 0)) := by exact (decide_eq_false hv).symm
    go_enter Tryz.func105, Tryz.ntmps105
    go_wp2_with fail
    refine (f1 _).mono ?_
    rintro e wA ⟨u1, rfl, o1, hbA⟩
    obtain ⟨a1, c1, rfl, _⟩ := o1.readsC
    clear f1 h0 h1 hv
    go_wp2_with fail
    refine (f2 _).mono ?_
    rintro e wB ⟨u2, rfl, o2, hbB⟩
    have hap := apart_later o1 o2 (Nat.le_refl _)
    obtain ⟨a2, c2, rfl, _⟩ := o2.readsC
    have o1B := own_same o1 fun g hg => hbB.block g (own_blk o1 hg).2
    have o2B := own_lower o2 hbA.size
    have hbAB := hbA.trans (hbB.mono hbA.size)
    have tE := st0.later hbAB
    obtain ⟨x0, x1, x2⟩ := tE.cells
    obtain ⟨y0, y1, y2⟩ := tE.frozen
    clear f2 st0 o1 o2 hbA hbB
    go_wp2
    have st9 := (tE.set (.bool false) (.slice a1 (words (v.natAbs : Int)).length c1) (.slice a2 (words 1).length c2)).cells
    refine bodyPost_ret (v := .agg #[.bool false, .slice a1 (words (v.natAbs : Int)).length c1, .slice a2 (words 1).length c2]) (by simp [results, Tryz.results105, go_sem, st9]) rfl ?_
    exact ⟨_, _, _, rfl, ((RtO.whole HV.out rfl o1B o2B hap).inn (in3 _ _ _ _ _) (by simp)).lower (by simp), below_in (hb0.trans (hbAB.mono hb0.size)) (in3 _ _ _ _ _) (Nat.le_refl _) (Nat.le_refl _)⟩
end Go.Proofs.YtceecgklgkiffaaGreatDoor
