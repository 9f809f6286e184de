/- plumbref05: lowest, Check, two. -/
import Derived.Test.YtopcdpeepchgfacGreatDoorRatK
namespace Go.Proofs.YtopcdpeepchgfacGreatDoor
open Go.ChangeShapes Go.WideShapes Go.ChangeAt Go.RowKit
open Na Ar
set_option linter.unusedVariables false
theorem nrmB_of {N : Int} (h0 : 0 ≤ N) (h : (words N).length ≤ 4096) : nrmB (words N) = true := by
  unfold nrmB
  rw [decide_eq_true h, Bool.true_and, Bool.or_eq_true, decide_eq_true_iff, decide_eq_true_iff]
  by_cases hz : (words N).length = 0
  · exact Or.inl hz
  · right
    obtain ⟨j, hj⟩ : ∃ j, (words N).length = j + 1 := ⟨(words N).length - 1, by omega⟩
    have hp : 0 < N := by
      have : N ≠ 0 := fun e => hz ((words_nil h0).mpr e)
      omega
    have := (bits_list (N := N) (L := j) hp hj).1
    rw [hj, show j + 1 - 1 = j by omega]
    omega
section
variable {w : World} {s : Bool} {a b : Option Addr} {n c m d : Nat} {xs ys : List Int} {A B : Int} {k : Nat} {q : Rat}
theorem words_one5 : words ((1 : Nat) : Int) = [1] := by
  rcases words_cases (N := ((1 : Nat) : Int)) (by omega) with ⟨e, _⟩ | ⟨_, _, e⟩ | ⟨e, _⟩
  · omega
  · exact e
  · omega
set_option maxHeartbeats 6400000 in
set_option maxRecDepth 100000 in
theorem ref5Low_any {neg : Bool} (hr1 : RowC w a n c xs) (hr2 : RowC w b m d ys) (h1 : Nm xs A) (h2 : Nm ys B) (hB : 0 < B) (hn : n ≤ 100000) (hm : m ≤ 100000) :
    Calls Tryz.prog 45 #[.bool neg, .slice a n c, .slice b m d] w fun e w' => ∃ s v1 v2, e = .returned (.agg #[.bool s, v1, v2]) ∧ RtO w' w.heap.size s v1 v2 (mkR neg A B) ∧ Below w.heap.size w w' := by
  have hb0 := alloc_below (w := w) (.cells #[.bool false, .slice none 0 0, .slice none 0 0] 25)
  have st0 := st_new w (.bool false) (.slice none 0 0) (.slice none 0 0) 25
  have HS : w.heap.size + 1 ≤ (w.alloc (.cells #[.bool false, .slice none 0 0, .slice none 0 0] 25)).heap.size := by simp
  replace hr1 := hr1.later hb0
  replace hr2 := hr2.later hb0
  have hA := h1.nonneg
  have hG : 0 < (Int.gcd A B : Int) := by
    have : Int.gcd A B ≠ 0 := by
      intro e
      rw [Int.gcd_eq_zero_iff] at e
      omega
    omega
  have cm := common_any (c1 := c) (c2 := d) hr1.1 hr2.1 h1.ws h2.ws (by omega) (by omega)
  have lg : (words (Int.gcd A B : Int)).length ≤ 100000 := by
    have h := Int.le_of_dvd hB (Int.gcd_dvd_right (a := A) (b := B))
    have := words_mono (Int.le_of_lt hG) h
    have := words_le h2.ws
    rw [h2.num, hr2.1.1] at this
    omega
  have wA : (words A).length ≤ 100000 := by
    have := words_le h1.ws
    rw [h1.num, hr1.1.1] at this
    omega
  have wB : (words B).length ≤ 100000 := by
    have := words_le h2.ws
    rw [h2.num, hr2.1.1] at this
    omega
  have qA0 : 0 ≤ A / (Int.gcd A B : Int) := Int.ediv_nonneg hA (by omega)
  have qB0 : 0 ≤ B / (Int.gcd A B : Int) := Int.ediv_nonneg (by omega) (by omega)
  have lA : (words (A / (Int.gcd A B : Int))).length ≤ 100000 := Nat.le_trans (words_mono qA0 (Int.ediv_le_self _ hA)) wA
  have lB : (words (B / (Int.gcd A B : Int))).length ≤ 100000 := Nat.le_trans (words_mono qB0 (Int.ediv_le_self _ (Int.le_of_lt hB))) wB
  rw [h1.num, h2.num] at cm
  have hs := rat_neg (s := neg) hA hB
  have ra := rat_abs (s := neg) hA hB
  have rd := rat_den (s := neg) hA hB
  rw [← ra] at hs lA qA0
  rw [← rd] at lB qB0
  have nG := num_words (Int.le_of_lt hG)
  obtain ⟨st_, hst_⟩ : ∃ w0, w0 = w.alloc (.cells #[.bool false, .slice none 0 0, .slice none 0 0] 25) := ⟨_, rfl⟩
  go_enter Tryz.func45, Tryz.ntmps45
  go_wp2_with fail
  refine cm.mono ?_
  rintro e w1 ⟨ga, gn, gc, rfl, rG, hb1⟩
  have kG : gn ≤ 100000 := by rw [← rG.1.1]; exact lg
  have dv1 := ref3Div_any (c1 := c) (c2 := gc) (hr1.1.later hb1) rG.1 h1.ws (Dg_words _) (by omega) (by omega) (by rw [nG]; exact hG)
  rw [h1.num, nG, ← ra] at dv1
  clear cm
  go_wp2_with fail
  refine dv1.mono ?_
  rintro e w2 ⟨na, nn, nc, xa, xn, xc, rfl, rN, _, hb2⟩
  have hb12 := hb1.trans (hb2.mono hb1.size)
  have dv2 := ref3Div_any (c1 := d) (c2 := gc) (hr2.1.later hb12) (rG.later hb2).1 h2.ws (Dg_words _) (by omega) (by omega) (by rw [nG]; exact hG)
  rw [h2.num, nG, ← rd] at dv2
  clear dv1
  go_wp2_with fail
  refine dv2.mono ?_
  rintro e w3 ⟨da, dn, dc, ya, yn, yc, rfl, rD, _, hb3⟩
  have hb13 := hb12.trans (hb3.mono hb12.size)
  have rN3 := rN.later hb3
  have kN : nn ≤ 100000 := by rw [← rN.1.1]; exact lA
  have kD : dn ≤ 100000 := by rw [← rD.1.1]; exact lB
  have nm1 := refNorm_any (cap := nc) rN3.1 (Dg_words _) (by omega)
  rw [show val 18446744073709551616 (words ((mkR neg A B).num.natAbs : Int)) = ((mkR neg A B).num.natAbs : Int) from num_words (by omega)] at nm1
  clear dv2 rG rN rN3 hr1 hr2 h1 h2
  obtain ⟨r, hrq⟩ : ∃ r, r = mkR neg A B := ⟨_, rfl⟩
  have HRq : Hid (mkR neg A B = r) := hrq.symm
  rw [← hrq] at nm1 rD hs ra rd lA qA0 lB qB0
  clear hrq
  go_wp2_with fail
  refine nm1.mono ?_
  rintro e w4 ⟨v1, rfl, o1, hb4⟩
  have hb14 := hb13.trans (hb4.mono hb13.size)
  have nm2 := refNorm_any (cap := dc) (rD.later hb4).1 (Dg_words _) (by omega)
  rw [show val 18446744073709551616 (words (r.den : Int)) = (r.den : Int) from num_words (by omega)] at nm2
  obtain ⟨a4, c4, rfl, _⟩ := o1.readsC
  have z := words_nil (N := (r.num.natAbs : Int)) (by omega)
  have HSg : Hid (decide (r.num < 0) = (neg && decide (0 < (words (r.num.natAbs : Int)).length))) := by
    show _ = _
    rw [hs]
    congr 1
    rw [decide_eq_decide]
    constructor
    · intro h; have := mt z.mp h; omega
    · intro h e; have := z.mpr e; omega
  clear nm1 rD ra rd nG hst_ hs z
  cases neg
  · go_wp2_with fail
    refine nm2.mono ?_
    rintro e w5 ⟨v2, rfl, o2, hb5⟩
    have hap := apart_later o1 o2 (Nat.le_refl _)
    obtain ⟨a5, c5, rfl, _⟩ := o2.readsC
    have o1' := own_lower (own_same o1 fun g hg => hb5.block g (own_blk o1 hg).2) (hb13.size)
    have o2' := own_lower o2 (hb14.size)
    have hb15 := hb14.trans (hb5.mono hb14.size)
    have tE := st0.later hb15
    obtain ⟨x0, x1, x2⟩ := tE.cells
    obtain ⟨y0, y1, y2⟩ := tE.frozen
    clear nm2 o1 o2 st0
    go_wp2
    have st9 := fun x => (tE.set x (.slice a4 (words (r.num.natAbs : Int)).length c4) (.slice a5 (words (r.den : Int)).length c5)).cells
    refine bodyPost_ret (v := .agg #[_, .slice a4 (words (r.num.natAbs : Int)).length c4, .slice a5 (words (r.den : Int)).length c5]) (by simp [results, Tryz.results45, go_sem, st9]; rfl) rfl ?_
    rw [HRq.out]
    exact ⟨false, _, _, by first | rfl | simp, ((RtO.mk (s := false) (by rw [HSg.out]; simp) o1' o2' hap).inn (in3 _ w.heap.size _ _ _) (by simp)).lower (base' := w.heap.size) (by simp), below_in (hb0.trans (hb15.mono hb0.size)) (in3 _ _ _ _ _) (Nat.le_refl _) (Nat.le_refl _)⟩
  · go_wp2_with fail
    refine nm2.mono ?_
    rintro e w5 ⟨v2, rfl, o2, hb5⟩
    have hap := apart_later o1 o2 (Nat.le_refl _)
    obtain ⟨a5, c5, rfl, _⟩ := o2.readsC
    have o1' := own_lower (own_same o1 fun g hg => hb5.block g (own_blk o1 hg).2) (hb13.size)
    have o2' := own_lower o2 (hb14.size)
    have hb15 := hb14.trans (hb5.mono hb14.size)
    have tE := st0.later hb15
    obtain ⟨x0, x1, x2⟩ := tE.cells
    obtain ⟨y0, y1, y2⟩ := tE.frozen
    clear nm2 o1 o2 st0
    go_wp2
    have st9 := fun x => (tE.set x (.slice a4 (words (r.num.natAbs : Int)).length c4) (.slice a5 (words (r.den : Int)).length c5)).cells
    refine bodyPost_ret (v := .agg #[_, .slice a4 (words (r.num.natAbs : Int)).length c4, .slice a5 (words (r.den : Int)).length c5]) (by simp [results, Tryz.results45, go_sem, st9]; rfl) rfl ?_
    rw [HRq.out]
    exact ⟨(decide (0 < (words (r.num.natAbs : Int)).length)), _, _, by first | rfl | simp, ((RtO.mk (s := (decide (0 < (words (r.num.natAbs : Int)).length))) (by rw [HSg.out]; simp) o1' o2' hap).inn (in3 _ w.heap.size _ _ _) (by simp)).lower (base' := w.heap.size) (by simp), below_in (hb0.trans (hb15.mono hb0.size)) (in3 _ _ _ _ _) (Nat.le_refl _) (Nat.le_refl _)⟩
set_option maxHeartbeats 6400000 in
set_option maxRecDepth 100000 in
theorem ref5Check_ok (h : Rt w s a n c b m d q) (hz : Sz q k) (hk : k ≤ 4096) :
    Calls Tryz.prog 24 #[.agg #[.bool s, .slice a n c, .slice b m d]] w fun e w' => e = .returned (.int .i64 0) ∧ Below w.heap.size w w' := by
  have hb0 := alloc_below (w := w) (.cells #[.bool s, .slice a n c, .slice b m d] 25)
  have r1 := h.nu.later hb0
  have r2 := h.de.later hb0
  have l1 := h.le hz
  have l2 := h.leD hz
  have n1 := refNrm_any (B := true) r1 (nrmB_of (by omega) (by rw [← h.len]; omega))
  have n2 := refNrm_any (B := true) r2 (nrmB_of (by omega) (by rw [← h.lenD]; omega))
  have g := common_any (c1 := c) (c2 := d) r1.1 r2.1 (Dg_words _) (Dg_words _) (by omega) (by omega)
  have dp := den_pos q
  rw [num_words (by omega), num_words (by omega), coprime_of, show words ((1 : Nat) : Int) = [1] from words_one5] at g
  have td : ((m : Int) == 0) = false := beq_no (by
    have e := h.lenD
    have z := (words_nil (N := (q.den : Int)) (by omega)).mp
    intro e0
    have := z (by omega)
    omega)
  have tn : s = true → ((n : Int) == 0) = false := fun hs => beq_no (by
    have e := h.len
    have z := (words_nil (N := (q.num.natAbs : Int)) (by omega)).mp
    intro e0
    have z1 := z (by omega)
    have h1 := h.sgn
    rw [hs] at h1
    have := of_decide_eq_true h1.symm
    omega)
  clear h hz r1 r2 dp
  cases s
  all_goals (try replace tn := tn rfl)
  all_goals go_enter Tryz.func24, Tryz.ntmps24
  all_goals go_wp2_with fail
  all_goals refine n1.mono ?_
  all_goals rintro e w1 ⟨rfl, rfl⟩
  all_goals go_wp2_with fail
  all_goals refine n2.mono ?_
  all_goals rintro e w2 ⟨rfl, rfl⟩
  all_goals go_wp2_with fail
  all_goals refine g.mono ?_
  all_goals rintro e w3 ⟨ga, gn, gc, rfl, rG, hb⟩
  all_goals have kG := rG.1.1
  all_goals simp only [List.length_cons, List.length_nil, Nat.zero_add] at kG
  all_goals subst kG
  all_goals obtain ⟨bb, off, rfl, hbb, hc⟩ := rG.1.at (by omega)
  all_goals have hcx := hc 0 (by omega)
  all_goals simp only [Nat.add_zero, List.getD_cons_zero] at hcx
  all_goals clear n1 n2 g hc rG
  all_goals go_wp2
  all_goals go_ret
  all_goals exact ⟨rfl, hb0.trans (hb.mono hb0.size)⟩
end
end Go.Proofs.YtopcdpeepchgfacGreatDoor
