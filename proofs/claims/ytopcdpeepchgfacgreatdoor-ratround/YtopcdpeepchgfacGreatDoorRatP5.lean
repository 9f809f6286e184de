/- Sign of any api.Rat, New of any numbers, Int: the program's and the document's. -/
import Derived.Test.YtopcdpeepchgfacGreatDoorRatKj
namespace Go.Proofs.YtopcdpeepchgfacGreatDoor
open Go.ChangeShapes Go.WideShapes Go.ChangeAt Go.RowKit
open Na Ar
set_option linter.unusedVariables false
set_option linter.unusedSimpArgs false
section
variable {w : World} {s : Bool} {a b : Option Addr} {n c m d : Nat} {xs ys : List Int} {k : Nat}
/-- the sign of any api.Rat -/
def sgnG (s : Bool) (N : Int) : Int := if N = 0 then 0 else if s = true then -1 else 1
set_option maxHeartbeats 1600000 in
theorem rSign_gen {K : Int} (h : An5 w s a n c b m d xs ys k) (hk : k ≤ 4096) (hK : sgnG s (num xs) = K) :
    Calls Tryz.prog 25 #[.agg #[.bool s, .slice a n c, .slice b m d]] w fun e w' => e = .returned (.int .i64 K) ∧ Below w.heap.size w w' := by
  have hb0 := alloc_below (w := w) (.cells #[.bool s, .slice a n c, .slice b m d] 25)
  have st := st_new w (.bool s) (.slice a n c) (.slice b m d) 25
  have hn : n ≤ 4096 := by have := h.lx; have := h.nu.1.1; omega
  have bt := natBits_any (h.nu.later hb0) h.wx (by omega)
  have n0 := num_nonneg h.wx
  clear h
  by_cases h0 : num xs = 0
  · have HK : Hid (0 = K) := by show _ = _; rw [← hK]; unfold sgnG; rw [if_pos h0]
    rw [h0, bits_none] at bt
    clear hK h0
    go_enter Tryz.func25, Tryz.ntmps25
    go_wp2_with fail
    refine bt.mono ?_
    rintro e w1 ⟨rfl, hb1⟩
    go_wp2
    go_ret
    exact ⟨ret_i HK.out, hb0.trans (hb1.mono hb0.size)⟩
  · have HK : Hid ((if s = true then (-1 : Int) else 1) = K) := by show _ = _; rw [← hK]; unfold sgnG; rw [if_neg h0]
    obtain ⟨j, hj, _⟩ := bits_some (N := num xs) (by omega)
    rw [hj] at bt
    have tj : (((j : Int) + 1) == 0) = false := beq_no (by omega)
    clear hj
    clear hK h0
    go_enter Tryz.func25, Tryz.ntmps25
    go_wp2_with fail
    refine bt.mono ?_
    rintro e w1 ⟨rfl, hb1⟩
    obtain ⟨x0, x1, x2⟩ := (st.later hb1).cells
    cases s
    · go_wp2
      go_ret
      exact ⟨ret_i HK.out, hb0.trans (hb1.mono hb0.size)⟩
    · go_wp2
      go_ret
      exact ⟨ret_i HK.out, hb0.trans (hb1.mono hb0.size)⟩
set_option maxHeartbeats 1600000 in
theorem r5Sign_gen {K : Int} (h : An5 w s a n c b m d xs ys k) (hk : k ≤ 4096) (hK : sgnG s (num xs) = K) :
    Calls Tryz.prog 26 #[.agg #[.bool s, .slice a n c, .slice b m d]] w fun e w' => e = .returned (.int .i64 K) ∧ Below w.heap.size w w' := by
  have hb0 := alloc_below (w := w) (.cells #[.bool s, .slice a n c, .slice b m d] 25)
  have st := st_new w (.bool s) (.slice a n c) (.slice b m d) 25
  have hn : n ≤ 4096 := by have := h.lx; have := h.nu.1.1; omega
  have bt := refNorm_any (cap := c) (h.nu.later hb0).1 h.wx (by omega)
  have ev : val 18446744073709551616 xs = num xs := rfl
  rw [ev] at bt
  have n0 := num_nonneg h.wx
  clear h
  by_cases h0 : num xs = 0
  · have HK : Hid (0 = K) := by show _ = _; rw [← hK]; unfold sgnG; rw [if_pos h0]
    rw [h0, show words 0 = [] from dig_zero _] at bt
    clear hK h0
    go_enter Tryz.func26, Tryz.ntmps26
    go_wp2_with fail
    refine bt.mono ?_
    rintro e w1 ⟨v, rfl, ho, hb1⟩
    obtain ⟨a', c', rfl, _⟩ := ho.readsC
    clear ho
    go_wp2
    go_ret
    exact ⟨ret_i HK.out, hb0.trans (hb1.mono hb0.size)⟩
  · have HK : Hid ((if s = true then (-1 : Int) else 1) = K) := by show _ = _; rw [← hK]; unfold sgnG; rw [if_neg h0]
    obtain ⟨j, hj⟩ : ∃ j, (words (num xs)).length = j + 1 := ⟨(words (num xs)).length - 1, by
      have : (words (num xs)).length ≠ 0 := fun e => by
        have := (words_nil n0).mp e
        omega
      omega⟩
    have tj : (((j : Int) + 1) == 0) = false := beq_no (by omega)
    have tk : (((j + 1 : Nat) : Int) == 0) = false := beq_no (by omega)
    clear hK h0
    go_enter Tryz.func26, Tryz.ntmps26
    go_wp2_with fail
    refine bt.mono ?_
    rintro e w1 ⟨v, rfl, ho, hb1⟩
    obtain ⟨a', c', rfl, _⟩ := ho.readsC
    rw [hj] at *
    clear ho
    obtain ⟨x0, x1, x2⟩ := (st.later hb1).cells
    cases s
    · go_wp2
      go_ret
      exact ⟨ret_i HK.out, hb0.trans (hb1.mono hb0.size)⟩
    · go_wp2
      go_ret
      exact ⟨ret_i HK.out, hb0.trans (hb1.mono hb0.size)⟩
set_option maxHeartbeats 6400000 in
set_option maxRecDepth 100000 in
theorem rNew_none {ys : List Int} (hr2 : RowC w b m d ys) (hy : Ws ys) (hm : m ≤ 4096) (h0 : num ys = 0) :
    Calls Tryz.prog 21 #[.bool s, .slice a n c, .slice b m d] w fun e w' => e = .returned (.tuple #[.agg #[.bool false, .slice none 0 0, .slice none 0 0], .int .i64 50]) ∧ Below w.heap.size w w' := by
  have hb0 := alloc_below (w := w) (.cells #[.bool false, .slice none 0 0, .slice none 0 0] 25)
  have st0 := st_new w (.bool false) (.slice none 0 0) (.slice none 0 0) 25
  have k2 := bits0_any (hr2.later hb0) hy (by omega)
  rw [h0, bits_none] at k2
  clear hr2
  obtain ⟨x0, x1, x2⟩ := st0.cells
  obtain ⟨y0, y1, y2⟩ := st0.frozen
  go_enter Tryz.func21, Tryz.ntmps21
  go_wp2_with fail
  refine k2.mono ?_
  rintro e w1 ⟨rfl, rfl⟩
  go_wp2_with fail
  have st9 := (st0.set (.bool false) (.slice none 0 0) (.slice none 0 0)).cells
  refine bodyPost_ret (v := .tuple #[.agg #[.bool false, .slice none 0 0, .slice none 0 0], .int .i64 50]) (by simp [results, Tryz.results21, go_sem, st9]) rfl ?_
  exact ⟨rfl, hb0⟩
set_option maxHeartbeats 6400000 in
set_option maxRecDepth 100000 in
theorem r5New_any (h : An5 w s a n c b m d xs ys k) (hk : k ≤ 12) :
    Calls Tryz.prog 20 #[.bool s, .slice a n c, .slice b m d] w fun e w' => (num ys = 0 ∧ e = .returned (.tuple #[.agg #[.bool false, .slice none 0 0, .slice none 0 0], .int .i64 50]) ∧ Below w.heap.size w w') ∨ (num ys ≠ 0 ∧ ∃ s' v1 v2, e = .returned (.tuple #[.agg #[.bool s', v1, v2], .int .i64 0]) ∧ RtO w' w.heap.size s' v1 v2 (mkR s (num xs) (num ys)) ∧ Below w.heap.size w w') := by
  have hb0 := alloc_below (w := w) (.cells #[.bool false, .slice none 0 0, .slice none 0 0] 25)
  have st0 := st_new w (.bool false) (.slice none 0 0) (.slice none 0 0) 25
  have hn : n ≤ 12 := by have := h.lx; have := h.nu.1.1; omega
  have hm : m ≤ 12 := by have := h.ly; have := h.de.1.1; omega
  have hx := h.wx
  have hy := h.wy
  have r1 := h.nu.later hb0
  have r2 := h.de.later hb0
  have n1 := refNorm_any (cap := c) r1.1 hx (by omega)
  have n2 := fun w1 (hb : Below _ _ w1) => refNorm_any (cap := d) (r2.later hb).1 hy (by omega)
  have l1 : (words (num xs)).length ≤ 12 := by have := words_le hx; have := r1.1.1; omega
  have l2 : (words (num ys)).length ≤ 12 := by have := words_le hy; have := r2.1.1; omega
  have x9 := num_nonneg hx
  have y9 := num_nonneg hy
  have ev1 : val 18446744073709551616 xs = num xs := rfl
  have ev2 : val 18446744073709551616 ys = num ys := rfl
  rw [ev1] at n1
  rw [ev2] at n2
  clear r1 r2 h
  go_enter Tryz.func20, Tryz.ntmps20
  go_wp2_with fail
  refine n1.mono ?_
  rintro e w1 ⟨v1, rfl, o1, hb1⟩
  obtain ⟨a1, c1, rfl, q1⟩ := o1.readsC
  go_wp2_with fail
  refine (n2 _ hb1).mono ?_
  rintro e w2 ⟨v2, rfl, o2, hb2⟩
  obtain ⟨a2, c2, rfl, q2⟩ := o2.readsC
  have q1' := q1.later hb2
  have hB2 := hb0.trans ((hb1.trans (hb2.mono hb1.size)).mono hb0.size)
  have st2 := (st0.later hb1).later hb2
  clear n1 n2 o1 o2 q1
  by_cases h0 : num ys = 0
  · have tl : (((words (num ys)).length : Int) == 0) = true := beq_of (by rw [h0, show words 0 = [] from dig_zero _]; rfl)
    have HD0 : Hid (num ys = 0) := h0
    clear h0
    obtain ⟨x0, x1, x2⟩ := st2.cells
    obtain ⟨y0, y1, y2⟩ := st2.frozen
    go_wp2_with fail
    have st9 := (st2.set (.bool false) (.slice none 0 0) (.slice none 0 0)).cells
    refine bodyPost_ret (v := .tuple #[.agg #[.bool false, .slice none 0 0, .slice none 0 0], .int .i64 50]) (by simp [results, Tryz.results20, go_sem, st9]) rfl ?_
    exact Or.inl ⟨HD0.out, rfl, below_in hB2 (in3 _ _ _ _ _) (Nat.le_refl _) (Nat.le_refl _)⟩
  · have tl : (((words (num ys)).length : Int) == 0) = false := beq_no (by
      intro e
      exact h0 ((words_nil y9).mp (by omega)))
    have t1 : ¬ (4096 : Int) < ((words (num xs)).length : Int) := by omega
    have t2 : ¬ (4096 : Int) < ((words (num ys)).length : Int) := by omega
    have low := ref5Low_any (neg := s) q1' q2 ⟨Dg_words _, num_words x9, by omega⟩ ⟨Dg_words _, num_words y9, by omega⟩ (by omega) (by omega) (by omega)
    go_wp2_with fail
    refine low.mono ?_
    rintro e wE ⟨s9, v1, v2, rfl, hR, hbE⟩
    obtain ⟨a9, n9, c9, b9, m9, d9, rfl, rfl, _⟩ := hR.opens
    have tE := st2.later hbE
    obtain ⟨x0, x1, x2⟩ := tE.cells
    obtain ⟨y0, y1, y2⟩ := tE.frozen
    clear low
    go_wp2_with fail
    have st9 := (tE.set (.bool s9) (.slice a9 n9 c9) (.slice b9 m9 d9)).cells
    refine bodyPost_ret (v := .tuple #[.agg #[.bool s9, .slice a9 n9 c9, .slice b9 m9 d9], .int .i64 0]) (by simp [results, Tryz.results20, go_sem, st9]) rfl ?_
    have hlt := st2.lt
    exact Or.inr ⟨h0, _, _, _, rfl, (hR.inn (in3 _ _ _ _ _) hlt).lower hB2.size, below_in (hB2.trans (hbE.mono hB2.size)) (in3 _ _ _ _ _) (Nat.le_refl _) (Nat.le_refl _)⟩
theorem bothNew (h : An5 w s a n c b m d xs ys 12) : ∃ R : Except Int Rat, Says 21 #[.bool s, .slice a n c, .slice b m d] w R ∧ Says 20 #[.bool s, .slice a n c, .slice b m d] w R := by
  have hn : n ≤ 12 := by have := h.lx; have := h.nu.1.1; omega
  have hm : m ≤ 12 := by have := h.ly; have := h.de.1.1; omega
  by_cases h0 : num ys = 0
  · refine ⟨.error 50, ?_, ?_⟩
    · intro w1 hb
      refine (rNew_none (h.later hb).de h.wy (by omega) h0).mono ?_
      rintro e w' ⟨rfl, hb'⟩
      exact ⟨_, _, _, _, _, _, _, rfl, od_err _ _, hb'⟩
    · intro w1 hb
      refine (r5New_any (h.later hb) (by omega)).mono ?_
      rintro e w' (⟨_, rfl, hb'⟩ | ⟨k0, _⟩)
      · exact ⟨_, _, _, _, _, _, _, rfl, od_err _ _, hb'⟩
      · exact absurd h0 k0
  · have y9 := num_nonneg h.wy
    have nx : Nm xs (num xs) := ⟨h.wx, rfl, by have := h.lx; omega⟩
    have ny : Nm ys (num ys) := ⟨h.wy, rfl, by have := h.ly; omega⟩
    have lx : Lt (num xs) 12 := nx.lt h.lx
    have ly : Lt (num ys) 12 := ny.lt h.ly
    have sz : Sz (mkR s (num xs) (num ys)) 4096 := Sz.mkR (lx.mono (by omega)) (ly.mono (by omega)) (by omega)
    refine ⟨.ok (mkR s (num xs) (num ys)), ?_, ?_⟩
    · intro w1 hb
      refine (rNew_ok (neg := s) (h.later hb).nu (h.later hb).de nx ny (by omega) (lx.mono (by omega)) (ly.mono (by omega)) (by omega) (by omega)).mono ?_
      rintro e w' ⟨s', v1, v2, rfl, hR, hb'⟩
      obtain ⟨a', n', c', b', m', d', rfl, rfl, od⟩ := od_ok hR sz
      exact ⟨_, _, _, _, _, _, _, rfl, od, hb'⟩
    · intro w1 hb
      refine (r5New_any (h.later hb) (by omega)).mono ?_
      rintro e w' (⟨k0, _⟩ | ⟨_, s', v1, v2, rfl, hR, hb'⟩)
      · exact absurd k0 h0
      · obtain ⟨a', n', c', b', m', d', rfl, rfl, od⟩ := od_ok hR sz
        exact ⟨_, _, _, _, _, _, _, rfl, od, hb'⟩
end
theorem two_ones (w : World) (x y : Int) : RowC ((w.alloc (.cells #[.int .u64 x] 46)).alloc (.cells #[.int .u64 y] 46)) (some ⟨w.heap.size, 0, none⟩) 1 1 [x] ∧ RowC ((w.alloc (.cells #[.int .u64 x] 46)).alloc (.cells #[.int .u64 y] 46)) (some ⟨w.heap.size + 1, 0, none⟩) 1 1 [y] ∧ Below w.heap.size w ((w.alloc (.cells #[.int .u64 x] 46)).alloc (.cells #[.int .u64 y] 46)) := by
  have r1 := rowC_one w x 46
  have b1 := alloc_below (w := w) (.cells #[.int .u64 x] 46)
  have r2 := rowC_one (w.alloc (.cells #[.int .u64 x] 46)) y 46
  have b2 := alloc_below (w := w.alloc (.cells #[.int .u64 x] 46)) (.cells #[.int .u64 y] 46)
  have es : (w.alloc (.cells #[.int .u64 x] 46)).heap.size = w.heap.size + 1 := by simp
  rw [es] at r2
  exact ⟨r1.later b2, r2, b1.trans (b2.mono b1.size)⟩
theorem mkR_int (v : Int) : mkR (decide (v < 0)) (v.natAbs : Int) 1 = ((v : Int) : Rat) := by
  unfold mkR
  have e : sg (decide (v < 0)) (v.natAbs : Int) = v := by
    unfold sg
    split <;> simp_all <;> omega
  rw [e]
  exact Rat.mkRat_one v
set_option maxHeartbeats 6400000 in
set_option maxRecDepth 100000 in
theorem r5Int_any {v : Int} (h0 : -9223372036854775808 ≤ v) (h1 : v ≤ 9223372036854775807) (w : World) :
    Calls Tryz.prog 28 #[.int .i64 v] w fun e w' => ∃ s v1 v2, e = .returned (.agg #[.bool s, v1, v2]) ∧ RtO w' w.heap.size s v1 v2 ((v : Int) : Rat) ∧ Below w.heap.size w w' := by
  have hb0 := alloc_below (w := w) (.cells #[.bool false, .slice none 0 0, .slice none 0 0] 25)
  have st0 := st_new w (.bool false) (.slice none 0 0) (.slice none 0 0) 25
  have hu : U (v.natAbs : Int) := by unfold U; omega
  have hu1 : U 1 := U_one
  obtain ⟨W0, hW0⟩ : ∃ W0, W0 = w.alloc (.cells #[.bool false, .slice none 0 0, .slice none 0 0] 25) := ⟨_, rfl⟩
  have two := two_ones W0 (v.natAbs : Int) 1
  obtain ⟨q1, q2, hb1⟩ := two
  have low := ref5Low_any (neg := decide (v < 0)) q1 q2 (Nm.one hu) (Nm.one hu1) (by omega) (by omega) (by omega)
  rw [mkR_int] at low
  have stA := (hW0 ▸ st0 : St W0 w.heap.size 25 (.bool false) (.slice none 0 0) (.slice none 0 0)).later hb1
  have hbA := (hW0 ▸ hb0 : Below w.heap.size w W0).trans (hb1.mono (hW0 ▸ hb0 : Below w.heap.size w W0).size)
  clear q1 q2
  subst hW0
  have es : (w.alloc (.cells #[.bool false, .slice none 0 0, .slice none 0 0] 25)).heap.size = w.heap.size + 1 := by simp
  rw [es] at low
  by_cases hv : v < 0
  · have e1 : IntKind.u64.wrap (-IntKind.u64.wrap v) = (v.natAbs : Int) := by rw [wrapU, wrapU]; omega
    have dv : decide (v < 0) = true := decide_eq_true hv
    rw [dv] at low
    clear hb1 hb0 st0
    go_enter Tryz.func28, Tryz.ntmps28
    go_wp2_with fail
    refine low.mono ?_
    rintro e wE ⟨s9, v1, v2, rfl, hR, hbE⟩
    obtain ⟨a9, n9, c9, b9, m9, d9, rfl, rfl, _⟩ := hR.opens
    have tE := stA.later hbE
    obtain ⟨x0, x1, x2⟩ := tE.cells
    obtain ⟨y0, y1, y2⟩ := tE.frozen
    clear low
    go_wp2_with fail
    have st9 := (tE.set (.bool s9) (.slice a9 n9 c9) (.slice b9 m9 d9)).cells
    refine bodyPost_ret (v := .agg #[.bool s9, .slice a9 n9 c9, .slice b9 m9 d9]) (by simp [results, Tryz.results28, go_sem, st9]) rfl ?_
    have hlt := stA.lt
    exact ⟨_, _, _, rfl, (hR.inn (in3 _ _ _ _ _) hlt).lower hbA.size, below_in (hbA.trans (hbE.mono hbA.size)) (in3 _ _ _ _ _) (Nat.le_refl _) (Nat.le_refl _)⟩
  · have e1 : IntKind.u64.wrap v = (v.natAbs : Int) := by rw [wrapU]; omega
    have dv : decide (v < 0) = false := decide_eq_false hv
    rw [dv] at low
    clear hb1 hb0 st0
    go_enter Tryz.func28, Tryz.ntmps28
    go_wp2_with fail
    refine low.mono ?_
    rintro e wE ⟨s9, v1, v2, rfl, hR, hbE⟩
    obtain ⟨a9, n9, c9, b9, m9, d9, rfl, rfl, _⟩ := hR.opens
    have tE := stA.later hbE
    obtain ⟨x0, x1, x2⟩ := tE.cells
    obtain ⟨y0, y1, y2⟩ := tE.frozen
    clear low
    go_wp2_with fail
    have st9 := (tE.set (.bool s9) (.slice a9 n9 c9) (.slice b9 m9 d9)).cells
    refine bodyPost_ret (v := .agg #[.bool s9, .slice a9 n9 c9, .slice b9 m9 d9]) (by simp [results, Tryz.results28, go_sem, st9]) rfl ?_
    have hlt := stA.lt
    exact ⟨_, _, _, rfl, (hR.inn (in3 _ _ _ _ _) hlt).lower hbA.size, below_in (hbA.trans (hbE.mono hbA.size)) (in3 _ _ _ _ _) (Nat.le_refl _) (Nat.le_refl _)⟩
end Go.Proofs.YtopcdpeepchgfacGreatDoor
