/- plumblaw07: exact. -/
import Derived.Test.YtildkknpbpdnnabDoorNearF
import Derived.Test.YtildkknpbpdnnabDoorRatF
import Derived.Test.YtildkknpbpdnnabDoorNearRat
namespace Go.Proofs.YtildkknpbpdnnabDoor
open Go.ChangeShapes Go.WideShapes Go.ChangeAt Go.RowKit
open Na Ar
set_option linter.unusedVariables false
def eNum (xs : List Int) : Int := num (xs.take 60)
def eDen (ys : List Int) : Int := if num (ys.take 60) = 0 then 1 else num (ys.take 60)
theorem eNum_lt {xs : List Int} (h : Ws xs) : Lt (eNum xs) 60 := by
  have := num_bd (h.take 60)
  refine ⟨num_nonneg (h.take 60), Int.lt_of_lt_of_le this (wpow_mono (by rw [List.length_take]; omega))⟩
theorem eDen_lt {ys : List Int} (h : Ws ys) : Lt (eDen ys) 60 ∧ 0 < eDen ys := by
  have h1 : Lt (num (ys.take 60)) 60 := eNum_lt h
  unfold eDen
  by_cases hz : num (ys.take 60) = 0
  · rw [if_pos hz]; exact ⟨(Lt.word (x := 1) (by omega)).mono (by omega), by omega⟩
  · rw [if_neg hz]; exact ⟨h1, by have := h1.1; omega⟩
theorem GrVar.inn {w w' : World} {g : Nat} (h : GrVar w) (hi : In g (g + 1) w w') (hne : ¬ 0 = g) : GrVar w' := by
  have hl := h.lt
  have hbk := hi.block 0 hl (by omega)
  have hc : ∀ i, w'.cell? ⟨0, i, none⟩ = w.cell? ⟨0, i, none⟩ := fun i => by unfold World.cell?; simp only [hbk]
  unfold GrVar at *
  simp only [hc]
  exact h
theorem off_old {w : World} {a : Option Addr} {n c g : Nat} {xs : List Int} (h : RowC w a n c xs) (hg : w.heap.size ≤ g) : 0 < n → Off a g := fun hn b off e => by
  obtain ⟨b', o', e', hb, _⟩ := h.1.at hn
  rw [e'] at e
  simp only [Option.some.injEq, Addr.mk.injEq] at e
  omega
theorem off_own {w : World} {base n c : Nat} {e : TypeId} {a : Option Addr} {xs : List Int} (h : Own .u64 w base e (.slice a n c) xs) {g : Nat} (hg : g < base) : 0 < n → Off a g := fun _ b off e' => by
  subst e'
  have := own_blk h (g := b) rfl
  omega
theorem st_three7 (w : World) (x y z x' y' z' x'' y'' z'' : Value) (t t' t'' : TypeId) : St (((w.alloc (.cells #[x, y, z] t)).alloc (.cells #[x', y', z'] t')).alloc (.cells #[x'', y'', z''] t'')) w.heap.size t x y z ∧ St (((w.alloc (.cells #[x, y, z] t)).alloc (.cells #[x', y', z'] t')).alloc (.cells #[x'', y'', z''] t'')) (w.heap.size + 1) t' x' y' z' ∧ St (((w.alloc (.cells #[x, y, z] t)).alloc (.cells #[x', y', z'] t')).alloc (.cells #[x'', y'', z''] t'')) (w.heap.size + 2) t'' x'' y'' z'' ∧ Below w.heap.size w (((w.alloc (.cells #[x, y, z] t)).alloc (.cells #[x', y', z'] t')).alloc (.cells #[x'', y'', z''] t'')) := by
  have b1 := alloc_below (w := w) (.cells #[x, y, z] t)
  have b2 := alloc_below (w := w.alloc (.cells #[x, y, z] t)) (.cells #[x', y', z'] t')
  have b3 := alloc_below (w := (w.alloc (.cells #[x, y, z] t)).alloc (.cells #[x', y', z'] t')) (.cells #[x'', y'', z''] t'')
  have s1 := ((st_new w x y z t).later b2).later b3
  have s2 := (st_new (w.alloc (.cells #[x, y, z] t)) x' y' z' t').later b3
  have s3 := st_new ((w.alloc (.cells #[x, y, z] t)).alloc (.cells #[x', y', z'] t')) x'' y'' z'' t''
  have e1 : (w.alloc (.cells #[x, y, z] t)).heap.size = w.heap.size + 1 := by simp
  have e2 : ((w.alloc (.cells #[x, y, z] t)).alloc (.cells #[x', y', z'] t')).heap.size = w.heap.size + 2 := by simp
  rw [e1] at s2
  rw [e2] at s3
  exact ⟨s1, s2, s3, (b1.trans (b2.mono b1.size)).trans (b3.mono (Nat.le_trans b1.size b2.size))⟩
theorem ref_cmp_nil {w : World} {a : Option Addr} {n c : Nat} {xs : List Int} (h : RowC w a n c xs) (hx : Ws xs) (hn : n ≤ 4000000) {B : Bool} (hB : (decide (num xs = 0)) = B) :
    Calls Tryd.prog 16 #[.slice a n c, .slice none 0 0] w fun e w' => ∃ C : Int, e = .returned (.int .i64 C) ∧ (C == 0) = B ∧ Below w.heap.size w w' := by
  have hnil : RowC w none 0 0 [] := ⟨⟨rfl, Or.inl rfl⟩, Nat.le_refl _, Nat.zero_le _⟩
  have h0 : num [] = 0 := by simp [num, val]
  refine (natCmp_any h hnil hx (Dg.nil _) hn (by omega)).mono ?_
  rintro e w' ⟨rfl, hb⟩
  refine ⟨_, rfl, ?_, hb⟩
  rw [← hB, h0, Bool.eq_iff_iff]
  have p := num_nonneg hx
  simp only [beq_iff_eq, decide_eq_true_eq]
  unfold ordN
  constructor
  · intro q
    apply Decidable.byContradiction
    intro hc
    rw [if_neg (by omega), if_pos (by omega)] at q
    cases q
  · intro q; rw [q]; rfl
set_option maxHeartbeats 6400000 in
set_option maxRecDepth 100000 in
theorem exact7_any {w : World} {s : Bool} {a b : Option Addr} {n m c d : Nat} {xs ys : List Int} (ha : RowC w a n c xs) (hb : RowC w b m d ys) (hx : Ws xs) (hy : Ws ys) :
    Calls Tryd.prog 5 #[.agg #[.bool s, .slice a n c, .slice b m d]] w fun e w' => ∃ a1 n1 c1 l1 b1 m1 d1 l2 s9 u1 u2, e = .returned (.tuple #[.agg #[.bool s, .slice a1 n1 c1, .slice b1 m1 d1], .agg #[.bool s9, u1, u2], .bool true]) ∧ RowC w' a1 n1 c1 l1 ∧ Nm l1 (eNum xs) ∧ n1 ≤ 60 ∧ RowC w' b1 m1 d1 l2 ∧ Nm l2 (eDen ys) ∧ m1 ≤ 60 ∧ RtO w' w.heap.size s9 u1 u2 (mkR s (eNum xs) (eDen ys)) ∧ ((∀ g', g' < w.heap.size → 0 < n1 → Off a1 g') ∧ ∀ g', g' < w.heap.size → 0 < m1 → Off b1 g') ∧ Below w.heap.size w w' := by
  obtain ⟨t1, t2, t3, hb0⟩ := st_three7 w (.bool s) (.slice a n c) (.slice b m d) (.bool false) (.slice none 0 0) (.slice none 0 0) (.bool false) (.slice none 0 0) (.slice none 0 0) 24 24 25
  obtain ⟨w0, hw0⟩ : ∃ w0, w0 = ((w.alloc (.cells #[.bool s, .slice a n c, .slice b m d] 24)).alloc (.cells #[.bool false, .slice none 0 0, .slice none 0 0] 24)).alloc (.cells #[.bool false, .slice none 0 0, .slice none 0 0] 25) := ⟨_, rfl⟩
  rw [← hw0] at t1 t2 t3 hb0
  have e0 : w0.heap.size = w.heap.size + 3 := by rw [hw0]; simp
  have hnm : n ≤ maxLen := Nat.le_trans ha.2.1 ha.2.2
  have hmm : m ≤ maxLen := Nat.le_trans hb.2.1 hb.2.2
  have ra := ha.later hb0
  have rb := hb.later hb0
  have oB := off_old hb (Nat.le_refl _)
  clear ha hb
  have lN := eNum_lt hx
  obtain ⟨lD, pD⟩ := eDen_lt hy
  have wA := hx.take 60
  have wB := hy.take 60
  have nA : num (xs.take 60) = eNum xs := rfl
  have hD : eDen ys = if num (ys.take 60) = 0 then 1 else num (ys.take 60) := rfl
  have lA : (xs.take 60).length ≤ 60 := by rw [List.length_take]; omega
  have lB : (ys.take 60).length ≤ 60 := by rw [List.length_take]; omega
  have f1 := bounded7_any (cap := c) ra.1 hnm 60 (by omega)
  have f2 := fun w1 (h : RowC w1 b m d ys) => bounded7_any (w := w1) (cap := d) h.1 hmm 60 (by omega)
  have nc : ((60 : Nat) : Int) = 60 := rfl
  rw [nc] at f1 f2
  clear nc hx hy ra
  generalize xs.take 60 = us at *
  generalize ys.take 60 = vs at *
  generalize eNum xs = N at *
  generalize eDen ys = D at *
  obtain ⟨g, hg⟩ : ∃ g, g = w.heap.size := ⟨_, rfl⟩
  have HG : Hid (w.heap.size = g) := hg.symm
  have HB0 : Below w.heap.size w w0 := hb0
  rw [← hg] at t1 t2 t3 e0 oB
  clear hb0
  go_enter Tryd.func5, Tryd.ntmps5
  go_wp2_with fail
  rw [← hw0, ← hg]
  refine f1.mono ?_
  rintro e w1 ⟨v, rfl, ho, hb1⟩
  obtain ⟨ma, mc, rfl, rm⟩ := ho.readsC
  obtain ⟨nn, hnn⟩ : ∃ nn, us.length = nn := ⟨_, rfl⟩
  rw [hnn] at rm lA ho ⊢
  have HNN : Hid (us.length = nn) := hnn
  have offU : ∀ g', g' < g + 3 → 0 < nn → Off ma g' := fun g' h => off_own ho (by omega)
  clear hnn f1 hw0 hg
  obtain ⟨x0, x1, x2⟩ := (t1.later hb1).cells
  obtain ⟨z0, z1, z2⟩ := (t1.later hb1).frozen
  obtain ⟨wS, hwS⟩ : ∃ wS, wS = w1.setCell ⟨g, 1, none⟩ (.slice ma nn mc) := ⟨_, rfl⟩
  have tS : St wS g 24 (.bool s) (.slice ma nn mc) (.slice b m d) := by rw [hwS]; exact set_block (t1.later hb1)
  have iS : In g (g + 1) w1 wS := by rw [hwS]; exact (In.refl g (g + 1) w1).set1 1 _
  have s1 := hb1.size
  have s2 := iS.size
  have t2S := (t2.later hb1).inn iS (by omega)
  have t3S := (t3.later hb1).inn iS (by omega)
  have oS := own_inn ho iS (by omega)
  have rbS := (rb.later hb1).inn iS oB
  have HB1 := HB0.trans (hb1.mono HB0.size)
  have HBS : Below w.heap.size w wS := below_inn HB1 iS (by rw [HG.out]; exact Nat.le_refl _) (Nat.le_refl _)
  go_wp2_with fail
  rw [← hwS]
  clear hwS x0 x1 x2 z0 z1 z2 rb oB ho rm t1 t2 t3 hb1 iS HB0 HB1
  refine (f2 wS rbS).mono ?_
  rintro e w2 ⟨v, rfl, ho2, hb2⟩
  obtain ⟨da, dc, rfl, rd⟩ := ho2.readsC
  obtain ⟨mm, hmm2⟩ : ∃ mm, vs.length = mm := ⟨_, rfl⟩
  rw [hmm2] at rd lB ho2 ⊢
  have HMM : Hid (vs.length = mm) := hmm2
  have offV : ∀ g', g' < g + 3 → 0 < mm → Off da g' := fun g' h => off_own ho2 (by omega)
  clear hmm2 f2 rbS
  obtain ⟨x0, x1, x2⟩ := (tS.later hb2).cells
  obtain ⟨z0, z1, z2⟩ := (tS.later hb2).frozen
  obtain ⟨wU, hwU⟩ : ∃ wU, wU = w2.setCell ⟨g, 2, none⟩ (.slice da mm dc) := ⟨_, rfl⟩
  have tU : St wU g 24 (.bool s) (.slice ma nn mc) (.slice da mm dc) := by rw [hwU]; exact set_block (tS.later hb2)
  have iU : In g (g + 1) w2 wU := by rw [hwU]; exact (In.refl g (g + 1) w2).set1 2 _
  have s3 := hb2.size
  have s4 := iU.size
  have t2U := (t2S.later hb2).inn iU (by omega)
  have t3U := (t3S.later hb2).inn iU (by omega)
  have oU := own_inn (oS.later hb2) iU (by omega)
  have oV := own_inn ho2 iU (by omega)
  have HB2 := HBS.trans (hb2.mono HBS.size)
  have HBU : Below w.heap.size w wU := below_inn HB2 iU (by rw [HG.out]; exact Nat.le_refl _) (Nat.le_refl _)
  obtain ⟨_, _, e1, rU⟩ := oU.readsC
  obtain ⟨_, _, e2, rV⟩ := oV.readsC
  simp only [Value.slice.injEq] at e1 e2
  obtain ⟨rfl, eN, rfl⟩ := e1
  obtain ⟨rfl, eM, rfl⟩ := e2
  rw [← eN] at rU
  rw [← eM] at rV
  have nmU : Nm us N := ⟨wA, nA, by rw [HNN.out]; omega⟩
  obtain ⟨B, hB⟩ : ∃ B, decide (num vs = 0) = B := ⟨_, rfl⟩
  have fC := ref_cmp_nil rV wB (by omega) hB
  clear oU oV eN eM
  go_wp2_with fail
  rw [← hwU]
  clear hwU x0 x1 x2 z0 z1 z2 oS ho2 rd tS t2S t3S hb2 iU HB2 HBS
  refine fC.mono ?_
  rintro e w3 ⟨C, rfl, tC, hb3⟩
  have t1 := tU.later hb3
  have t2 := t2U.later hb3
  have t3 := t3U.later hb3
  have r1 := rU.later hb3
  have r2 := rV.later hb3
  have HB3 := HBU.trans (hb3.mono HBU.size)
  have s5 := hb3.size
  clear fC tU t2U t3U rU rV HBU hb3
  obtain ⟨x0, x1, x2⟩ := t1.cells
  obtain ⟨z0, z1, z2⟩ := t1.frozen
  cases B
  · have hz : num vs ≠ 0 := of_decide_eq_false hB
    rw [if_neg hz] at hD
    have nmV : Nm vs D := ⟨wB, hD.symm, by rw [HMM.out]; omega⟩
    have fN := rNew_ok (neg := s) r1 r2 nmU nmV pD (lN.mono (by omega)) (lD.mono (by omega)) (by omega) (by omega)
    clear hz hB hD
    go_wp2_with fail
    refine fN.mono ?_
    rintro e w5 ⟨s9, u1, u2, rfl, hR, hb5⟩
    obtain ⟨a9, n9, c9, b9, m9, d9, rfl, rfl, hRt⟩ := hR.opens
    have hal := alloc_below (w := w5) (.cells #[.bool s9, .slice a9 n9 c9, .slice b9 m9 d9] 25)
    have tr := st_new w5 (.bool s9) (.slice a9 n9 c9) (.slice b9 m9 d9) 25
    have q1 := (t1.later hb5).later hal
    have q2 := (t2.later hb5).later hal
    have q3 := (t3.later hb5).later hal
    have k1 := (r1.later hb5).later hal
    have k2 := (r2.later hb5).later hal
    have HB5 := (HB3.trans (hb5.mono HB3.size)).trans (hal.mono (Nat.le_trans HB3.size hb5.size))
    have s6 := hb5.size
    have s7 := hal.size
    have hR2 := (hR.later hal).lower (base' := g + 3) (by omega)
    clear fN x0 x1 x2 z0 z1 z2 t1 t2 t3 r1 r2 HB3 hR hRt
    obtain ⟨wC, hwC⟩ : ∃ wC, wC = w5.alloc (.cells #[.bool s9, .slice a9 n9 c9, .slice b9 m9 d9] 25) := ⟨_, rfl⟩
    obtain ⟨r, hr⟩ : ∃ r, r = w5.heap.size := ⟨_, rfl⟩
    go_wp2
    rw [← hwC] at tr q1 q2 q3 k1 k2 HB5 hR2 hal s7 ⊢
    rw [← hr] at tr s6 s7 ⊢
    clear hal hb5
    obtain ⟨x0, x1, x2⟩ := q1.cells
    obtain ⟨y0, y1, y2⟩ := tr.cells
    obtain ⟨f0, f1, f2⟩ := q2.frozen
    obtain ⟨f3, f4, f5⟩ := q3.frozen
    obtain ⟨c0, c1', c2'⟩ := q2.cells
    obtain ⟨c3, c4, c5⟩ := q3.cells
    have ne1 : ¬ r = g + 1 := by omega
    have ne2 : ¬ g + 1 = r := by omega
    have ne3 : ¬ r = g + 1 + 1 := by omega
    have ne4 : ¬ g + 1 + 1 = r := by omega
    have ne5 : ¬ g = g + 1 + 1 := by omega
    have ne6 : ¬ g + 1 + 1 = g := by omega
    clear hwC hr
    go_region_held3 (fun w' => (w'.cell? ⟨g, 0, none⟩ = some (.bool s) ∧ w'.cell? ⟨g, 1, none⟩ = some (.slice ma nn mc) ∧ w'.cell? ⟨g, 2, none⟩ = some (.slice da mm dc)) ∧ (w'.cell? ⟨r, 0, none⟩ = some (.bool s9) ∧ w'.cell? ⟨r, 1, none⟩ = some (.slice a9 n9 c9) ∧ w'.cell? ⟨r, 2, none⟩ = some (.slice b9 m9 d9))) (go_keep) ((go_at_call 8; refine (num7_same 0 _).mono ?_; rintro e wD ⟨rfl, rfl⟩))
    go_wp2
    have q3' : St wC (g + 1 + 1) 25 (.bool false) (.slice none 0 0) (.slice none 0 0) := q3
    have i1 := in3 wC (g + 1) (.bool s) (.slice ma nn mc) (.slice da mm dc)
    have T2 := q2.set (.bool s) (.slice ma nn mc) (.slice da mm dc)
    have T3' := q3'.inn i1 (by omega)
    have i2 := in3 (((wC.setCell ⟨g + 1, 0, none⟩ (.bool s)).setCell ⟨g + 1, 1, none⟩ (.slice ma nn mc)).setCell ⟨g + 1, 2, none⟩ (.slice da mm dc)) (g + 1 + 1) (.bool s9) (.slice a9 n9 c9) (.slice b9 m9 d9)
    have T3 := T3'.set (.bool s9) (.slice a9 n9 c9) (.slice b9 m9 d9)
    have T2' := T2.inn i2 (by omega)
    have hd9 := fun (W : World) => below_drewN (Below.refl W.heap.size W) 1
    have K1 := ((k1.inn i1 (offU _ (by omega))).inn i2 (offU _ (by omega))).later (hd9 _)
    have K2 := ((k2.inn i1 (offV _ (by omega))).inn i2 (offV _ (by omega))).later (hd9 _)
    have R9 := (((hR2.inn i1 (by omega)).inn i2 (by omega)).later (hd9 _)).lower (base' := w.heap.size) (by rw [HG.out]; omega)
    have B9 := (below_in (below_in HB5 i1 (by rw [HG.out]; omega) (Nat.le_refl _)) i2 (by rw [HG.out]; omega) (Nat.le_refl _))
    have B10 := B9.trans ((hd9 _).mono B9.size)
    obtain ⟨j0, j1, j2⟩ := T2'.cells
    obtain ⟨j3, j4, j5⟩ := T3.cells
    refine bodyPost_ret (v := .tuple #[.agg #[.bool s, .slice ma nn mc, (.slice da mm dc)], .agg #[.bool s9, .slice a9 n9 c9, .slice b9 m9 d9], .bool true]) (by simp [results, Tryd.results5, go_sem, j0, j1, j2, j3, j4, j5]) rfl ?_
    exact ⟨_, _, _, _, _, _, _, _, _, _, _, rfl, K1, nmU, lA, K2, nmV, lB, R9, ⟨fun g' h => offU g' (by rw [HG.out] at h; omega), fun g' h => offV g' (by rw [HG.out] at h; omega)⟩, B10⟩
  · have hz : num vs = 0 := of_decide_eq_true hB
    rw [if_pos hz] at hD
    have hal3 := alloc_below (w := w3) (.cells #[.int .u64 1] 29)
    have one3 := rowC_one w3 1 29
    have nmV : Nm [1] D := by rw [hD]; exact Nm.one (by omega)
    have t1a := t1.later hal3
    have t2a := t2.later hal3
    have t3a := t3.later hal3
    have r1a := r1.later hal3
    have HB3a := HB3.trans (hal3.mono HB3.size)
    have s8 := hal3.size
    obtain ⟨h3, hh3⟩ : ∃ h3, h3 = w3.heap.size := ⟨_, rfl⟩
    rw [← hh3] at one3 hal3 s8 s5
    obtain ⟨w8, hw8⟩ : ∃ w8, w8 = w3.alloc (.cells #[.int .u64 1] 29) := ⟨_, rfl⟩
    rw [← hw8] at t1a t2a t3a r1a HB3a hal3 one3 s8
    obtain ⟨w9, hw9⟩ : ∃ w9, w9 = w8.setCell ⟨g, 2, none⟩ (.slice (some ⟨h3, 0, none⟩) 1 1) := ⟨_, rfl⟩
    have i9 : In g (g + 1) w8 w9 := by rw [hw9]; exact (In.refl g (g + 1) w8).set1 2 _
    have t1' : St w9 g 24 (.bool s) (.slice ma nn mc) (.slice (some ⟨h3, 0, none⟩) 1 1) := by rw [hw9]; exact set_block t1a
    have t2' := t2a.inn i9 (by omega)
    have t3' := t3a.inn i9 (by omega)
    have r1' := r1a.inn i9 (offU _ (by omega))
    have offL : ∀ g', g' < g + 3 → 0 < 1 → Off (some ⟨h3, 0, none⟩) g' := fun g' h _ b off e' => by
      simp only [Option.some.injEq, Addr.mk.injEq] at e'
      omega
    have r2' := one3.inn i9 (offL _ (by omega))
    have HB3' : Below w.heap.size w w9 := below_inn HB3a i9 (by rw [HG.out]; exact Nat.le_refl _) (Nat.le_refl _)
    have s9' := i9.size
    have fN := rNew_ok (neg := s) r1' r2' nmU nmV pD (lN.mono (by omega)) (lD.mono (by omega)) (by omega) (by omega)
    obtain ⟨x0', x1', x2'⟩ := (t1.later (alloc_below (w := w3) (.cells #[.int .u64 1] 29))).cells
    obtain ⟨z0', z1', z2'⟩ := (t1.later (alloc_below (w := w3) (.cells #[.int .u64 1] 29))).frozen
    have HW8 : Hid (w8 = w3.alloc (.cells #[.int .u64 1] 29)) := hw8
    have HH3 : Hid (h3 = w3.heap.size) := hh3
    have HW9 : Hid (w9 = w8.setCell ⟨g, 2, none⟩ (.slice (some ⟨h3, 0, none⟩) 1 1)) := hw9
    clear hw8 hh3 hw9
    clear hz hB hD t1 t2 t3 r1 r2 HB3 HB3a
    rename St w9 g 24 (.bool s) (.slice ma nn mc) (.slice (some ⟨h3, 0, none⟩) 1 1) => t1
    rename St w9 (g + 1) 24 (.bool false) (.slice none 0 0) (.slice none 0 0) => t2
    rename St w9 (g + 2) 25 (.bool false) (.slice none 0 0) (.slice none 0 0) => t3
    rename RowC w9 ma nn mc us => r1
    rename RowC w9 (some ⟨h3, 0, none⟩) 1 1 [1] => r2
    rename Below w.heap.size w w9 => HB3
    go_wp2_with fail
    rw [← HW8.out, ← HH3.out, ← HW9.out]
    clear HW8 HH3 HW9 x0' x1' x2' z0' z1' z2' t1a t2a t3a r1a one3 hal3 i9
    refine fN.mono ?_
    rintro e w5 ⟨s9, u1, u2, rfl, hR, hb5⟩
    obtain ⟨a9, n9, c9, b9, m9, d9, rfl, rfl, hRt⟩ := hR.opens
    have hal := alloc_below (w := w5) (.cells #[.bool s9, .slice a9 n9 c9, .slice b9 m9 d9] 25)
    have tr := st_new w5 (.bool s9) (.slice a9 n9 c9) (.slice b9 m9 d9) 25
    have q1 := (t1.later hb5).later hal
    have q2 := (t2.later hb5).later hal
    have q3 := (t3.later hb5).later hal
    have k1 := (r1.later hb5).later hal
    have k2 := (r2.later hb5).later hal
    have HB5 := (HB3.trans (hb5.mono HB3.size)).trans (hal.mono (Nat.le_trans HB3.size hb5.size))
    have s6 := hb5.size
    have s7 := hal.size
    have hR2 := (hR.later hal).lower (base' := g + 3) (by omega)
    clear fN x0 x1 x2 z0 z1 z2 t1 t2 t3 r1 r2 HB3 hR hRt
    obtain ⟨wC, hwC⟩ : ∃ wC, wC = w5.alloc (.cells #[.bool s9, .slice a9 n9 c9, .slice b9 m9 d9] 25) := ⟨_, rfl⟩
    obtain ⟨r, hr⟩ : ∃ r, r = w5.heap.size := ⟨_, rfl⟩
    go_wp2
    rw [← hwC] at tr q1 q2 q3 k1 k2 HB5 hR2 hal s7 ⊢
    rw [← hr] at tr s6 s7 ⊢
    clear hal hb5
    obtain ⟨x0, x1, x2⟩ := q1.cells
    obtain ⟨y0, y1, y2⟩ := tr.cells
    obtain ⟨f0, f1, f2⟩ := q2.frozen
    obtain ⟨f3, f4, f5⟩ := q3.frozen
    obtain ⟨c0, c1', c2'⟩ := q2.cells
    obtain ⟨c3, c4, c5⟩ := q3.cells
    have ne1 : ¬ r = g + 1 := by omega
    have ne2 : ¬ g + 1 = r := by omega
    have ne3 : ¬ r = g + 1 + 1 := by omega
    have ne4 : ¬ g + 1 + 1 = r := by omega
    have ne5 : ¬ g = g + 1 + 1 := by omega
    have ne6 : ¬ g + 1 + 1 = g := by omega
    clear hwC hr
    go_region_held3 (fun w' => (w'.cell? ⟨g, 0, none⟩ = some (.bool s) ∧ w'.cell? ⟨g, 1, none⟩ = some (.slice ma nn mc) ∧ w'.cell? ⟨g, 2, none⟩ = some (.slice (some ⟨h3, 0, none⟩) 1 1)) ∧ (w'.cell? ⟨r, 0, none⟩ = some (.bool s9) ∧ w'.cell? ⟨r, 1, none⟩ = some (.slice a9 n9 c9) ∧ w'.cell? ⟨r, 2, none⟩ = some (.slice b9 m9 d9))) (go_keep) ((go_at_call 8; refine (num7_same 0 _).mono ?_; rintro e wD ⟨rfl, rfl⟩))
    go_wp2
    have q3' : St wC (g + 1 + 1) 25 (.bool false) (.slice none 0 0) (.slice none 0 0) := q3
    have i1 := in3 wC (g + 1) (.bool s) (.slice ma nn mc) (.slice (some ⟨h3, 0, none⟩) 1 1)
    have T2 := q2.set (.bool s) (.slice ma nn mc) (.slice (some ⟨h3, 0, none⟩) 1 1)
    have T3' := q3'.inn i1 (by omega)
    have i2 := in3 (((wC.setCell ⟨g + 1, 0, none⟩ (.bool s)).setCell ⟨g + 1, 1, none⟩ (.slice ma nn mc)).setCell ⟨g + 1, 2, none⟩ (.slice (some ⟨h3, 0, none⟩) 1 1)) (g + 1 + 1) (.bool s9) (.slice a9 n9 c9) (.slice b9 m9 d9)
    have T3 := T3'.set (.bool s9) (.slice a9 n9 c9) (.slice b9 m9 d9)
    have T2' := T2.inn i2 (by omega)
    have hd9 := fun (W : World) => below_drewN (Below.refl W.heap.size W) 1
    have K1 := ((k1.inn i1 (offU _ (by omega))).inn i2 (offU _ (by omega))).later (hd9 _)
    have K2 := ((k2.inn i1 (offL _ (by omega))).inn i2 (offL _ (by omega))).later (hd9 _)
    have R9 := (((hR2.inn i1 (by omega)).inn i2 (by omega)).later (hd9 _)).lower (base' := w.heap.size) (by rw [HG.out]; omega)
    have B9 := (below_in (below_in HB5 i1 (by rw [HG.out]; omega) (Nat.le_refl _)) i2 (by rw [HG.out]; omega) (Nat.le_refl _))
    have B10 := B9.trans ((hd9 _).mono B9.size)
    obtain ⟨j0, j1, j2⟩ := T2'.cells
    obtain ⟨j3, j4, j5⟩ := T3.cells
    refine bodyPost_ret (v := .tuple #[.agg #[.bool s, .slice ma nn mc, (.slice (some ⟨h3, 0, none⟩) 1 1)], .agg #[.bool s9, .slice a9 n9 c9, .slice b9 m9 d9], .bool true]) (by simp [results, Tryd.results5, go_sem, j0, j1, j2, j3, j4, j5]) rfl ?_
    exact ⟨_, _, _, _, _, _, _, _, _, _, _, rfl, K1, nmU, lA, K2, nmV, by omega, R9, ⟨fun g' h => offU g' (by rw [HG.out] at h; omega), fun g' h => offL g' (by rw [HG.out] at h; omega)⟩, B10⟩
end Go.Proofs.YtildkknpbpdnnabDoor
