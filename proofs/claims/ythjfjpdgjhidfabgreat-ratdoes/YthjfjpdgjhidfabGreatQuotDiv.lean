/- package quot: divide. -/
import Derived.Test.YthjfjpdgjhidfabGreatQuotDiv0
namespace Go.Proofs.YthjfjpdgjhidfabGreat
open Go.ChangeShapes Go.WideShapes Go.ChangeAt Go.RowKit
open Na Ar
set_option linter.unusedVariables false
namespace Na
/-- a whole list shifted, nothing lost -/
theorem up_all {r : Nat} {ds us : List Int} {b : Int} (h : UpI ds 0 r ds.length b us) (lt : num ds * 2 ^ r < 18446744073709551616 ^ ds.length) : num us = num ds * 2 ^ r ∧ Ws us ∧ us.length = ds.length := by
  obtain ⟨h1, h2, h3, h4, h5⟩ := h
  rw [List.drop_zero, List.take_of_length_le (Nat.le_refl _), Int.pow_zero, Int.one_mul, Nat.zero_add] at h5
  have e2 : num ds + (2 ^ r - 1) * num ds = num ds * 2 ^ r := by grind
  rw [e2] at h5
  have n0 := num_nonneg h1
  have c0 := cup_nonneg (r := r) h3.1
  have p := wpow_pos ds.length
  have cz : cup r b = 0 := by
    by_cases g : cup r b = 0
    · exact g
    · have : (18446744073709551616 : Int) ^ ds.length * 1 ≤ 18446744073709551616 ^ ds.length * cup r b := Int.mul_le_mul_of_nonneg_left (by omega) (by omega)
      omega
  rw [cz, Int.mul_zero, Int.add_zero] at h5
  exact ⟨h5, h1, h2⟩
/-- the divisor's shift -/
theorem dv_shift {Y : Int} {k : Nat} (hY : 0 < Y) (hl : (words Y).length = k + 2) : ∃ s : Nat, s ≤ 63 ∧ (64 : Int) - lenW ((words Y).getD (k + 1) 0) = (s : Int) ∧ Y * 2 ^ s < 18446744073709551616 ^ (k + 2) ∧ 0 < (words Y).getD (k + 1) 0 := by
  obtain ⟨b1, b2⟩ := bits_list (L := k + 1) hY (by omega)
  have g := (Dg_words Y).getAnyB (k + 1)
  obtain ⟨i, hi, h1, h2, h3⟩ := lenW_pos (x := (words Y).getD (k + 1) 0) g (by omega)
  obtain ⟨b, hb, a1, a2⟩ := bits_some hY
  refine ⟨64 - (i + 1), by omega, by rw [h1]; omega, ?_, b1⟩
  have eb : b + 1 = 64 * (k + 1) + (i + 1) := by rw [hb, h1] at b2; omega
  have p := p2pos (64 - (i + 1))
  have m : Y * 2 ^ (64 - (i + 1)) < 2 ^ (b + 1) * 2 ^ (64 - (i + 1)) := Int.mul_lt_mul_of_pos_right a2 p
  rw [← Int.pow_add, eb] at m
  rw [wpow2]
  have : 64 * (k + 1) + (i + 1) + (64 - (i + 1)) = 64 * (k + 2) := by omega
  rw [this] at m
  exact m
theorem dv_top {vs : List Int} {k : Nat} {Y V : Int} (hv : Ws vs) (hl : vs.length = k + 2) (hV : num vs = V) (hYV : Y ≤ V) (hY : 18446744073709551616 ^ (k + 1) ≤ Y) : vs.getD (k + 1) 0 ≠ 0 := by
  intro h0
  have e := win_succ (us := vs) (o := 0) (m := k + 1) (by omega)
  rw [win_all hl, Nat.zero_add, h0, Int.mul_zero, Int.add_zero] at e
  have := win_lt hv (o := 0) (m := k + 1) (by omega)
  omega
theorem dv_first {X Y : Int} {J k s : Nat} {vs us : List Int} (hX : X < 18446744073709551616 ^ (J + (k + 2))) (hY : 18446744073709551616 ^ (k + 1) ≤ Y) (wv : Ws vs) (wu : Ws us) (ev : num vs = Y * 2 ^ s) (eu : num us = X * 2 ^ s) :
    DvI (X * 2 ^ s) vs us (List.replicate (J + 1) 0) (J + 1) := by
  have z : num (List.replicate (J + 1) (0 : Int)) = 0 := by unfold num; rw [val_zeros]
  refine ⟨wu, Dg_zeros (by omega) _, by rw [z, eu]; omega, ?_, ?_⟩
  · rw [eu, ev]
    have p := p2pos s
    have a : (18446744073709551616 : Int) ^ (k + 1) * 18446744073709551616 ^ (J + 1) ≤ Y * 18446744073709551616 ^ (J + 1) := Int.mul_le_mul_of_nonneg_right hY (Int.le_of_lt (wpow_pos _))
    rw [← Int.pow_add] at a
    have e : k + 1 + (J + 1) = J + (k + 2) := by omega
    rw [e] at a
    have b : X * 2 ^ s < Y * 18446744073709551616 ^ (J + 1) * 2 ^ s := Int.mul_lt_mul_of_pos_right (by omega) p
    have c : Y * 18446744073709551616 ^ (J + 1) * 2 ^ s = Y * 2 ^ s * 18446744073709551616 ^ (J + 1) := by grind
    omega
  · intro i hi
    rw [List.getD_eq_getElem?_getD, List.getElem?_replicate]
    split <;> rfl
theorem dv_last {X Y A S : Int} {s : Nat} (hY : 0 < Y) (h : S + Y * 2 ^ s * A = X * 2 ^ s) (h0 : 0 ≤ S) (h1 : S < Y * 2 ^ s) : A = X / Y ∧ S / 2 ^ s = X % Y := by
  have p := p2pos s
  have hp : 0 < Y * 2 ^ s := Int.mul_pos hY p
  have u := (Int.ediv_emod_unique (a := X * 2 ^ s) (b := Y * 2 ^ s) (r := S) (q := A) hp).mpr ⟨by omega, h0, h1⟩
  rw [Int.mul_ediv_mul_of_pos_left _ _ p] at u
  refine ⟨u.1.symm, ?_⟩
  have e := Int.mul_emod_mul_of_pos X Y p
  rw [Int.mul_comm X, Int.mul_comm Y] at u
  rw [← u.2, e]
  exact Int.mul_ediv_cancel_left _ (by omega)
end Na
/-- two answers in blocks of their own -/
def Apart (v1 v2 : Value) : Prop := ∀ g, v1.ownBlock = some g → v2.ownBlock ≠ some g
def DivPost (w : World) (X Y : Int) (e : Ending) (w' : World) : Prop := ∃ v1 v2, e = .returned (.tuple #[v1, v2]) ∧ Own .u64 w' w.heap.size 53 v1 (words (X / Y)) ∧ Own .u64 w' w.heap.size 53 v2 (words (X % Y)) ∧ Below w.heap.size w w' ∧ Apart v1 v2
structure DvPF (w : World) (X Y : Int) (p : DvP) : Prop where
  ok : DvOk p
  w0 : p.w0 = w
  eu : p.U0 = X * 2 ^ p.s
  ev : num p.vs = Y * 2 ^ p.s
theorem dv_post {w : World} {X Y : Int} {p : DvP} (h : DvPF w X Y p) (hY : 0 < Y) {e : Ending} {w' : World} (hp : DvPost p e w') : DivPost w X Y e w' := by
  obtain ⟨v1, v2, he, c1, c2, A, R, e1, e2, h1, h2, hb, S, q1, q2, q3, q4, q5⟩ := hp
  rw [h.ev, h.eu] at q1
  rw [h.ev] at q4
  obtain ⟨f1, f2⟩ := dv_last hY q1 q2 q4
  rw [h.w0] at h1 h2 hb
  refine ⟨v1, v2, he, by rw [← f1]; exact h1, by rw [← f2, ← q5]; exact h2, hb, ?_⟩
  intro g g1 g2
  rw [e1] at g1
  rw [e2] at g2
  simp only [Value.ownBlock, Option.some.injEq] at g1 g2
  exact h.ok.qu (by omega)
theorem dv_weaken {w : World} {X Y : Int} {p : DvP} (h : DvPF w X Y p) (hY : 0 < Y) {N : Nat} {J : Nat → Act → World → Prop} (hJ : ∀ l a' w', (∃ n', n' < N ∧ DvJ p l n' a' w') → J l a' w') {c : Code} {a₀ : Act} {w₀ : World}
    (hc : c.wp Tryz.prog (jumpsTo (fun l a' w' => ∃ n', n' < N ∧ DvJ p l n' a' w') (bodyPost Tryz.prog Tryz.f65 (DvPost p))) a₀ w₀) :
    c.wp Tryz.prog (jumpsTo J (bodyPost Tryz.prog Tryz.f65 (DivPost w X Y))) a₀ w₀ := by
  refine wp_mono hc ?_
  intro e a' w' hq
  cases e with
  | goto l => exact hJ l a' w' hq
  | normal => exact ⟨hq.1, hq.2.choose, hq.2.choose_spec.1, dv_post h hY hq.2.choose_spec.2⟩
  | ret => exact ⟨hq.1, hq.2.choose, hq.2.choose_spec.1, dv_post h hY hq.2.choose_spec.2⟩
  | exit id => exact hq
  | panic ch => exact ⟨hq.1, dv_post h hY hq.2⟩
  | outgrown => exact dv_post h hY hq
theorem dv_go {w : World} {X Y : Int} (hY : 0 < Y) (l n : Nat) (a₀ : Act) (w₀ : World) (h : ∃ p, DvPF w X Y p ∧ DvJ p l n a₀ w₀) :
    ∃ rest, findLabel dvScope l = some rest ∧ rest.wp Tryz.prog (jumpsTo (fun l' a' w' => ∃ n', n' < n ∧ ∃ p, DvPF w X Y p ∧ DvJ p l' n' a' w') (bodyPost Tryz.prog Tryz.f65 (DivPost w X Y))) a₀ w₀ := by
  obtain ⟨p, hp, hJ⟩ := h
  have hl : l ≤ 3 := by obtain ⟨_, _, _, _, _, _, hl, _⟩ := hJ; exact hl
  have key : ∀ {c : Code}, c.wp Tryz.prog (jumpsTo (fun l a' w' => ∃ n', n' < n ∧ DvJ p l n' a' w') (bodyPost Tryz.prog Tryz.f65 (DvPost p))) a₀ w₀ →
      (Code.seq .skip c).wp Tryz.prog (jumpsTo (fun l' a' w' => ∃ n', n' < n ∧ ∃ p, DvPF w X Y p ∧ DvJ p l' n' a' w') (bodyPost Tryz.prog Tryz.f65 (DivPost w X Y))) a₀ w₀ := fun hc => by
    have h2 := dv_weaken hp hY (J := fun l' a' w' => ∃ n', n' < n ∧ ∃ p, DvPF w X Y p ∧ DvJ p l' n' a' w') (fun l a' w' ⟨n', a, b⟩ => ⟨n', a, p, hp, b⟩) hc
    exact wp_seq (wp_skip h2)
  have h4 : l = 0 ∨ l = 1 ∨ l = 2 ∨ l = 3 := by omega
  rcases h4 with rfl | rfl | rfl | rfl
  · exact ⟨.seq .skip (dvTail 0), rfl, key (dv0 hp.ok hJ (Nat.le_refl _))⟩
  · exact ⟨.seq .skip (dvTail 1), rfl, key (dv1 hp.ok hJ (Nat.le_refl _))⟩
  · exact ⟨.seq .skip (dvTail 2), rfl, key (dv2 hp.ok hJ (Nat.le_refl _))⟩
  · exact ⟨.seq .skip (dvTail 3), rfl, key (dv3 hp.ok hJ (Nat.le_refl _))⟩

theorem Own.kept {k : IntKind} {w w' : World} {base g n cap m : Nat} {e : TypeId} {xs : List Int} (h : Own k w base e (.slice (some ⟨g, 0, none⟩) n cap) xs) (hb : Below m w w') (hg : g < m) : Own k w' base e (.slice (some ⟨g, 0, none⟩) n cap) xs := by
  obtain ⟨h1, h2⟩ := h
  refine ⟨h1, ?_⟩
  rcases h2 with h2 | ⟨g2, c, cur, hv, hb2, hc, r⟩
  · exact Or.inl h2
  · refine Or.inr ⟨g2, c, cur, hv, hb2, ?_, r⟩
    simp only [Value.slice.injEq, Option.some.injEq, Addr.mk.injEq] at hv
    rw [hb.block g2 (by omega)]; exact hc
set_option maxHeartbeats 8000000 in
set_option maxRecDepth 100000 in
theorem divide_any {a b : Option Addr} {J k c1 c2 : Nat} {X Y : Int} {w : World} (hr1 : RowC w a (J + (k + 2)) c1 (words X)) (hr2 : RowC w b (k + 2) c2 (words Y)) (hX : 0 ≤ X) (hY : 0 < Y) (hbig : J + k ≤ 3900000) :
    Calls Tryz.prog 65 #[.slice a (J + (k + 2)) c1, .slice b (k + 2) c2] w (DivPost w X Y) := by
  obtain ⟨i_u64, hi_u64, hz0_u64, hz1_u64, hz2_u64⟩ := info_parts info_u64
  have hsz : (Tryz.prog.info? 53).map (·.size) = some 1 := by rw [hi_u64]; simp [hz1_u64]
  have hXrow := hr1
  have hlx := hr1.1.1
  have hly := hr2.1.1
  have hXb := num_bd (Dg_words X)
  rw [num_words hX, hlx] at hXb
  have hYl := words_ge hY
  rw [hly] at hYl
  obtain ⟨s, hs63, hsl, hsb, hy1⟩ := dv_shift hY hly
  have hYv := num_words (Int.le_of_lt hY)
  have hXv := num_words hX
  have dY := Dg_words Y
  have dX := Dg_words X
  obtain ⟨yb, yo, rfl, hyb, hyc⟩ := hr2.1.at (by omega)
  have gy : U ((words Y).getD (k + 1) 0) := dY.getAnyB _
  have hlen := fun w => len_any gy w
  generalize hyy : (words Y).getD (k + 1) 0 = y1 at *
  have HS : Hid ((64 : Int) - lenW y1 = (s : Int)) := hsl
  have hlb := lenW_bd gy
  generalize lenW y1 = ln at *
  go_enter Tryz.func65, Tryz.ntmps65
  go_wp2_with fail
  refine wp_labels (fun l n a' w' => ∃ p, DvPF w X Y p ∧ DvJ p l n a' w') ?_ (dv_go hY)
  have e7 : (J : Int) + ((k : Int) + 2) - ((k : Int) + 2) = (J : Int) := by omega
  have hJ1 : J + 1 ≤ 12000000 := by omega
  go_wp2_with (at_make; refine wpList_make_full _ rfl _ _ 22 rfl w.heap.size 53 i_u64 (.int .u64 0) 1 Tryz.underlying22 hi_u64 hz0_u64 hz1_u64 .i64 .i64 _ _ (J + 1) rfl rfl (by omega) (by omega) (by rw [hz2_u64]; omega) (by unfold maxLen; omega) (Nat.le_refl _) ?_)
  intro w1 hmade hgr
  have hq1 := own_zeros hmade
  have hb1 : Below w.heap.size w w1 := (Below.refl _ _).grown hgr (Nat.le_refl _) (fun k hk => by cases hk)
  obtain ⟨gq, hgq⟩ : ∃ g, g = w.heap.size := ⟨_, rfl⟩
  have hq1' : Own .u64 w1 w.heap.size 53 (.slice (some ⟨gq, 0, none⟩) (J + 1) (J + 1)) (List.replicate (J + 1) 0) := by rw [hgq]; exact hq1
  rw [← hgq]
  have hqlt := hq1'.lt
  have hcy := (hb1.cell (p := ⟨yb, yo + (k + 1), none⟩) hyb).trans (hyc (k + 1) (by omega))
  rw [hyy] at hcy
  have hik : ((k : Int) + 2 - 1).toNat = k + 1 := by omega
  have hrx1 := hr1.later hb1
  have hnorm := norm_any (hr2.later hb1) dY (by omega)
  rw [hYv, hly] at hnorm
  clear hmade hgr hq1 hyc hr2 hr1 hgq
  go_wp2_with fail
  refine (hlen _).mono ?_
  rintro e w' ⟨rfl, rfl⟩
  go_wp2_with fail
  refine hnorm.mono ?_
  rintro e w2 ⟨gv, rfl, hv2, hb2⟩
  have hq2 := hq1'.later hb2
  have hrx2 := hrx1.later hb2
  have hvb := hv2.base_le
  have hvlt := hv2.lt
  have hB2 := hb1.trans (hb2.mono hb1.size)
  have hN3 : J + (k + 2) + 1 ≤ 12000000 := by omega
  clear hnorm hq1' hrx1 hb2 hcy hlen
  go_wp2_with (at_make; refine wpList_make_full _ rfl _ _ 22 rfl w2.heap.size 53 i_u64 (.int .u64 0) 1 Tryz.underlying22 hi_u64 hz0_u64 hz1_u64 .i64 .i64 _ _ (J + (k + 2) + 1) rfl rfl (by omega) (by omega) (by rw [hz2_u64]; omega) (by unfold maxLen; omega) (Nat.le_refl _) ?_)
  intro w3 hmade hgr
  have hu3 := own_zeros hmade
  have hb3 : Below w2.heap.size w2 w3 := (Below.refl _ _).grown hgr (Nat.le_refl _) (fun k hk => by cases hk)
  obtain ⟨gu, hgu⟩ : ∃ g, g = w2.heap.size := ⟨_, rfl⟩
  have hu3' : Own .u64 w3 gu 53 (.slice (some ⟨gu, 0, none⟩) (J + (k + 2) + 1) (J + (k + 2) + 1)) (List.replicate (J + (k + 2) + 1) 0) := by rw [hgu]; exact hu3
  rw [← hgu]
  rw [← hgu] at hvlt
  have hqlt2 : gq < gu := by have := hq2.lt; omega
  have hq3 := hq2.later hb3
  have hv3 := hv2.later hb3
  have hrx3 := hrx2.later hb3
  have hB3 := hB2.trans (hb3.mono hB2.size)
  have hqv : gq ≠ gv := by omega
  have hwgu : w.heap.size ≤ gu := by have := hB2.size; omega
  have hwgv : w.heap.size ≤ gv := by have := hb1.size; omega
  clear hmade hgr hu3 hq2 hv2 hrx2 hb3 hB2 hgu
  have hsv := shiftUp_in (o := 0) (m := k + 2) (dcap := k + 2) (r := s) hv3 hly.symm dY (by omega) (by omega) hs63
  go_wp2_with fail
  refine hsv.mono ?_
  rintro e w4 ⟨rfl, bv, vs, hv4, hvi, hi4⟩
  rw [← hly] at hvi
  obtain ⟨ev, wv, lv⟩ := up_all hvi (by rw [hYv, hly]; exact hsb)
  rw [hYv] at ev
  rw [hly] at lv
  have hq4 := hq3.inn hi4 hqv
  have hu4 := hu3'.inn hi4 (by omega)
  have hB4 := below_inn hB3 hi4 hwgv (Nat.le_refl _)
  have hrx4 : RowAt .u64 w4 a (J + (k + 2)) (words X) := hrx3.1.inn hi4 (fun h => by
    intro b' off' hab
    obtain ⟨b2, o2, e2, hl2, _⟩ := hXrow.1.at h
    rw [e2] at hab
    simp only [Option.some.injEq, Addr.mk.injEq] at hab
    omega)
  have hulen : J + (k + 2) + 1 = (List.replicate (J + (k + 2) + 1) (0 : Int)).length := by simp
  have HUL : Hid (J + (k + 2) + 1 = (List.replicate (J + (k + 2) + 1) (0 : Int)).length) := hulen
  have hcopy := fun (ops : Array Oper) (rest : List Oper) (oo : Oper) (act : Act) (Q : Exit → Act → World → Prop) hgd d s ho hd hs h => copy_own (P := Tryz.prog) (w := w4) (ops := ops) (rest := rest) (o := oo) (act := act) (Q := Q) hgd d s 22 22 ho 53 Tryz.underlying22 hsz gu 0 (J + (k + 2) + 1) (J + (k + 2) + 1) (J + (k + 2) + 1) (J + (k + 2) + 1) gu 53 _ (words X) hu4 HUL.out a (J + (k + 2)) c1 hrx4 hd hs (by omega) (by omega) h
  have HLX : Hid ((words X).length = J + (k + 2)) := hlx
  clear hsv hq3 hv3 hu3' hi4 hvi hrx3 hB3 hulen hlx hXrow
  go_wp2_with (refine hcopy _ _ _ _ _ rfl _ _ rfl rfl rfl ?_)
  intro w5 hu5 hb5
  have hq5 := hq4.kept hb5 hqlt2
  have hv5 := hv4.kept hb5 hvlt
  have hB5 := hB4.trans (hb5.mono hwgu)
  have hon := over_num (L := J + (k + 2) + 1) (o := 0) (ps := words X) (by rw [HLX.out]; omega)
  have how := over_ws (L := J + (k + 2) + 1) (o := 0) dX
  have hol : (over (List.replicate (J + (k + 2) + 1) (0 : Int)) (words X) 0).length = J + (k + 2) + 1 := by rw [over_length (by rw [HLX.out]; simp)]; simp
  rw [Int.pow_zero, Int.one_mul, hXv] at hon
  have hon1 := hon.1
  generalize over (List.replicate (J + (k + 2) + 1) (0 : Int)) (words X) 0 = xs0 at *
  have hsu := shiftUp_in (o := 0) (m := J + (k + 2) + 1) (dcap := J + (k + 2) + 1) (r := s) hu5 hol.symm how (by omega) (by omega) hs63
  clear hcopy hu4 hq4 hv4 hb5 hrx4 hon
  go_wp2_with fail
  refine hsu.mono ?_
  rintro e w6 ⟨rfl, bu, us, hu6, hui, hi6⟩
  rw [← hol] at hui
  have hps : X * 2 ^ s < 18446744073709551616 ^ (J + (k + 2) + 1) := by
    have p := p2pos s
    have q : (2 : Int) ^ s ≤ 18446744073709551616 := p2mono (show s ≤ 64 by omega)
    have a1 : X * 2 ^ s < 18446744073709551616 ^ (J + (k + 2)) * 2 ^ s := Int.mul_lt_mul_of_pos_right hXb p
    have a2 : (18446744073709551616 : Int) ^ (J + (k + 2)) * 2 ^ s ≤ 18446744073709551616 ^ (J + (k + 2)) * 18446744073709551616 := Int.mul_le_mul_of_nonneg_left q (Int.le_of_lt (wpow_pos _))
    rw [Int.pow_succ]; omega
  obtain ⟨eu, wu, lu⟩ := up_all hui (by rw [hon1, hol]; exact hps)
  rw [hon1] at eu
  rw [hol] at lu
  have hq6 := hq5.inn hi6 (by omega)
  have hv6 := hv5.inn hi6 (by omega)
  have hB6 := below_inn hB5 hi6 hwgu (Nat.le_refl _)
  have hYk : (18446744073709551616 : Int) ^ (k + 1) ≤ Y := hYl
  have hYp : Y ≤ Y * 2 ^ s := by
    have p := p2pos s
    have : Y * 1 ≤ Y * 2 ^ s := Int.mul_le_mul_of_nonneg_left (by omega) (Int.le_of_lt hY)
    omega
  have hI := dv_first (J := J) (k := k) (s := s) hXb hYk wv wu ev eu
  have hv1 := dv_top wv lv ev hYp hYk
  have hpf : DvPF w X Y ⟨w, gq, gv, gu, k, J, s, vs, X * 2 ^ s⟩ := ⟨⟨hqv, by show gq ≠ gu; omega, by show gv ≠ gu; omega, wv, lv, hv1, by show J + k ≤ 4000000; omega, hs63⟩, rfl, rfl, ev⟩
  have hu6' := (hu6.rebase hwgu)
  have hv6' := (hv6.rebase hwgv)
  have hL3 : J + (k + 2) + 1 = J + k + 3 := by omega
  rw [hL3] at hu6' lu
  have hM : DvM ⟨w, gq, gv, gu, k, J, s, vs, X * 2 ^ s⟩ us (List.replicate (J + 1) 0) w6 := ⟨hu6', hq6, hv6', hB6, lu, by simp⟩
  rw [hL3]
  clear hsu hu5 hq5 hv5 hB5 hui hi6 hu6 hv6 hu6' hv6' hq6 hB6 hps
  go_wp2_with fail
  go_step3
  rename_i hK
  refine hK _ _ (dv_weaken hpf hY (fun l a' w' ⟨n', _, h⟩ => ⟨n', _, hpf, h⟩) (dv0 (N := dvMeas 0 J 0) hpf.ok ⟨J, us, _, 0, 0, Nat.le_refl _, by omega, rfl, ⟨rfl, rfl, rfl, rfl, rfl, rfl, rfl, ?_, rfl, rfl⟩, hM, hI⟩ (Nat.le_refl _)))
  rfl
end Go.Proofs.YthjfjpdgjhidfabGreat
