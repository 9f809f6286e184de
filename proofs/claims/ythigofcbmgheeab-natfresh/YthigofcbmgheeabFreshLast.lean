/- plumblaw02: same as a quiet call; anew. -/
import Derived.Test.YthigofcbmgheeabFreshWhole
namespace Go.Proofs.Ythigofcbmgheeab
open Go.ChangeShapes Go.WideShapes Go.ChangeAt Go.RowKit
open Na Ar
set_option linter.unusedVariables false

theorem same_quiet {a b : Option Addr} {n m c1 c2 : Nat} {xs : List Int} {w : World} (hr1 : RowAt .u64 w a n xs) (hr2 : RowAt .u64 w b m xs) (hn : n * 8 ≤ 140737488351232) :
    Calls Try.prog 23 #[.slice a n c1, .slice b m c2] w fun e w' => e = .returned (.bool true) ∧ ∃ d, w' = w.drewN d := by
  have hl1 := hr1.1
  have hl2 := hr2.1
  have hnm : n = m := by omega
  subst hnm
  have HL : Hid (xs.length = n) := hl1
  have t : ((n : Int) != (n : Int)) = false := by simp
  clear hl1 hl2
  go_enter Try.func23, Try.ntmps23
  go_wp2
  go_loopw [5] (fun i wr => ∃ k d : Nat, k ≤ n ∧ i = .int .i64 k ∧ wr = w.drewN d) (fun i _ => n - (intOf i).toNat)
  case atStart => exact ⟨0, 0, Nat.zero_le _, rfl, rfl⟩
  case round =>
    obtain ⟨k, d, hk, rfl, rfl⟩ := hrel
    by_cases hlt : k < n
    · obtain ⟨b1, o1, rfl, hb1, hc1⟩ := hr1.at (by omega)
      obtain ⟨b2, o2, rfl, hb2, hc2⟩ := hr2.at (by omega)
      have hx1 := hc1 k hlt
      have hx2 := hc2 k hlt
      generalize xs.getD k 0 = x at *
      have t2 : (x != x) = false := by simp
      clear hc1 hc2 hr1 hr2
      go_wp2
      go_quiet (fail)
      go_wp2
      go_roundw
      case rel => exact ⟨k + 1, _, by omega, by go_num, rfl⟩
      case measure => simp [intOf]; omega
    · go_wp2
      go_ret
      exact ⟨rfl, d, rfl⟩
theorem drewN_more (w : World) (a b : Nat) : (w.drewN a).drewN b = w.drewN (a + b) := by
  simp [World.drewN, Nat.add_assoc]
theorem same_drew {a b : Option Addr} {n m c1 c2 : Nat} {xs : List Int} {w : World} (hr1 : RowAt .u64 w a n xs) (hr2 : RowAt .u64 w b m xs) (hn : n * 8 ≤ 140737488351232) (k : Nat) :
    Calls Try.prog 23 #[.slice a n c1, .slice b m c2] (w.drewN k) fun e w' => e = .returned (.bool true) ∧ ∃ d, w' = w.drewN (k + d) := by
  refine (same_quiet (c1 := c1) (c2 := c2) (hr1.later (below_drewN (Below.refl _ _) k)) (hr2.later (below_drewN (Below.refl _ _) k)) hn).mono ?_
  rintro e w' ⟨rfl, d, rfl⟩
  exact ⟨rfl, d, drewN_more _ _ _⟩
theorem drew_past {w w' : World} {a b : Nat} (h : ∃ d, w' = w.drewN (a + b + d)) : ∃ n, w' = w.drewN (a + n) := by
  obtain ⟨d, hd⟩ := h
  exact ⟨b + d, by rw [hd, Nat.add_assoc]⟩
theorem normal_same {a : Option Addr} {n c1 : Nat} {N : Int} {w : World} (hr1 : RowC w a n c1 (words N)) (hN : 0 ≤ N) (hl : n ≤ 10000) :
    Calls Try.prog 24 #[.slice a n c1] w fun e w' => e = .returned (.bool true) ∧ w' = w := by
  have l := hr1.1.1
  by_cases hz : N = 0
  · have hw := (words_nil hN).mpr hz
    have hn0 : n = 0 := by omega
    subst hn0
    clear hr1 l hw hz
    go_enter Try.func24, Try.ntmps24
    go_wp2
    go_ret
    exact ⟨rfl, rfl⟩
  · have hp : (words N).length ≠ 0 := fun h => hz ((words_nil hN).mp h)
    obtain ⟨j, rfl⟩ : ∃ j, n = j + 1 := ⟨n - 1, by omega⟩
    have hx := (bits_list (N := N) (L := j) (by omega) l).1
    obtain ⟨bb, off, rfl, hb, hc⟩ := hr1.1.at (by omega)
    have hcx := hc j (by omega)
    generalize (words N).getD j 0 = x at *
    have t1 : (x != 0) = true := by simp; omega
    have t2 : (((j : Int) + 1) == 0) = false := by simp; omega
    clear hr1 l hc hp hz hx hN
    go_enter Try.func24, Try.ntmps24
    go_wp2
    go_ret
    exact ⟨rfl, rfl⟩
theorem ans_len (A B : Int) (t : Nat) : (ansL A B t).length = 16 := rfl
theorem ans_words {A B : Int} {t : Nat} (hA : 0 ≤ A) (hB : 0 ≤ B) {j : Nat} (hj : j < 16) : ∃ N, 0 ≤ N ∧ (ansL A B t).getD j [] = words N := by
  have p := p2pos t
  have m0 : 0 ≤ A * 2 ^ t := Int.mul_nonneg hA (by omega)
  have d0 : 0 ≤ A / 2 ^ t := Int.ediv_nonneg hA (by omega)
  have e0 : 0 ≤ A / 2 ^ 0 := Int.ediv_nonneg hA (by omega)
  have f0 : 0 ≤ A * 2 ^ 0 := Int.mul_nonneg hA (by omega)
  have g0 : 0 ≤ A * A := Int.mul_nonneg hA hA
  have hc : j = 0 ∨ j = 1 ∨ j = 2 ∨ j = 3 ∨ j = 4 ∨ j = 5 ∨ j = 6 ∨ j = 7 ∨ j = 8 ∨ j = 9 ∨ j = 10 ∨ j = 11 ∨ j = 12 ∨ j = 13 ∨ j = 14 ∨ j = 15 := by omega
  rcases hc with rfl | rfl | rfl | rfl | rfl | rfl | rfl | rfl | rfl | rfl | rfl | rfl | rfl | rfl | rfl | rfl
  · exact ⟨A + B, by omega, rfl⟩
  · exact ⟨A + A, by omega, rfl⟩
  · exact ⟨A + 0, by omega, rfl⟩
  · exact ⟨A - 0, by omega, rfl⟩
  · exact ⟨A * 1, by omega, rfl⟩
  · exact ⟨A * A, g0, rfl⟩
  · exact ⟨A * 2 ^ 0, f0, rfl⟩
  · exact ⟨A / 2 ^ 0, e0, rfl⟩
  · exact ⟨A * 2 ^ t, m0, rfl⟩
  · exact ⟨A / 2 ^ t, d0, rfl⟩
  · exact ⟨A, hA, rfl⟩
  · exact ⟨A + (B + A), by omega, rfl⟩
  · exact ⟨A - A, by omega, rfl⟩
  · exact ⟨A, hA, rfl⟩
  · exact ⟨B, hB, rfl⟩
  · exact ⟨7, by omega, rfl⟩
theorem Own.rowJ {w : World} {base : Nat} {e : TypeId} {a : Option Addr} {n cap : Nat} {xs : List Int} (h : Own .u64 w base e (.slice a n cap) xs) (hn : n = xs.length) : RowC w a n cap xs := by
  subst hn
  obtain ⟨a', c', hv, r⟩ := h.readsC
  simp only [Value.slice.injEq] at hv
  obtain ⟨rfl, _, rfl⟩ := hv
  exact r
theorem cutSame {a : Option Addr} {n c1 : Nat} {xs : List Int} {w : World} (hr : RowC w a n c1 xs) (hx : Ws xs) (hn : n ≤ 60) :
    Calls Try.prog 6 #[.slice a n c1] w fun e w' => ∃ a' n' c', e = .returned (.slice a' n' c') ∧ RowC w' a' n' c' xs ∧ Below w.heap.size w w' := by
  have l := hr.1.1
  refine (cutQ (c1 := c1) hr.1 hx (Nat.le_trans hr.2.1 hr.2.2)).mono ?_
  rintro e w' ⟨a', n', c', l', rfl, r, m, lt, hl, he, hb⟩
  have e2 : l' = xs := by rw [he.out, List.take_of_length_le (by omega)]
  rw [e2] at r
  exact ⟨a', n', c', rfl, r, hb⟩
/-- of two answers of one question: list by list the same -/
theorem pair_at {w : World} {lo1 lo2 h1 h2 g1 g2 : Nat} {us vs : List Value} {A B : Int} {t q : Nat} (c1 : w.heap[g1]? = some (.cells us.toArray 22 (0, 0))) (c2 : w.heap[g2]? = some (.cells vs.toArray 22 (0, 0))) (o1 : OL w lo1 h1 us (ansL A B t)) (o2 : OL w lo2 h2 vs (ansL A B t)) (lA : Lt A 60) (lB : Lt B 60) (ht : t < 200) (hq : q < 16) :
    ∃ a n c b d, n ≤ 10000 ∧ w.cell? ⟨g1, q, none⟩ = some (.slice a n c) ∧ w.cell? ⟨g2, q, none⟩ = some (.slice b n d) ∧ RowC w a n c ((ansL A B t).getD q []) ∧ RowC w b n d ((ansL A B t).getD q []) := by
  obtain ⟨u, x1, x2, _⟩ := o1.2.1 q (by rw [ans_len]; exact hq)
  obtain ⟨v, y1, y2, _⟩ := o2.2.1 q (by rw [ans_len]; exact hq)
  obtain ⟨a, c, rfl, r1⟩ := x2.readsC
  obtain ⟨b, d, rfl, r2⟩ := y2.readsC
  refine ⟨a, _, c, b, d, ?_, cells_at c1 x1, cells_at c2 y1, r1, r2⟩
  have lAt : Lt (A * 2 ^ t) 70 := (lA.pow2 (t := t)).mono (by omega)
  have lA0 : Lt (A * 2 ^ 0) 70 := (lA.pow2 (t := 0)).mono (by omega)
  have d1 : Lt (A / 2 ^ t) 60 := lA.le (Int.ediv_nonneg lA.1 (Int.le_of_lt (p2pos t))) (Int.ediv_le_self _ lA.1)
  have d2 : Lt (A / 2 ^ 0) 60 := lA.le (Int.ediv_nonneg lA.1 (Int.le_of_lt (p2pos 0))) (Int.ediv_le_self _ lA.1)
  have s0 : Lt (A - 0) 60 := by rw [Int.sub_zero]; exact lA
  have sA : Lt (A - A) 60 := by rw [Int.sub_self]; exact lt_zero.mono (by omega)
  have l7 : Lt 7 1 := Lt.word (by omega)
  have hc : q = 0 ∨ q = 1 ∨ q = 2 ∨ q = 3 ∨ q = 4 ∨ q = 5 ∨ q = 6 ∨ q = 7 ∨ q = 8 ∨ q = 9 ∨ q = 10 ∨ q = 11 ∨ q = 12 ∨ q = 13 ∨ q = 14 ∨ q = 15 := by omega
  rcases hc with rfl | rfl | rfl | rfl | rfl | rfl | rfl | rfl | rfl | rfl | rfl | rfl | rfl | rfl | rfl | rfl
  · exact Nat.le_trans (lA.add lB).len (by omega)
  · exact Nat.le_trans (lA.add lA).len (by omega)
  · exact Nat.le_trans (lA.add lt_zero).len (by omega)
  · exact Nat.le_trans s0.len (by omega)
  · exact Nat.le_trans (lA.mul lt_one).len (by omega)
  · exact Nat.le_trans (lA.mul lA).len (by omega)
  · exact Nat.le_trans lA0.len (by omega)
  · exact Nat.le_trans d2.len (by omega)
  · exact Nat.le_trans lAt.len (by omega)
  · exact Nat.le_trans d1.len (by omega)
  · exact Nat.le_trans lA.len (by omega)
  · exact Nat.le_trans (lA.add (lB.add lA)).len (by omega)
  · exact Nat.le_trans sA.len (by omega)
  · exact Nat.le_trans lA.len (by omega)
  · exact Nat.le_trans lB.len (by omega)
  · exact Nat.le_trans l7.len (by omega)

set_option maxHeartbeats 3200000 in
set_option maxRecDepth 100000 in
theorem anew_any {gx nx cx base0 : Nat} {b : Option Addr} {m c2 : Nat} {xs ys : List Int} {t : Nat} {w : World} (hx : Own .u64 w base0 47 (.slice (some ⟨gx, 0, none⟩) nx cx) xs) (hnx : nx = xs.length) (hn60 : nx ≤ 60) (wx : Ws xs)
    (hy : Own .u64 w 0 47 (.slice b m c2) ys) (hmy : m = ys.length) (hm60 : m ≤ 60) (wy : Ws ys) (hne : Value.ownBlock (.slice b m c2) ≠ some gx) (ht : t < 200) (hb0 : base0 ≤ w.heap.size) :
    Calls Try.prog 27 #[.slice (some ⟨gx, 0, none⟩) nx cx, .slice b m c2, .int .i64 (t : Int)] w fun e w' => e = .returned (.bool true) ∧ Below base0 w w' := by
  have nY : Nm ys (num ys) := ⟨wy, rfl, by omega⟩
  have lY : Lt (num ys) 60 := nY.lt (by omega)
  have nX : Nm xs (num xs) := ⟨wx, rfl, by omega⟩
  have lX : Lt (num xs) 60 := nX.lt (by omega)
  have HN : Hid (nx = xs.length) := hnx
  have HM : Hid (m = ys.length) := hmy
  have HNE : Hid (Value.ownBlock (.slice b m c2) ≠ some gx) := hne
  have a1 := answers_any (hx.rowJ hnx) (hy.rowJ hmy) nX nY lX lY ht
  clear hnx hmy hne
  go_enter Try.func27, Try.ntmps27
  go_wp2_with fail
  refine a1.mono ?_
  rintro e w1 ⟨g1, vs1, rfl, _, _, hb1⟩
  have hx1 := hx.later hb1
  have hy1 := hy.later hb1
  have B1 : Below base0 w w1 := hb1.mono hb0
  have HL0 : Hid (xs.length = nx) := HN.out.symm
  clear a1 hx hy hb1
  go_wp2
  go_loopw [9] (fun i wr => ∃ (q : Nat) (us : List Int), i = .int .i64 q ∧ q ≤ nx ∧ Own .u64 wr base0 47 (.slice (some ⟨gx, 0, none⟩) nx cx) us ∧ Hid (us.length = nx) ∧ Ws us ∧ Own .u64 wr 0 47 (.slice b m c2) ys ∧ Below base0 w wr) (fun i _ => nx - (intOf i).toNat)
  case atStart => exact ⟨0, xs, rfl, by omega, hx1, HL0, wx, hy1, B1⟩
  case round =>
    obtain ⟨q, us, rfl, hq, hou, hul, hwu, hyu, hnx⟩ := hrel
    clear hx1 hy1 B1
    by_cases hlt : q < nx
    · have hlu : nx = us.length := hul.out.symm
      have hce := hou.cellAt hlu (j := q) (by omega)
      have hfz := hou.frozenAt hlu q
      have gu : U (us.getD q 0) := hwu.getAnyB q
      have hO := hou.set hlu q (bits .xor .u64 (us.getD q 0) 23130)
      have hW : Ws (us.set q (bits .xor .u64 (us.getD q 0) 23130)) := hwu.set _ (U_bits_xor gu (by unfold U; omega))
      have hgb := hou.base_le
      have hY := hyu.other (k := q) HNE.out (.int .u64 (bits .xor .u64 (us.getD q 0) 23130))
      have HL : Hid ((us.set q (bits .xor .u64 (us.getD q 0) 23130)).length = nx) := by show _ = _; rw [List.length_set]; exact hul.out
      generalize us.getD q 0 = u at *
      clear hou hlu hyu gu hwu
      go_wp2
      go_roundw
      case rel => exact ⟨q + 1, _, by go_num, by omega, hO, HL, hW, hY, hnx.setCell hgb _⟩
      case measure => simp [intOf]; omega
    · have hszr := hnx.size
      have nU : Nm us (num us) := ⟨hwu, rfl, by rw [hul.out]; omega⟩
      have lU : Lt (num us) 60 := nU.lt (by rw [hul.out]; exact hn60)
      have rU := hou.rowJ hul.out.symm
      have rY := hyu.rowJ HM.out
      have hyl : ys.length ≤ 60 := by rw [← HM.out]; exact hm60
      have hul60 : us.length ≤ 60 := by rw [hul.out]; exact hn60
      have HU60 : Hid (us.length ≤ 60) := hul60
      have HY60 : Hid (ys.length ≤ 60) := hyl
      clear hou hyu hul60 hyl
      go_wp2_with fail
      refine (answers_any rU rY nU nY lU lY ht).mono ?_
      rintro e w2 ⟨g2, vs2, rfl, hc2, hO2, hb2⟩
      have rU2 := rU.later hb2
      have rY2 := rY.later hb2
      have B2 := hnx.trans (hb2.mono (by omega : base0 ≤ wr.heap.size))
      clear rU rY hb2 hnx
      go_wp2_with fail
      refine (cutSame rU2 hwu hn60).mono ?_
      rintro e w3 ⟨a3, n3, c3, rfl, q3, hb3⟩
      have rU3 := rU2.later hb3
      have rY3 := rY2.later hb3
      have hO3 := hO2.later hb3
      have s2 := B2.size
      have hg2 : g2 < w2.heap.size := by
        by_cases hlt : g2 < w2.heap.size
        · exact hlt
        · simp [Array.getElem?_eq_none (Nat.le_of_not_lt hlt)] at hc2
      have hc3 : w3.heap[g2]? = some (.cells vs2.toArray 22 (0, 0)) := by rw [hb3.block g2 hg2]; exact hc2
      have B3 := B2.trans (hb3.mono (by omega : base0 ≤ w2.heap.size))
      have hs3 := hb3.size
      clear rU2 rY2 hO2 hc2 hb3 B2
      go_wp2_with fail
      refine (cutSame rY3 wy hm60).mono ?_
      rintro e w4 ⟨a4, n4, c4, rfl, q4, hb4⟩
      have rU4 := rU3.later hb4
      have rY4 := rY3.later hb4
      have hO4 := hO3.later hb4
      have q34 := q3.later hb4
      have hc4 : w4.heap[g2]? = some (.cells vs2.toArray 22 (0, 0)) := by rw [hb4.block g2 (by omega)]; exact hc3
      have B4 := B3.trans (hb4.mono (by omega : base0 ≤ w3.heap.size))
      have hs4 := hb4.size
      clear rU3 rY3 hO3 hc3 hb4 B3 q3
      go_wp2_with fail
      refine (answers_any q34 q4 nU nY lU lY ht).mono ?_
      rintro e w5 ⟨g5, vs5, rfl, hc5, hO5, hb5⟩
      have rU5 := rU4.later hb5
      have rY5 := rY4.later hb5
      have hO25 := hO4.later hb5
      have hc25 : w5.heap[g2]? = some (.cells vs2.toArray 22 (0, 0)) := by rw [hb5.block g2 (by omega)]; exact hc4
      have B5 := B4.trans (hb5.mono (by omega : base0 ≤ w4.heap.size))
      have hs5 := hb5.size
      have HP : Hid (∀ q, q < 16 → ∃ a n c b d, n ≤ 10000 ∧ w5.cell? ⟨g2, q, none⟩ = some (.slice a n c) ∧ w5.cell? ⟨g5, q, none⟩ = some (.slice b n d) ∧ RowC w5 a n c ((ansL (num us) (num ys) t).getD q []) ∧ RowC w5 b n d ((ansL (num us) (num ys) t).getD q [])) := fun q hq => pair_at hc25 hc5 hO25 hO5 lU lY ht hq
      clear rU4 rY4 hO4 hc4 hb5 B4 q34 q4 hO5 hO25 hc25 hc5
      go_wp2
      go_loopw [14] (fun i wz => ∃ q d : Nat, i = .int .i64 q ∧ q ≤ 16 ∧ wz = w5.drewN d) (fun i _ => 16 - (intOf i).toNat)
      case atStart => exact ⟨0, 0, rfl, by omega, rfl⟩
      case round =>
        obtain ⟨q, d, rfl, hq, rfl⟩ := hrel
        by_cases hlt2 : q < 16
        · obtain ⟨pa, pn, pc, pb, pd, hpn, z1, z2, r1, r2⟩ := HP.out q hlt2
          have hq16 : (q : Int) < 16 := by omega
          have hsq := fun (k : Nat) => same_drew (c1 := pc) (c2 := pd) (w := w5) (r1.1) (r2.1) (by omega) k
          clear r1 r2
          go_wp2
          go_quiet ((go_at_call 23; exact (hsq _).mono (fun _ _ h => ⟨h.1, drew_past h.2⟩)))
          go_wp2
          go_roundw
          case rel => exact ⟨q + 1, _, by go_num, by omega, rfl⟩
          case measure => simp [intOf]; omega
        · have bd := below_drewN (Below.refl w5.heap.size w5) d
          have rU6 := rU5.later bd
          have rY6 := rY5.later bd
          have B6 := B5.trans (bd.mono (by omega : base0 ≤ w5.heap.size))
          obtain ⟨w6, hw6⟩ : ∃ w6, w6 = w5.drewN d := ⟨_, rfl⟩
          rw [← hw6] at rU6 rY6 B6
          have hs6 : base0 ≤ w6.heap.size := by have := B6.size; omega
          go_wp2_with fail
          rw [← hw6]
          obtain ⟨KC, hKC⟩ : ∃ KC, ordN (num us) (num ys) = KC := ⟨_, rfl⟩
          obtain ⟨KB, hKB⟩ : ∃ KB, bitsN (num us) = KB := ⟨_, rfl⟩
          obtain ⟨KZ, hKZ⟩ : ∃ KZ, zerosN (num us) = KZ := ⟨_, rfl⟩
          have HKC : Hid (ordN (num us) (num ys) = KC) := hKC
          have HKB : Hid (bitsN (num us) = KB) := hKB
          have HKZ : Hid (zerosN (num us) = KZ) := hKZ
          have tC : (KC == KC) = true := by simp
          have tB : (KB == KB) = true := by simp
          have tZ : (KZ == KZ) = true := by simp
          clear hKC hKB hKZ hw6 bd B5 rU5 rY5 HP
          refine (cmpK rU6 rY6 nU nY HKC.out).mono ?_
          rintro e w7 ⟨rfl, hb7⟩
          have rU7 := rU6.later hb7
          have rY7 := rY6.later hb7
          have B7 := B6.trans (hb7.mono hs6)
          have hs7 := Nat.le_trans hs6 hb7.size
          clear rU6 rY6 hb7 B6 hs6
          go_wp2_with fail
          refine (cutSame rU7 hwu hn60).mono ?_
          rintro e w8 ⟨a8, n8, c8, rfl, q8, hb8⟩
          have rU8 := rU7.later hb8
          have rY8 := rY7.later hb8
          have B8 := B7.trans (hb8.mono hs7)
          have hs8 := Nat.le_trans hs7 hb8.size
          clear rU7 rY7 hb8 B7 hs7
          go_wp2_with fail
          refine (cutSame rY8 wy hm60).mono ?_
          rintro e w9 ⟨a9, n9, c9, rfl, q9, hb9⟩
          have rU9 := rU8.later hb9
          have q89 := q8.later hb9
          have B9 := B8.trans (hb9.mono hs8)
          have hs9 := Nat.le_trans hs8 hb9.size
          clear rU8 rY8 hb9 B8 hs8 q8
          go_wp2_with fail
          refine (cmpK q89 q9 nU nY HKC.out).mono ?_
          rintro e w10 ⟨rfl, hb10⟩
          have rU10 := rU9.later hb10
          have B10 := B9.trans (hb10.mono hs9)
          have hs10 := Nat.le_trans hs9 hb10.size
          clear rU9 q89 q9 hb10 B9 hs9
          go_wp2_with fail
          have bi := natBits_any rU10 hwu (by omega)
          rw [HKB.out] at bi
          refine bi.mono ?_
          clear bi
          rintro e w11 ⟨rfl, hb11⟩
          have rU11 := rU10.later hb11
          have B11 := B10.trans (hb11.mono hs10)
          have hs11 := Nat.le_trans hs10 hb11.size
          clear rU10 hb11 B10 hs10
          go_wp2_with fail
          refine (cutSame rU11 hwu hn60).mono ?_
          rintro e w12 ⟨a12, n12, c12, rfl, q12, hb12⟩
          have rU12 := rU11.later hb12
          have B12 := B11.trans (hb12.mono hs11)
          have hs12 := Nat.le_trans hs11 hb12.size
          clear rU11 hb12 B11 hs11
          go_wp2_with fail
          have bi := natBits_any q12 hwu (by have := q12.1.1; have := HU60.out; omega)
          rw [HKB.out] at bi
          refine bi.mono ?_
          clear bi
          rintro e w13 ⟨rfl, hb13⟩
          have rU13 := rU12.later hb13
          have B13 := B12.trans (hb13.mono hs12)
          have hs13 := Nat.le_trans hs12 hb13.size
          clear rU12 hb13 B12 hs12 q12
          go_wp2_with fail
          have bi := natZeros_any rU13 hwu (by omega)
          rw [HKZ.out] at bi
          refine bi.mono ?_
          clear bi
          rintro e w14 ⟨rfl, hb14⟩
          have rU14 := rU13.later hb14
          have B14 := B13.trans (hb14.mono hs13)
          have hs14 := Nat.le_trans hs13 hb14.size
          clear rU13 hb14 B13 hs13
          go_wp2_with fail
          refine (cutSame rU14 hwu hn60).mono ?_
          rintro e w15 ⟨a15, n15, c15, rfl, q15, hb15⟩
          have B15 := B14.trans (hb15.mono hs14)
          have hs15 := Nat.le_trans hs14 hb15.size
          clear rU14 hb15 B14 hs14
          go_wp2_with fail
          have bi := natZeros_any q15 hwu (by have := q15.1.1; have := HU60.out; omega)
          rw [HKZ.out] at bi
          refine bi.mono ?_
          clear bi
          rintro e w16 ⟨rfl, hb16⟩
          have B16 := B15.trans (hb16.mono hs15)
          clear hb16 B15 hs15 q15
          go_wp2
          go_ret
          exact ⟨rfl, B16⟩
end Go.Proofs.Ythigofcbmgheeab
