/- NearQuotients. -/
import Derived.Test.YtildkknpbpdnnaaDoorNearRefC
import Derived.Test.YtildkknpbpdnnaaDoorNearF
import Derived.Test.YtildkknpbpdnnaaDoorBaseH
import Derived.Test.YtildkknpbpdnnaaDoorRatA
namespace Go.Proofs.YtildkknpbpdnnaaDoor
open Go.ChangeShapes Go.WideShapes Go.ChangeAt Go.RowKit
open Na Ar
set_option linter.unusedVariables false
/-- what Quotient answers, in any mode and in none -/
def QAns (N D : Int) (neg : Bool) (k v E : Int) : Prop := (k < 0 ∨ 4 < k → v = 0 ∧ E = 71) ∧ (0 ≤ k → k ≤ 4 → D = 0 → v = 0 ∧ E = 50) ∧ (0 ≤ k → k ≤ 4 → 0 < D → RoundIs (scA N 0) (scB D 0) false neg k v E)
theorem qAns_uniq {N D k v E v' E' : Int} {neg : Bool} (h0 : 0 ≤ D) (h : QAns N D neg k v E) (h' : QAns N D neg k v' E') : v = v' ∧ E = E' := by
  by_cases hk : 0 ≤ k ∧ k ≤ 4
  · by_cases hD : 0 < D
    · exact roundIs_uniq (scB_pos hD) (h.2.2 hk.1 hk.2 hD) (h'.2.2 hk.1 hk.2 hD)
    · obtain ⟨a1, a2⟩ := h.2.1 hk.1 hk.2 (by omega)
      obtain ⟨b1, b2⟩ := h'.2.1 hk.1 hk.2 (by omega)
      omega
  · obtain ⟨a1, a2⟩ := h.1 (by omega)
    obtain ⟨b1, b2⟩ := h'.1 (by omega)
    omega
section
variable {w : World} {a b : Option Addr} {n m c1 c2 : Nat} {xs ys : List Int} {neg : Bool}
theorem near_q (hr1 : RowC w a n c1 xs) (hr2 : RowC w b m c2 ys) (hx : Ws xs) (hy : Ws ys) (hn : n ≤ 1100000) (hm : m ≤ 1100000) (hG : GrVar w) (k : Int) :
    Calls Tryd.prog 17 #[.bool neg, .slice a n c1, .slice b m c2, .int .i64 k] w fun e w' => ∃ v E, e = .returned (.tuple #[.int .u64 v, .int .i64 E]) ∧ QAns (num xs) (num ys) neg k v E ∧ Below w.heap.size w w' := by
  have p := num_nonneg hy
  by_cases hk : 0 ≤ k ∧ k ≤ 4
  · by_cases hD : 0 < num ys
    · refine (quotient_any hr1 hr2 hx hy (by omega) (by omega) hk.1 hk.2 hD hG).mono ?_
      rintro e w' ⟨v, E, rfl, h, _, hb⟩
      exact ⟨v, E, rfl, ⟨fun h => by omega, fun _ _ h => by omega, fun _ _ _ => h⟩, hb⟩
    · refine (quotient_zero hr1 hr2 hx hy (by omega) (by omega) hk.1 hk.2 (by omega)).mono ?_
      rintro e w' ⟨rfl, hb⟩
      exact ⟨0, 50, rfl, ⟨fun h => by omega, fun _ _ _ => ⟨rfl, rfl⟩, fun _ _ h => absurd h hD⟩, hb⟩
  · refine (quotient_bad hr1 hr2 hx hy (by omega) (by omega) (mode := k) (by omega)).mono ?_
    rintro e w' ⟨rfl, hb⟩
    exact ⟨0, 71, rfl, ⟨fun _ => ⟨rfl, rfl⟩, fun h0 h1 => by omega, fun h0 h1 => by omega⟩, hb⟩
theorem ref_q (hr1 : RowC w a n c1 xs) (hr2 : RowC w b m c2 ys) (hx : Ws xs) (hy : Ws ys) (hn : n ≤ 1100000) (hm : m ≤ 1100000) (k : Int) :
    Calls Tryd.prog 20 #[.bool neg, .slice a n c1, .slice b m c2, .int .i64 k] w fun e w' => ∃ v E, e = .returned (.tuple #[.int .u64 v, .int .i64 E]) ∧ QAns (num xs) (num ys) neg k v E ∧ Below w.heap.size w w' := by
  have p := num_nonneg hy
  by_cases hk : 0 ≤ k ∧ k ≤ 4
  · by_cases hD : 0 < num ys
    · refine (r7Quotient_any hr1 hr2 hx hy hn hm hk.1 hk.2 hD).mono ?_
      rintro e w' ⟨v, E, rfl, h, _, hb⟩
      exact ⟨v, E, rfl, ⟨fun h => by omega, fun _ _ h => by omega, fun _ _ _ => h⟩, hb⟩
    · refine (r7Quotient_zero hr2 hy hm hk.1 hk.2 (by omega)).mono ?_
      rintro e w' ⟨rfl, hb⟩
      exact ⟨0, 50, rfl, ⟨fun h => by omega, fun _ _ _ => ⟨rfl, rfl⟩, fun _ _ h => absurd h hD⟩, hb⟩
  · refine (r7Quotient_bad (by omega)).mono ?_
    rintro e w' ⟨rfl, hb⟩
    exact ⟨0, 71, rfl, ⟨fun _ => ⟨rfl, rfl⟩, fun h0 h1 => by omega, fun h0 h1 => by omega⟩, hb⟩
end
theorem grow_fresh {w3 w8 : World} {o : Obj} {n c : Nat} (h : (w3.alloc o).grownBy w8 (Value.ownBlock (.slice (some ⟨w3.heap.size, 0, none⟩) n c))) : Below w3.heap.size w3 w8 :=
  ((Below.refl w3.heap.size w3).alloc (Nat.le_refl _) o).grown h (by simp) (fun k hk => by
    have e : some w3.heap.size = some k := hk
    simp only [Option.some.injEq] at e
    exact Nat.le_of_eq e)
theorem grow_drew {w3 w8 : World} {o : Obj} {n c : Nat} (h : ((w3.alloc o).drew).grownBy w8 (Value.ownBlock (.slice (some ⟨w3.heap.size, 0, none⟩) n c))) : Below w3.heap.size w3 w8 := by
  have hd : Below w3.heap.size w3 ((w3.alloc o).drew) := below_drewN ((Below.refl w3.heap.size w3).alloc (Nat.le_refl _) o) 1
  exact hd.grown h hd.size (fun k hk => by
    have e : some w3.heap.size = some k := hk
    simp only [Option.some.injEq] at e
    exact Nat.le_of_eq e)
theorem addr_block (x j : Nat) : ((⟨x, 0, none⟩ : Addr).add j).block = x := by cases j <;> rfl
theorem shape_q {w : World} {base : Nat} {e : TypeId} {v : Value} {xs : List Int} (h : Own .u64 w base e v xs) (hp : 0 < xs.length) : ∃ g c, v = .slice (some ⟨g, 0, none⟩) xs.length c ∧ base ≤ g := by
  rcases h.2 with ⟨_, h0⟩ | ⟨g, c, cur, hv, hb, _⟩
  · omega
  · exact ⟨g, c, hv, hb⟩
theorem off_q {w : World} {a : Option Addr} {n c g : Nat} {xs : List Int} (h : RowC w a n c xs) (hg : w.heap.size ≤ g) : 0 < n → Off a g := fun hn b off e => by
  obtain ⟨b', o', e', hb, _⟩ := h.1.at hn
  rw [e'] at e
  simp only [Option.some.injEq, Addr.mk.injEq] at e
  omega
theorem gr_inn {w w' : World} {g : Nat} (h : GrVar w) (hi : In g (g + 1) w w') (hne : ¬ 0 = g) : GrVar w' := by
  have hl := h.lt
  have hbk := hi.block 0 hl (by omega)
  have hc : ∀ i, w'.cell? ⟨0, i, none⟩ = w.cell? ⟨0, i, none⟩ := fun i => by unfold World.cell?; simp only [hbk]
  unfold GrVar at *
  simp only [hc]
  exact h
set_option maxHeartbeats 6400000 in
set_option maxRecDepth 100000 in
theorem quotients_walk {w : World} {s : Bool} {a b : Option Addr} {n m c d : Nat} {xs ys : List Int} {mode : Int} (ha : RowC w a n c xs) (hb : RowC w b m d ys) (hx : Ws xs) (hy : Ws ys) (sa : n ≤ 1048576) (sb : m ≤ 1048576) (Gm : -9223372036854775808 ≤ mode ∧ mode ≤ 9223372036854775807) (hG : GrVar w) :
    Calls Tryd.prog 6 #[.agg #[.bool s, .slice a n c, .slice b m d], .int .i64 mode] w fun e w' => e = .returned (.bool true) ∧ Below w.heap.size w w' := by
  obtain ⟨i_u64, hi_u64, hz0_u64, hz1_u64, hz2_u64⟩ := info_parts info_u64
  have t0 := st_new w (.bool s) (.slice a n c) (.slice b m d) 43
  have hb0 := alloc_below (w := w) (.cells #[.bool s, .slice a n c, .slice b m d] 43)
  obtain ⟨w0, hw0⟩ : ∃ w0, w0 = w.alloc (.cells #[.bool s, .slice a n c, .slice b m d] 43) := ⟨_, rfl⟩
  rw [← hw0] at t0 hb0
  have e0 : w.heap.size + 1 ≤ w0.heap.size := by rw [hw0]; simp
  have ra := ha.later hb0
  have rb := hb.later hb0
  have oA := fun g' (h : w.heap.size ≤ g') => off_q ha h
  have oB := fun g' (h : w.heap.size ≤ g') => off_q hb h
  have G0 := hG.later hb0
  have hG0 := hG.lt
  have hlx := ha.1.1
  have hly := hb.1.1
  clear ha hb hG
  obtain ⟨g, hg⟩ : ∃ g, g = w.heap.size := ⟨_, rfl⟩
  have HG : Hid (w.heap.size = g) := hg.symm
  rw [← hg] at t0 e0 oA oB hG0
  have HB0 : Below w.heap.size w w0 := hb0
  obtain ⟨p0, p1, p2⟩ := t0.cells
  have hle := lentAll_any (cap := c) ra.1 (by omega)
  go_enter Tryd.func6, Tryd.ntmps6
  go_wp2_with fail
  rw [← hw0, ← hg]
  clear hw0 hg hb0
  refine hle.mono ?_
  rintro e w1 ⟨v, rfl, ho1, hb1⟩
  have hvl : (xs ++ [7777, 8888]).length = n + 2 := by simp [hlx]
  obtain ⟨ga, ca, rfl, hga⟩ := shape_q ho1 (by rw [hvl]; omega)
  rw [hvl] at ho1 ⊢
  have lga := ho1.lt
  have t1 := t0.later hb1
  have rb1 := rb.later hb1
  have hle2 := lentAll_any (cap := d) rb1.1 (by omega)
  clear hle p0 p1 p2
  obtain ⟨p0, p1, p2⟩ := t1.cells
  go_wp2_with fail
  refine hle2.mono ?_
  rintro e w2 ⟨v, rfl, ho2, hb2⟩
  have hvl2 : (ys ++ [7777, 8888]).length = m + 2 := by simp [hly]
  obtain ⟨gb, cb, rfl, hgb⟩ := shape_q ho2 (by rw [hvl2]; omega)
  rw [hvl2] at ho2 ⊢
  have b02 := hb1.trans (hb2.mono hb1.size)
  have t2 := t0.later b02
  have ra2 := ra.later b02
  have rb2 := rb.later b02
  have G2 := G0.later b02
  have HB2 := HB0.trans (b02.mono HB0.size)
  have oa2 := ho1.later hb2
  have ob2 := ho2
  have A2 := oa2.rowC hvl.symm
  have B2 := ob2.rowC hvl2.symm
  have eca : (xs ++ [7777, 8888]).take n = xs := by rw [← hlx]; exact List.take_left
  have ecb : (ys ++ [7777, 8888]).take m = ys := by rw [← hly]; exact List.take_left
  have cA2 := A2.cut (m := n) (by omega)
  have cB2 := B2.cut (m := m) (by omega)
  rw [eca] at cA2
  rw [ecb] at cB2
  have ka := A2.2.1
  have ka2 := A2.2.2
  have kb := B2.2.1
  have kb2 := B2.2.2
  unfold maxLen at ka2 kb2
  have sb0 : (0 : Int) ≤ (n : Int) := by omega
  have sb1 : (n : Int) ≤ (ca : Int) := by omega
  have sb2 : (0 : Int) ≤ (m : Int) := by omega
  have sb3 : (m : Int) ≤ (cb : Int) := by omega
  have hs1 := hb1.size
  have hs2 := hb2.size
  clear hle2 p0 p1 p2 hb1 hb2 b02 t0 t1 ra rb rb1 G0 HB0 ho1 ho2 eca ecb
  obtain ⟨p0, p1, p2⟩ := t2.cells
  have pY := num_nonneg hy
  go_wp2
  go_loopw [7] (fun mv wr => ∃ j : Nat, mv = .int .i64 j ∧ j ≤ 6 ∧ Below w2.heap.size w2 wr) (fun mv _ => 6 - (intOf mv).toNat)
  case atStart => exact ⟨0, rfl, by omega, Below.refl _ _⟩
  case round =>
    obtain ⟨j, rfl, hj, hnx⟩ := hrel
    clear p0 p1 p2
    have t3 := t2.later hnx
    have ra3 := ra2.later hnx
    have rb3 := rb2.later hnx
    have G3 := G2.later hnx
    have A3 := A2.later hnx
    have B3 := B2.later hnx
    have cA3 := cA2.later hnx
    have cB3 := cB2.later hnx
    have oa3 := oa2.later hnx
    have HB3 := HB2.trans (hnx.mono HB2.size)
    obtain ⟨p0, p1, p2⟩ := t3.cells
    by_cases hj6 : j ≤ 5
    · obtain ⟨K, hK⟩ : ∃ K, K = if j = 5 then mode else (j : Int) := ⟨_, rfl⟩
      have hS : ∀ w3, Below wr.heap.size wr w3 → Calls Tryd.prog 17 #[.bool s, .slice (some ⟨ga, 0, none⟩) n ca, .slice (some ⟨gb, 0, none⟩) m cb, .int .i64 K] w3 fun e w' => ∃ v E, e = .returned (.tuple #[.int .u64 v, .int .i64 E]) ∧ QAns (num xs) (num ys) s K v E ∧ Below wr.heap.size wr w' := fun w3 h => by
        refine (near_q (neg := s) (cA3.later h) (cB3.later h) hx hy (by omega) (by omega) (G3.later h) K).mono ?_
        rintro e w' ⟨v, E, rfl, A, b⟩
        exact ⟨v, E, rfl, A, h.trans (b.mono h.size)⟩
      have hF : ∀ w3, Below wr.heap.size wr w3 → Calls Tryd.prog 20 #[.bool s, .slice a n c, .slice b m d, .int .i64 K] w3 fun e w' => ∃ v E, e = .returned (.tuple #[.int .u64 v, .int .i64 E]) ∧ QAns (num xs) (num ys) s K v E ∧ Below wr.heap.size wr w' := fun w3 h => by
        refine (ref_q (neg := s) (ra3.later h) (rb3.later h) hx hy (by omega) (by omega) K).mono ?_
        rintro e w' ⟨v, E, rfl, A, b⟩
        exact ⟨v, E, rfl, A, h.trans (b.mono h.size)⟩
      generalize num xs = N at hS hF
      generalize num ys = D at hS hF pY
      have hsplit : ((j : Int) == 5) = true ∧ K = mode ∨ ((j : Int) == 5) = false ∧ K = (j : Int) := by
        by_cases h5 : j = 5
        · left; rw [if_pos h5] at hK; exact ⟨by simp [h5], hK⟩
        · right; rw [if_neg h5] at hK; exact ⟨by simp; omega, hK⟩
      clear hK
      rcases hsplit with ⟨t5, rfl⟩ | ⟨t5, rfl⟩
      all_goals
        go_wp2
        go_region_held3 (fun w' => w'.cell? ⟨g, 0, none⟩ = some (.bool s) ∧ w'.cell? ⟨g, 1, none⟩ = some (.slice a n c) ∧ w'.cell? ⟨g, 2, none⟩ = some (.slice b m d)) (go_keep) ((go_at_call 17; refine (hS _ (by first | exact Below.refl _ _ | exact below_drewN (Below.refl _ _) _)).mono ?_; rintro e w3 ⟨v1, E1, rfl, An1, hB3⟩; obtain ⟨p0, p1, p2⟩ := (t3.later hB3).cells))
        clear hS
        go_wp2_with fail
        refine (hF w3 hB3).mono ?_
        rintro e w4 ⟨v2, E2, rfl, An2, hB4⟩
        obtain ⟨rfl, rfl⟩ := qAns_uniq pY An1 An2
        clear hF An1 An2 hB3 p0 p1 p2
        obtain ⟨p0, p1, p2⟩ := (t3.later hB4).cells
        have hk := kept_any (A3.later hB4) (ra3.later hB4) (by omega)
        have hb := hnx.trans (hB4.mono hnx.size)
        go_wp2_with (go_at_call 11; refine (num7_same _ _).mono ?_; rintro e wz ⟨rfl, rfl⟩)
        refine hk.mono ?_
        rintro e w5 ⟨rfl, hb5⟩
        have hB5 := hB4.trans (hb5.mono hB4.size)
        clear hk p0 p1 p2
        obtain ⟨p0, p1, p2⟩ := (t3.later hB5).cells
        have hk2 := kept_any (B3.later hB5) (rb3.later hB5) (by omega)
        go_wp2_with fail
        refine hk2.mono ?_
        rintro e w6 ⟨rfl, hb6⟩
        have hb9 := hb.trans ((hb5.trans (hb6.mono hb5.size)).mono hb.size)
        clear hk2 p0 p1 p2 hb5 hb6 hb hB4 hB5 A3 B3 ra3 rb3 cA3 cB3 G3 t3 hnx HB3 oa3
        go_wp2
        go_roundw
        case rel => exact ⟨j + 1, by go_num, by omega, hb9⟩
        case measure => simp [intOf]; omega
    · clear A3 cA3
      obtain ⟨w5, hw5⟩ : ∃ w5, w5 = wr := ⟨_, rfl⟩
      subst hw5
      go_wp2
      go_loopw [13] (fun mv wr => ∃ (i : Nat) (us : List Int), mv = .int .i64 i ∧ i ≤ n ∧ Own .u64 wr w0.heap.size 26 (.slice (some ⟨ga, 0, none⟩) (n + 2) ca) us ∧ us.length = n + 2 ∧ Ws us ∧ In ga (ga + 1) w5 wr) (fun mv _ => n - (intOf mv).toNat)
      case atStart => exact ⟨0, _, rfl, by omega, oa3, hvl, hx.append ((Dg.one (by omega)).append (Dg.one (by omega))), In.refl _ _ _⟩
      case round =>
        obtain ⟨i, us, rfl, hi, hou, hul, hus, hin⟩ := hrel
        clear p0 p1 p2
        have t4 := t3.inn hin (by omega)
        obtain ⟨p0, p1, p2⟩ := t4.cells
        by_cases hlt : i < n
        · have hul' : n + 2 = us.length := hul.symm
          have hce := hou.cellAt hul' (j := i) (by omega)
          have hfz := hou.frozenAt hul' i
          have gu : U (us.getD i 0) := hus.getAnyB i
          have hO := fun y => hou.set hul' i y
          have hW := fun y (hy : U y) => hus.set i hy
          generalize us.getD i 0 = u at *
          clear hul'
          have hE : U (bits .xor .u64 (if IntKind.u64.signed = true then -1 else IntKind.u64.max) u) := U_bits_xor (a := 18446744073709551615) (b := u) (by unfold U; omega) gu
          go_wp2
          go_roundw
          case rel => exact ⟨i + 1, us.set i _, by go_num, by omega, hO _, by rw [List.length_set]; exact hul, hW _ hE, hin.set1 _ _⟩
          case measure => simp [intOf]; omega
        · have A4 := (hou.rowC hul.symm).cut (m := n) (by omega)
          have wA4 := hus.take n
          have offb : 0 < m → Off (some ⟨gb, 0, none⟩) ga := fun _ b off e' => by
            simp only [Option.some.injEq, Addr.mk.injEq] at e'
            omega
          have cB4 := cB3.inn hin offb
          have rb4 := rb3.inn hin (oB ga (by omega))
          have G4 := gr_inn G3 hin (by omega)
          have HB4 : Below w.heap.size w wr := below_inn HB3 hin (by rw [HG.out]; omega) (Nat.le_refl _)
          have hA4l := A4.1.1
          generalize us.take n = vs at *
          have hS : ∀ w3, Below wr.heap.size wr w3 → Calls Tryd.prog 17 #[.bool s, .slice (some ⟨ga, 0, none⟩) n ca, .slice (some ⟨gb, 0, none⟩) m cb, .int .i64 0] w3 fun e w' => ∃ v E, e = .returned (.tuple #[.int .u64 v, .int .i64 E]) ∧ QAns (num vs) (num ys) s 0 v E ∧ Below wr.heap.size wr w' := fun w3 h => by
            refine (near_q (neg := s) (A4.later h) (cB4.later h) wA4 hy (by omega) (by omega) (G4.later h) 0).mono ?_
            rintro e w' ⟨v, E, rfl, A, b⟩
            exact ⟨v, E, rfl, A, h.trans (b.mono h.size)⟩
          clear hou hus hul hin G3 t3 ra3 rb3 B3 cB3 HB3 hnx oa3 oa2 ob2 A2 B2 cA2 cB2 t2 ra2 rb2 G2 HB2 oA oB offb hvl hvl2
          go_wp2
          go_region_held3 (fun w' => w'.cell? ⟨g, 0, none⟩ = some (.bool s) ∧ w'.cell? ⟨g, 1, none⟩ = some (.slice a n c) ∧ w'.cell? ⟨g, 2, none⟩ = some (.slice b m d)) (go_keep) ((go_at_call 17; refine (hS _ (by first | exact Below.refl _ _ | exact below_drewN (Below.refl _ _) _)).mono ?_; rintro e w3 ⟨v1, E1, rfl, An1, hB3⟩; obtain ⟨p0, p1, p2⟩ := (t4.later hB3).cells))
          have t5 := t4.later hB3
          have A5 := A4.later hB3
          have rb5 := rb4.later hB3
          have HB5 := HB4.trans (hB3.mono HB4.size)
          clear hS t4 A4 rb4 cB4 G4 HB4 hB3
          have hA5l := A5.1.1
          have lga5 : 0 < n → ga < w3.heap.size := fun hn => by
            obtain ⟨b', o', e', hb', _⟩ := A5.1.at hn
            simp only [Option.some.injEq, Addr.mk.injEq] at e'
            omega
          have hnews : ∀ j u, (vs.map (Value.int .u64))[j]? = some u → w3.cell? ((⟨ga, 0, none⟩ : Addr).add j) = some u := by
            by_cases hn : 0 < n
            · obtain ⟨b', o', e', hb', hc'⟩ := A5.1.at hn
              simp only [Option.some.injEq, Addr.mk.injEq] at e'
              obtain ⟨rfl, rfl, _⟩ := e'
              exact row_news hA5l hc'
            · intro j u hju
              have : vs = [] := List.eq_nil_of_length_eq_zero (by omega)
              rw [this] at hju
              simp at hju
          have hnews' : ∀ j u, (vs.map (Value.int .u64))[j]? = some u → (w3.alloc (.cells #[] 26)).cell? ((⟨ga, 0, none⟩ : Addr).add j) = some u := fun j u hju => by
            have hn : 0 < n := by
              apply Decidable.byContradiction
              intro hc
              have : vs = [] := List.eq_nil_of_length_eq_zero (by omega)
              rw [this] at hju
              simp at hju
            exact ((alloc_below (w := w3) (.cells #[] 26)).cell (p := (⟨ga, 0, none⟩ : Addr).add j) (by rw [addr_block]; exact lga5 hn)).trans (hnews j u hju)
          have hones := ints_one (xs := vs)
          have hnl : (vs.map (Value.int .u64)).length = n * 1 := by simp [hA5l]
          have ltg := t5.lt
          have ng1 : ¬ g = w3.heap.size := by omega
          have ng2 : ¬ w3.heap.size = g := by omega
          have hkeep := fun w9 (h : Below w3.heap.size w3 w9) => (t5.later h).cells
          have hR : ∀ w9 (qa : Option Addr) (qc : Nat), Below w3.heap.size w3 w9 → RowC w9 qa n qc vs → Calls Tryd.prog 20 #[.bool s, .slice qa n qc, .slice b m d, .int .i64 0] w9 fun e w' => ∃ v E, e = .returned (.tuple #[.int .u64 v, .int .i64 E]) ∧ QAns (num vs) (num ys) s 0 v E ∧ Below w3.heap.size w3 w' := fun w9 qa qc h hr => by
            refine (ref_q (neg := s) hr (rb5.later h) wA4 hy (by omega) (by omega) 0).mono ?_
            rintro e w' ⟨v, E, rfl, A, b⟩
            exact ⟨v, E, rfl, A, h.trans (b.mono h.size)⟩
          go_wp2
          go_region_held3 (fun w' => w'.cell? ⟨g, 0, none⟩ = some (.bool s) ∧ w'.cell? ⟨g, 1, none⟩ = some (.slice a n c) ∧ w'.cell? ⟨g, 2, none⟩ = some (.slice b m d)) (go_keep) (first | (refine step_append_own (by rfl) (.tmp 117) (.tmp 122) 22 (by rfl) w3.heap.size 26 i_u64 (.int .u64 0) 1 8 Tryd.underlying22 hi_u64 hz0_u64 hz1_u64 hz2_u64 rfl (by decide) (.slice (some ⟨w3.heap.size, 0, none⟩) 0 0) 0 [] (by rfl) (World.ownsRow_made w3 #[] 0 (Nat.le_refl _) (Nat.zero_le _) rfl) ⟨ga, 0, none⟩ n ca (vs.map (Value.int .u64)) (by rfl) hnl hnews' hones (by unfold maxLen; omega) (by omega) (by simp) ?_; intro v' w8 hown' hgrow; have hO8 : Own .u64 w8 w3.heap.size 26 v' vs := (by unfold Own; rw [hA5l]; simpa using hown'); obtain ⟨qa, qc, rfl, hq8⟩ := hO8.readsC; rw [hA5l] at hq8; have hb8 : Below w3.heap.size w3 w8 := grow_drew hgrow; obtain ⟨p0, p1, p2⟩ := hkeep w8 hb8) | (go_at_call 20; refine (hR _ _ _ hb8 hq8).mono ?_; rintro e w9 ⟨v2, E2, rfl, An2, hB9⟩; obtain ⟨p0, p1, p2⟩ := hkeep w9 hB9))
          obtain ⟨rfl, rfl⟩ := qAns_uniq pY An1 An2
          have HB9 := HB5.trans (hB9.mono HB5.size)
          clear An1 An2 hR hkeep hnews hnews' hones hnl t5 A5 rb5 HB5
          go_wp2_with (go_at_call 11; refine (num7_same _ _).mono ?_; rintro e wz ⟨rfl, rfl⟩)
          go_ret
          exact ⟨rfl, HB9⟩
end Go.Proofs.YtildkknpbpdnnaaDoor
