/- plumblaw02.Kept.whole: all marks are there. -/
import Derived.Test.YthigofcbmgheeabFreshMark
namespace Go.Proofs.Ythigofcbmgheeab
open Go.ChangeShapes Go.WideShapes Go.ChangeAt Go.RowKit
open Na Ar
set_option linter.unusedVariables false

/-- lists that were kept, with their marks: all in blocks from lo on -/
def KW (w : World) (ga lo : Nat) (kg : Value) : Prop := ∃ hi vs gs yss xss s2, xss.length = 16 ∧ Mk 16 xss yss ∧ (∀ j, j < 16 → (xss.getD j []).length ≤ 5000) ∧ w.heap[ga]? = some (.cells vs.toArray 22 (0, 0)) ∧ OL w lo hi vs yss ∧ GL w lo hi vs gs yss 16 ∧ w.ownsRow s2 22 1 kg 16 gs ∧ lo ≤ ga ∧ lo ≤ s2
theorem KW.later {w w' : World} {ga lo : Nat} {kg : Value} (h : KW w ga lo kg) (hb : Below w.heap.size w w') : KW w' ga lo kg := by
  obtain ⟨hi, vs, gs, yss, xss, s2, h1, h2, h3, h4, h5, h6, h7, h8, h9⟩ := h
  have hgl : ga < w.heap.size := by
    by_cases hlt : ga < w.heap.size
    · exact hlt
    · simp [Array.getElem?_eq_none (Nat.le_of_not_lt hlt)] at h4
  refine ⟨hi, vs, gs, yss, xss, s2, h1, h2, h3, by rw [hb.block ga hgl]; exact h4, h5.later hb, h6.later hb, ?_, h8, h9⟩
  have hg : w.grownBy w' none := ⟨hb.os, hb.tape, hb.output, hb.size, fun k hk _ => hb.block k hk⟩
  exact World.ownsRow.kept h7 hg (by cases hq : kg.ownBlock <;> simp)
/-- a store below lo leaves them -/
theorem KW.set {w : World} {ga lo g k : Nat} {kg : Value} (h : KW w ga lo kg) (hg : g < lo) (u : Value) : KW (w.setCell ⟨g, k, none⟩ u) ga lo kg := by
  obtain ⟨hi, vs, gs, yss, xss, s2, h1, h2, h3, h4, h5, h6, h7, h8, h9⟩ := h
  refine ⟨hi, vs, gs, yss, xss, s2, h1, h2, h3, by rw [Below.heap_setCell _ _ _ _ (by simp only; omega)]; exact h4, ⟨h5.1, fun j hj => ?_, h5.2.2⟩, ⟨h6.1, fun j hj => ?_⟩, ?_, h8, h9⟩
  · obtain ⟨v, g1, g2, g3⟩ := h5.2.1 j hj
    exact ⟨v, g1, g2.other (fun hh => by have := (g2.block_lt hh).1; omega) u, g3⟩
  · obtain ⟨v, u', g1, g2, g3, g4⟩ := h6.2 j hj
    exact ⟨v, u', g1, g2, g3.other (fun hh => by have := (g3.block_lt hh).1; omega) u, g4⟩
  · obtain ⟨q1, q2⟩ := h7
    refine ⟨q1, ?_⟩
    rcases q2 with q2 | ⟨g', c, cur, hv, hb, hc, r⟩
    · exact Or.inl q2
    · exact Or.inr ⟨g', c, cur, hv, hb, by rw [Below.heap_setCell _ _ _ _ (by simp only; omega)]; exact hc, r⟩
set_option maxHeartbeats 1600000 in
set_option maxRecDepth 100000 in
theorem whole_any {ga lo : Nat} {kg : Value} {w : World} (h : KW w ga lo kg) :
    Calls Try.prog 26 #[.agg #[.slice (some ⟨ga, 0, none⟩) 16 16, kg]] w fun e w' => e = .returned (.bool true) ∧ Below w.heap.size w w' := by
  obtain ⟨hi, vs, gs, yss, xss, s2, h1, h2, h3, h4, h5, h6, h7, h8, h9⟩ := h
  obtain ⟨gg, kc, hkv, hkc⟩ : ∃ gg kc, kg = .slice (some ⟨gg, 0, none⟩) 16 kc ∧ ∀ j v, gs[j]? = some v → j < 16 → w.cell? ⟨gg, j, none⟩ = some v := by
    rcases h7.2 with ⟨_, h0⟩ | ⟨g, c, cur, hv, _, hc, _, _, _, ht⟩
    · omega
    · refine ⟨g, c, hv, fun j v hj hj16 => ?_⟩
      simp only [Nat.mul_one] at ht
      have e : cur[j]? = some v := by
        rw [← ht, List.getElem?_take_of_lt hj16, Array.getElem?_toList] at hj
        exact hj
      simp [World.cell?, hc, e]
  subst hkv
  have al := alloc_below (w := w) (.cells #[.slice (some ⟨ga, 0, none⟩) 16 16, .slice (some ⟨gg, 0, none⟩) 16 kc] 45)
  have hall : Hid (∀ q, q < 16 → ∃ av nv cv bv dv, nv ≤ 5000 ∧ w.cell? ⟨ga, q, none⟩ = some (.slice av nv cv) ∧ w.cell? ⟨gg, q, none⟩ = some (.slice bv (nv + 70) dv) ∧ RowAt .u64 w av nv (List.replicate nv (mark1 q)) ∧ RowAt .u64 w bv (nv + 70) (List.replicate nv (mark1 q) ++ List.replicate 70 (mark2 q))) := fun q hq => by
    obtain ⟨v, g1, g2, _⟩ := h5.2.1 q (by rw [h2.1, h1]; exact hq)
    obtain ⟨v', u', k1, k2, k3, _⟩ := h6.2 q hq
    have ey := h2.2.1 q (by rw [h1]; exact hq) hq
    rw [ey] at g2 k3
    have hl5 := h3 q hq
    generalize (xss.getD q []).length = nv at *
    obtain ⟨av, cv, rfl, r1⟩ := g2.readsC
    obtain ⟨bv, dv, rfl, r2⟩ := k3.readsC
    rw [List.length_replicate] at r1 g1
    have e2 : (List.replicate nv (mark1 q) ++ List.replicate 70 (mark2 q)).length = nv + 70 := by simp
    rw [e2] at r2 k1
    exact ⟨av, nv, cv, bv, dv, hl5, cells_at h4 g1, hkc q _ k1 hq, r1.1, r2.1⟩
  clear h1 h2 h3 h4 h5 h6 h7 h8 h9 hkc
  have b0 : (w.alloc (.cells #[.slice (some ⟨ga, 0, none⟩) 16 16, .slice (some ⟨gg, 0, none⟩) 16 kc] 45)).cell? ⟨w.heap.size, 0, none⟩ = some (.slice (some ⟨ga, 0, none⟩) 16 16) := by simp
  have b1 : (w.alloc (.cells #[.slice (some ⟨ga, 0, none⟩) 16 16, .slice (some ⟨gg, 0, none⟩) 16 kc] 45)).cell? ⟨w.heap.size, 1, none⟩ = some (.slice (some ⟨gg, 0, none⟩) 16 kc) := by simp
  go_enter Try.func26, Try.ntmps26
  go_wp2
  generalize w.alloc (.cells #[.slice (some ⟨ga, 0, none⟩) 16 16, .slice (some ⟨gg, 0, none⟩) 16 kc] 45) = w1 at *
  go_loop [3, 4, 5, 6] (fun i _ _ _ => ∃ q : Nat, i = .int .i64 q ∧ q ≤ 16) (fun i _ _ _ => 16 - (intOf i).toNat)
  case atStart => exact ⟨0, rfl, by omega⟩
  case round =>
    obtain ⟨q, rfl, hq⟩ := hrel
    by_cases hlt : q < 16
    · obtain ⟨av, nv, cv, bv, dv, hnv, x1, x2, r1, r2⟩ := hall.out q hlt
      have lt1 : ga < w.heap.size := by
        by_cases hg : ga < w.heap.size
        · exact hg
        · simp [World.cell?, Array.getElem?_eq_none (Nat.le_of_not_lt hg)] at x1
      have lt2 : gg < w.heap.size := by
        by_cases hg : gg < w.heap.size
        · exact hg
        · simp [World.cell?, Array.getElem?_eq_none (Nat.le_of_not_lt hg)] at x2
      have y1 := (al.cell (p := ⟨ga, q, none⟩) lt1).trans x1
      have y2 := (al.cell (p := ⟨gg, q, none⟩) lt2).trans x2
      have s1 := r1.later al
      have s2' := r2.later al
      have hq16 : (q : Int) < 16 := by omega
      have C1 : Hid (∀ k, k < nv → ∃ b off, av = some ⟨b, off, none⟩ ∧ w1.cell? ⟨b, off + k, none⟩ = some (.int .u64 (5836665117072162816 + (q : Int)))) := fun k hk => by
        obtain ⟨b, off, ha, _, hc⟩ := s1.at (by omega)
        refine ⟨b, off, ha, ?_⟩
        rw [hc k hk]
        have e : (List.replicate nv (mark1 q)).getD k 0 = mark1 q := by simp [List.getD_eq_getElem?_getD, hk]
        rw [e]; rfl
      obtain ⟨b2, o2, hb2, _, hc2⟩ := s2'.at (by omega)
      subst hb2
      have C2 : Hid (∀ k, k < nv → w1.cell? ⟨b2, o2 + k, none⟩ = some (.int .u64 (5836665117072162816 + (q : Int)))) := fun k hk => by
        rw [hc2 k (by omega)]
        have e : (List.replicate nv (mark1 q) ++ List.replicate 70 (mark2 q)).getD k 0 = mark1 q := by
          rw [List.getD_eq_getElem?_getD, List.getElem?_append_left (by simpa using hk)]
          simp [hk]
        rw [e]; rfl
      have C3 : Hid (∀ k, nv ≤ k → k < nv + 70 → w1.cell? ⟨b2, o2 + k, none⟩ = some (.int .u64 (7061644215716937728 + (q : Int)))) := fun k hk hk2 => by
        rw [hc2 k hk2]
        have e : (List.replicate nv (mark1 q) ++ List.replicate 70 (mark2 q)).getD k 0 = mark2 q := by
          rw [List.getD_eq_getElem?_getD, List.getElem?_append_right (by simpa using hk), List.length_replicate, List.getElem?_replicate, if_pos (by omega)]
          rfl
        rw [e]; rfl
      have t1 : ((5836665117072162816 + (q : Int)) != (5836665117072162816 + (q : Int))) = false := by simp
      have t2 : ((7061644215716937728 + (q : Int)) != (7061644215716937728 + (q : Int))) = false := by simp
      clear x1 x2 r1 r2 s1 s2' hc2
      go_wp2
      go_loop [5] (fun j => ∃ k : Nat, j = .int .i64 k ∧ k ≤ nv) (fun j => nv - (intOf j).toNat)
      case atStart => exact ⟨0, rfl, by omega⟩
      case round =>
        obtain ⟨k, rfl, hk⟩ := hrel
        by_cases hkl : k < nv
        · obtain ⟨b, off, hav, z1⟩ := C1.out k hkl
          have z2 := C2.out k hkl
          subst hav
          have hk70 : (k : Int) < (nv : Int) + 70 := by omega
          go_wp2
          go_round
          case rel => exact ⟨k + 1, by go_num, by omega⟩
          case measure => simp [intOf]; omega
        · go_wp2
          go_loop [6] (fun j => ∃ m : Nat, j = .int .i64 m ∧ nv ≤ m ∧ m ≤ nv + 70) (fun j => nv + 70 - (intOf j).toNat)
          case atStart => exact ⟨nv, rfl, by omega, by omega⟩
          case round =>
            obtain ⟨m, rfl, hm1, hm2⟩ := hrel
            by_cases hml : m < nv + 70
            · have z3 := C3.out m hm1 hml
              have hm70 : (m : Int) < (nv : Int) + 70 := by omega
              go_wp2
              go_round
              case rel => exact ⟨m + 1, by go_num, by omega, by omega⟩
              case measure => simp [intOf]; omega
            · have hm70 : ¬ (m : Int) < (nv : Int) + 70 := by omega
              go_wp2
              go_round
              case rel => exact ⟨q + 1, by go_num, by omega⟩
              case measure => simp [intOf]; omega
    · go_wp2
      go_ret
      exact ⟨rfl, al⟩
end Go.Proofs.Ythigofcbmgheeab
