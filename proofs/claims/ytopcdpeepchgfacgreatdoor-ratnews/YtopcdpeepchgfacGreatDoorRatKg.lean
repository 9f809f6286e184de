/- plumbref05 on Rats: turned, Sub, Sign, Cmp. -/
import Derived.Test.YtopcdpeepchgfacGreatDoorRatKf
namespace Go.Proofs.YtopcdpeepchgfacGreatDoor
open Go.ChangeShapes Go.WideShapes Go.ChangeAt Go.RowKit
open Na Ar
set_option linter.unusedVariables false
section
variable {w : World} {s s1 s2 : Bool} {a b a1 b1 a2 b2 : Option Addr} {n c m d n1 c1 m1 d1 n2 c2 m2 d2 : Nat} {p q : Rat} {k l : Nat}
theorem Rt.turn (h : Rt w s a n c b m d q) : Rt w (if 0 < n then !s else s) a n c b m d (-q) := by
  have ed : (-q).den = q.den := Rat.neg_den q
  have en : (-q).num = -q.num := Rat.neg_num q
  refine ⟨?_, by rw [en, Int.natAbs_neg]; exact h.nu, by rw [ed]; exact h.de⟩
  rw [en]
  have hl := h.len
  have z := (words_nil (N := (q.num.natAbs : Int)) (by omega))
  have hs := h.sgn
  by_cases h0 : 0 < n
  · rw [if_pos h0, hs]
    have : q.num ≠ 0 := fun e => by
      have := z.mpr (by omega)
      omega
    by_cases hl : q.num < 0
    · rw [decide_eq_true hl, decide_eq_false (by omega)]; rfl
    · rw [decide_eq_false hl, decide_eq_true (by omega)]; rfl
  · rw [if_neg h0, hs]
    have : q.num = 0 := by
      have := z.mp (by omega)
      omega
    rw [this]
    rfl
theorem Sz.neg (h : Sz q k) : Sz (-q) k := by
  have ed : (-q).den = q.den := Rat.neg_den q
  have en : (-q).num = -q.num := Rat.neg_num q
  unfold Sz
  rw [en, ed, Int.natAbs_neg]
  exact h
set_option maxHeartbeats 6400000 in
theorem ref5Sign_any {K : Int} (h1 : Rt w s1 a1 n1 c1 b1 m1 d1 p) (hn : n1 ≤ 1000000) (hK : sgnR p = K) :
    Calls Tryz.prog 26 #[.agg #[.bool s1, .slice a1 n1 c1, .slice b1 m1 d1]] w fun e w' => e = .returned (.int .i64 K) ∧ Below w.heap.size w w' := by
  have hb0 := alloc_below (w := w) (.cells #[.bool s1, .slice a1 n1 c1, .slice b1 m1 d1] 25)
  have st := st_new w (.bool s1) (.slice a1 n1 c1) (.slice b1 m1 d1) 25
  have bt := refNorm_any (cap := c1) (h1.nu.later hb0).1 (Dg_words _) hn
  have ev : val 18446744073709551616 (words (p.num.natAbs : Int)) = (p.num.natAbs : Int) := num_words (by omega)
  rw [ev] at bt
  have hs := h1.sgn
  clear h1
  by_cases h0 : p.num = 0
  · have HK : Hid (0 = K) := by show _ = _; rw [← hK]; unfold sgnR; rw [if_pos h0]
    have e : (p.num.natAbs : Int) = 0 := by omega
    rw [e, show words 0 = [] from dig_zero _] at bt
    clear hK h0 e hs ev
    go_enter Tryz.func26, Tryz.ntmps26
    go_wp2_with fail
    refine bt.mono ?_
    rintro e w1 ⟨v, rfl, ho, hb1⟩
    obtain ⟨a', c', rfl, _⟩ := ho.readsC
    clear ho bt
    go_wp2
    go_ret
    exact ⟨ret_i HK.out, hb0.trans (hb1.mono hb0.size)⟩
  · obtain ⟨j, hj⟩ : ∃ j, (words (p.num.natAbs : Int)).length = j + 1 := ⟨(words (p.num.natAbs : Int)).length - 1, by
      have : (words (p.num.natAbs : Int)).length ≠ 0 := fun e => by
        have := (words_nil (N := (p.num.natAbs : Int)) (by omega)).mp e
        omega
      omega⟩
    have tj : (((j : Int) + 1) == 0) = false := beq_no (by omega)
    have tk : (((j + 1 : Nat) : Int) == 0) = false := beq_no (by omega)
    by_cases hl : p.num < 0
    · have HK : Hid (-1 = K) := by show _ = _; rw [← hK]; unfold sgnR; rw [if_neg h0, if_pos hl]
      have hs1 : s1 = true := by rw [hs]; exact decide_eq_true hl
      subst hs1
      clear hK h0 hl hs ev
      go_enter Tryz.func26, Tryz.ntmps26
      go_wp2_with fail
      refine bt.mono ?_
      rintro e w1 ⟨v, rfl, ho, hb1⟩
      obtain ⟨a', c', rfl, _⟩ := ho.readsC
      rw [hj]
      clear ho bt hj
      obtain ⟨x0, x1, x2⟩ := (st.later hb1).cells
      go_wp2
      go_ret
      exact ⟨ret_i HK.out, hb0.trans (hb1.mono hb0.size)⟩
    · have HK : Hid (1 = K) := by show _ = _; rw [← hK]; unfold sgnR; rw [if_neg h0, if_neg hl]
      have hs1 : s1 = false := by rw [hs]; exact decide_eq_false hl
      subst hs1
      clear hK h0 hl hs ev
      go_enter Tryz.func26, Tryz.ntmps26
      go_wp2_with fail
      refine bt.mono ?_
      rintro e w1 ⟨v, rfl, ho, hb1⟩
      obtain ⟨a', c', rfl, _⟩ := ho.readsC
      rw [hj]
      clear ho bt hj
      obtain ⟨x0, x1, x2⟩ := (st.later hb1).cells
      go_wp2
      go_ret
      exact ⟨ret_i HK.out, hb0.trans (hb1.mono hb0.size)⟩
end
end Go.Proofs.YtopcdpeepchgfacGreatDoor
