/- plumbref05 on any api.Rat: Check, two; what its operations answer on what is none. -/
import Derived.Test.YtopcdpeepchgfacGreatDoorRatKb
import Derived.Test.YtopcdpeepchgfacGreatDoorRatKc
namespace Go.Proofs.YtopcdpeepchgfacGreatDoor
open Go.ChangeShapes Go.WideShapes Go.ChangeAt Go.RowKit
open Na Ar
set_option linter.unusedVariables false
theorem words_no1 {G : Int} (h0 : 0 ≤ G) (h1 : G ≠ 1) (hl : (words G).length = 1) : (words G).getD 0 0 ≠ 1 := by
  rcases words_cases h0 with ⟨_, e⟩ | ⟨_, _, e⟩ | ⟨_, e⟩
  · rw [e] at hl; cases hl
  · rw [e]; exact h1
  · omega
section
variable {w : World} {s s1 s2 : Bool} {a b a1 b1 a2 b2 : Option Addr} {n c m d n1 c1 m1 d1 n2 c2 m2 d2 : Nat} {xs ys x1 y1 x2 y2 : List Int} {k l : Nat}
set_option maxHeartbeats 6400000 in
set_option maxRecDepth 100000 in
theorem ref5Check_no (h1 : RowC w a n c xs) (h2 : RowC w b m d ys) (hx : Ws xs) (hy : Ws ys) (hn : n ≤ 1000000) (hm : m ≤ 1000000) (hR : isR s xs ys = false) :
    Calls Tryz.prog 24 #[.agg #[.bool s, .slice a n c, .slice b m d]] w fun e w' => e = .returned (.int .i64 51) ∧ Below w.heap.size w w' := by
  have hb0 := alloc_below (w := w) (.cells #[.bool s, .slice a n c, .slice b m d] 25)
  have r1 := h1.later hb0
  have r2 := h2.later hb0
  have l1 := h1.1.1
  have l2 := h2.1.1
  have n1 := refNrm_any r1 rfl
  have n2 := refNrm_any r2 rfl
  have g := common_any (c1 := c) (c2 := d) r1.1 r2.1 hx hy hn hm
  have lg : (words (Int.gcd (num xs) (num ys) : Int)).length ≤ 4000000 := by
    have x0 := num_nonneg hx
    have y0 := num_nonneg hy
    by_cases hz : num xs = 0
    · rw [hz, Int.gcd_zero_left]
      have e : ((num ys).natAbs : Int) = num ys := by omega
      rw [e]
      have := words_le hy
      omega
    · have h := Int.le_of_dvd (show 0 < num xs by omega) (Int.gcd_dvd_left (a := num xs) (b := num ys))
      have := words_mono (show 0 ≤ (Int.gcd (num xs) (num ys) : Int) by omega) h
      have := words_le hx
      omega
  unfold isR at hR
  rw [l1, l2] at hR
  clear h1 h2 r1 r2 hx hy hm hn l1 l2
  cases hN : nrmB xs
  · rw [hN] at n1
    clear n2 g hR hN lg
    go_enter Tryz.func24, Tryz.ntmps24
    go_wp2_with fail
    refine n1.mono ?_
    rintro e w1 ⟨rfl, rfl⟩
    go_wp2
    go_ret
    exact ⟨rfl, hb0⟩
  · rw [hN] at n1 hR
    cases hM : nrmB ys
    · rw [hM] at n2
      clear g hR hN hM lg
      go_enter Tryz.func24, Tryz.ntmps24
      go_wp2_with fail
      refine n1.mono ?_
      rintro e w1 ⟨rfl, rfl⟩
      go_wp2_with fail
      refine n2.mono ?_
      rintro e w1 ⟨rfl, rfl⟩
      go_wp2
      go_ret
      exact ⟨rfl, hb0⟩
    · rw [hM] at n2 hR
      clear hN hM
      by_cases hm0 : m = 0
      · have tm : ((m : Int) == 0) = true := beq_of (by omega)
        clear g hR hm0 lg
        go_enter Tryz.func24, Tryz.ntmps24
        go_wp2_with fail
        refine n1.mono ?_
        rintro e w1 ⟨rfl, rfl⟩
        go_wp2_with fail
        refine n2.mono ?_
        rintro e w1 ⟨rfl, rfl⟩
        go_wp2
        go_ret
        exact ⟨rfl, hb0⟩
      · have tm : ((m : Int) == 0) = false := beq_no (by omega)
        by_cases hs : s = true ∧ n = 0
        · obtain ⟨rfl, hn0⟩ := hs
          have tn : ((n : Int) == 0) = true := beq_of (by omega)
          clear g hR hm0 hn0 lg
          go_enter Tryz.func24, Tryz.ntmps24
          go_wp2_with fail
          refine n1.mono ?_
          rintro e w1 ⟨rfl, rfl⟩
          go_wp2_with fail
          refine n2.mono ?_
          rintro e w1 ⟨rfl, rfl⟩
          go_wp2
          go_ret
          exact ⟨rfl, hb0⟩
        · have tn : s = true → ((n : Int) == 0) = false := fun h => beq_no (by intro e; exact hs ⟨h, by omega⟩)
          have hg1 : decide ((Int.gcd (num xs) (num ys) : Int) = 1) = false := by
            have e : (s && decide (n = 0)) = false := by
              rw [Bool.and_eq_false_iff]
              by_cases h : s = true
              · right; exact decide_eq_false (fun h' => hs ⟨h, h'⟩)
              · left; simpa using h
            rw [e] at hR
            simp [hm0] at hR
            exact decide_eq_false (by omega)
          clear hR hm0 hs
          cases s
          all_goals (try replace tn := tn rfl)
          all_goals go_enter Tryz.func24, Tryz.ntmps24
          all_goals go_wp2_with fail
          all_goals refine n1.mono ?_
          all_goals rintro e w1 ⟨rfl, rfl⟩
          all_goals go_wp2_with fail
          all_goals refine n2.mono ?_
          all_goals rintro e w2 ⟨rfl, rfl⟩
          all_goals go_wp2_with fail
          all_goals refine g.mono ?_
          all_goals rintro e w3 ⟨ga, gn, gc, rfl, rG, hb⟩
          all_goals have kG := rG.1.1
          all_goals clear n1 n2 g
          all_goals by_cases h1 : gn = 1
          all_goals (try (subst h1; obtain ⟨bb, off, rfl, hbb, hc⟩ := rG.1.at (by omega); have hcx := hc 0 (by omega); simp only [Nat.add_zero] at hcx; have hv := words_no1 (by omega) (of_decide_eq_false hg1) kG; have t1 := beq_no hv; have t2 := bne_yes hv; generalize (words (Int.gcd (num xs) (num ys) : Int)).getD 0 0 = x at hcx t1 t2; clear hc rG hv kG hg1))
          all_goals (try (have t3 : ((gn : Int) == 1) = false := beq_no (by omega)); have t4 : ((gn : Int) != 1) = true := bne_yes (by omega); clear rG kG hg1 h1)
          all_goals go_wp2
          all_goals go_ret
          all_goals exact ⟨rfl, hb0.trans (hb.mono hb0.size)⟩
theorem ref5Check_gen {K : Int} (h : An5 w s a n c b m d xs ys k) (hk : k ≤ 4096) (hK : (if isR s xs ys then (0 : Int) else 51) = K) :
    Calls Tryz.prog 24 #[.agg #[.bool s, .slice a n c, .slice b m d]] w fun e w' => e = .returned (.int .i64 K) ∧ Below w.heap.size w w' := by
  cases hR : isR s xs ys
  · rw [hR] at hK
    subst hK
    have l1 := h.nu.1.1
    have l2 := h.de.1.1
    have l3 := h.lx
    have l4 := h.ly
    exact ref5Check_no h.nu h.de h.wx h.wy (by omega) (by omega) hR
  · rw [hR] at hK
    subst hK
    obtain ⟨r, z⟩ := h.rt hR
    exact ref5Check_ok r z hk
end
end Go.Proofs.YtopcdpeepchgfacGreatDoor
