/- package quot: plus, above, Root. -/
import Derived.Test.YthjfjpdgjhidfaaQuotPow
import Derived.Test.YthjfjpdgjhidfaaQuotMath
import Derived.Deep.LoopGhost
namespace Go.Proofs.Ythjfjpdgjhidfaa
open Go.ChangeShapes Go.WideShapes Go.ChangeAt Go.RowKit
open Na Ar
set_option linter.unusedVariables false

set_option maxHeartbeats 3200000 in
set_option maxRecDepth 100000 in
theorem qplus_any {a b : Option Addr} {m n c1 c2 : Nat} {xs ys : List Int} {w : World} (hr1 : RowC w a m c1 xs) (hr2 : RowC w b n c2 ys) (hx : Ws xs) (hy : Ws ys) (hm : m ≤ 3900000) (hnm : n ≤ m) :
    Calls Try.prog 58 #[.slice a m c1, .slice b n c2] w fun e w' => ∃ v, e = .returned v ∧ Own .u64 w' w.heap.size 25 v (words (num xs + num ys)) ∧ Below w.heap.size w w' := by
  obtain ⟨i_u64, hi_u64, hz0_u64, hz1_u64, hz2_u64⟩ := info_parts info_u64
  have hsz : (Try.prog.info? 25).map (·.size) = some 1 := by rw [hi_u64]; simp [hz1_u64]
  have HL1 : Hid (xs.length = m) := hr1.1.1
  have HL2 : Hid (ys.length = n) := hr2.1.1
  have hb1 := num_bd hx
  have hb2 := num_bd hy
  rw [HL1.out] at hb1
  rw [HL2.out] at hb2
  have hsum : num xs + num ys < 18446744073709551616 ^ (m + 1) := by
    have := wpow_mono hnm
    have := wpow_pos m
    rw [Int.pow_succ]; omega
  go_enter Try.func58, Try.ntmps58
  go_wp2_with (at_make; refine wpList_make_full _ rfl _ _ 22 rfl w.heap.size 25 i_u64 (.int .u64 0) 1 Try.underlying22 hi_u64 hz0_u64 hz1_u64 .i64 .i64 _ _ (m + 1) rfl rfl (by omega) (by omega) (by rw [hz2_u64]; omega) (by unfold maxLen; omega) (Nat.le_refl _) ?_)
  intro w3 hmade hgr
  have hown := own_zeros hmade
  have hb3 : Below w.heap.size w w3 := (Below.refl _ _).grown hgr (Nat.le_refl _) (fun k hk => by cases hk)
  have hr3 := hr1.1.later hb3
  obtain ⟨g, hg⟩ : ∃ g, g = w.heap.size := ⟨_, rfl⟩
  have hown2 : Own .u64 w3 w.heap.size 25 (.slice (some ⟨g, 0, none⟩) (m + 1) (m + 1)) (List.replicate (m + 1) 0) := by rw [hg]; exact hown
  rw [← hg]
  clear hmade hgr hr1 hown hg
  have hz : Hid (m + 1 = (List.replicate (m + 1) (0 : Int)).length) := by show _ = _; simp
  have hcopy := fun (ops : Array Oper) (rest : List Oper) (oo : Oper) (act : Act) (Q : Exit → Act → World → Prop) hgd d s ho hd hs h => copy_own (P := Try.prog) (w := w3) (ops := ops) (rest := rest) (o := oo) (act := act) (Q := Q) hgd d s 22 22 ho 25 Try.underlying22 hsz g 0 (m + 1) (m + 1) (m + 1) (m + 1) w.heap.size 25 _ xs hown2 hz.out a m c1 hr3 hd hs (by omega) (by omega) h
  go_wp2_with (refine hcopy _ _ _ _ _ rfl _ _ rfl rfl rfl ?_)
  intro w4 hown4 hb4
  have hon := over_num (L := m + 1) (o := 0) (ps := xs) (by rw [HL1.out]; omega)
  have how := over_ws (L := m + 1) (o := 0) hx
  have hol : (over (List.replicate (m + 1) (0 : Int)) xs 0).length = m + 1 := by rw [over_length (by rw [HL1.out]; simp)]; simp
  rw [Int.pow_zero, Int.one_mul] at hon
  have hon1 := hon.1
  generalize over (List.replicate (m + 1) (0 : Int)) xs 0 = os at *
  have hB4 := hb3.trans hb4
  have hadd := addTo_any (cap2 := c2) hown4 hol.symm how hr2.1 hB4 hy (by omega) (by omega) (by rw [hon1]; exact hsum)
  clear hcopy hown2 hr3 hb3 hb4 hon hz hown4
  go_wp2_with fail
  refine hadd.mono ?_
  rintro e w5 ⟨rfl, us, hou, hul, hwu, hnu, hB5⟩
  rw [hon1] at hnu
  have hrc := hou.rowC hul.symm
  have htr := trimW_any hrc hwu (by omega)
  rw [← hul] at hou
  have hcut := hou.cut (words_le hwu)
  rw [words_take hwu] at hcut
  rw [hul] at hcut
  rw [hnu] at htr hcut
  clear hadd hou hrc hul hwu hnu hB4
  go_wp2_with fail
  refine htr.mono ?_
  rintro e w' ⟨rfl, _, _, _, rfl⟩
  clear htr
  go_wp2
  go_ret
  exact ⟨_, rfl, hcut, hB5⟩

theorem ret_vb {v : Value} {p q : Bool} (h : p = q) : Ending.returned (.tuple #[v, .bool p]) = .returned (.tuple #[v, .bool q]) := by rw [h]
def RootPost (w : World) (X : Int) (e : Ending) (w' : World) : Prop := ∃ v s, e = .returned (.tuple #[v, .bool (decide (s * s = X))]) ∧ IsRoot X s ∧ Own .u64 w' w.heap.size 25 v (words s) ∧ Below w.heap.size w w'
namespace Na
theorem above_small {X : Int} {b : Nat} (h1 : 2 ^ b ≤ X) (h2 : X < 2 ^ (b + 1)) : 0 < (1 : Int) * 2 ^ ((b + 2) / 2) ∧ (1 : Int) * 2 ^ ((b + 2) / 2) ≤ 2 * X ∧ X < ((1 : Int) * 2 ^ ((b + 2) / 2) + 1) * ((1 : Int) * 2 ^ ((b + 2) / 2) + 1) := by
  rw [Int.one_mul]
  have p := p2pos ((b + 2) / 2)
  have a := p2mono (show (b + 2) / 2 ≤ b + 1 by omega)
  have c : (2 : Int) ^ (b + 1) ≤ 2 ^ ((b + 2) / 2 + (b + 2) / 2) := p2mono (by omega)
  have e : (2 : Int) ^ ((b + 2) / 2 + (b + 2) / 2) = 2 ^ ((b + 2) / 2) * 2 ^ ((b + 2) / 2) := Int.pow_add ..
  rw [e] at c
  have e2 : (2 : Int) ^ (b + 1) = 2 * 2 ^ b := by rw [Int.pow_succ, Int.mul_comm]
  rw [e2] at a
  refine ⟨p, by omega, ?_⟩
  generalize (2 : Int) ^ ((b + 2) / 2) = s at *
  have : (s + 1) * (s + 1) = s * s + 2 * s + 1 := by grind
  omega
theorem above_great {X s0 : Int} {b q : Nat} (h1 : 2 ^ b ≤ X) (hq : 2 * q ≤ b) (hr : IsRoot (X / 2 ^ (2 * q)) s0) : 1 ≤ s0 ∧ 0 < (s0 + 1) * 2 ^ q ∧ (s0 + 1) * 2 ^ q ≤ 2 * X ∧ X < ((s0 + 1) * 2 ^ q + 1) * ((s0 + 1) * 2 ^ q + 1) := by
  obtain ⟨r1, r2, r3⟩ := hr
  have p := p2pos (2 * q)
  have pq := p2pos q
  have d := Int.mul_ediv_add_emod X (2 ^ (2 * q))
  have m0 := Int.emod_nonneg X (show (2 : Int) ^ (2 * q) ≠ 0 by omega)
  have m1 := Int.emod_lt_of_pos X p
  have y1 : 1 ≤ X / 2 ^ (2 * q) := by
    rw [Int.le_ediv_iff_mul_le p, Int.one_mul]
    exact Int.le_trans (p2mono hq) h1
  have e : (2 : Int) ^ (2 * q) = 2 ^ q * 2 ^ q := by rw [Nat.two_mul, Int.pow_add]
  generalize X / 2 ^ (2 * q) = Y at *
  generalize X % 2 ^ (2 * q) = R at *
  rw [e] at d m1
  generalize (2 : Int) ^ q = Q at *
  have s1 : 1 ≤ s0 := by
    by_cases g : 1 ≤ s0
    · exact g
    · have : s0 = 0 := by omega
      subst this
      omega
  have sY : s0 + 1 ≤ 2 * Y := by
    have : s0 * 1 ≤ s0 * s0 := Int.mul_le_mul_of_nonneg_left s1 r1
    omega
  have a : (s0 + 1) * Q ≤ 2 * Y * Q := Int.mul_le_mul_of_nonneg_right sY (by omega)
  have b2 : Y * Q * 1 ≤ Y * Q * Q := Int.mul_le_mul_of_nonneg_left (by omega) (Int.mul_nonneg (by omega) (by omega))
  have c : Q * Q * Y = Y * Q * Q := by grind
  have c2 : 2 * Y * Q = 2 * (Y * Q) := by grind
  have pos : 0 < (s0 + 1) * Q := Int.mul_pos (by omega) (by omega)
  refine ⟨s1, pos, by omega, ?_⟩
  have u : (Y + 1) * (Q * Q) ≤ (s0 + 1) * (s0 + 1) * (Q * Q) := Int.mul_le_mul_of_nonneg_right (by omega) (Int.mul_nonneg (by omega) (by omega))
  have u2 : (s0 + 1) * (s0 + 1) * (Q * Q) = (s0 + 1) * Q * ((s0 + 1) * Q) := by grind
  have u3 : (Y + 1) * (Q * Q) = Q * Q * Y + Q * Q := by grind
  generalize (s0 + 1) * Q = S at *
  have : (S + 1) * (S + 1) = S * S + 2 * S + 1 := by grind
  omega
end Na
set_option maxHeartbeats 3200000 in
set_option maxRecDepth 100000 in
theorem above_any {a : Option Addr} {m c1 : Nat} {xs : List Int} {w : World} (hr1 : RowC w a m c1 xs) (hx : Ws xs) (hm : m ≤ 3700000) (hX : 0 < num xs)
    (ih : ∀ {a' : Option Addr} {m' c' : Nat} {ys : List Int} {w' : World}, RowC w' a' m' c' ys → Ws ys → m' ≤ 3700000 → num ys < num xs → Calls Try.prog 16 #[.slice a' m' c'] w' (RootPost w' (num ys))) :
    Calls Try.prog 57 #[.slice a m c1, .int .i64 (bitsN (num xs))] w fun e w' => ∃ v s, e = .returned v ∧ 0 < s ∧ s ≤ 2 * num xs ∧ num xs < (s + 1) * (s + 1) ∧ Own .u64 w' w.heap.size 25 v (words s) ∧ Below w.heap.size w w' := by
  obtain ⟨b, hb, a1, a2⟩ := bits_some hX
  rw [hb]
  have hl := hr1.1.1
  have hble := bits_le (N := num xs) (k := xs.length) (by omega) (num_bd hx)
  rw [hb] at hble
  have hb9 : b ≤ 236800000 := by omega
  have hf1 := fun w => natFrom_any (v := 1) (by omega) w
  have d1 := Dg_words 1
  have n1 := num_words (show (0 : Int) ≤ 1 by omega)
  have l1 := words_len1 (v := 1) (by omega)
  by_cases hs : b + 1 ≤ 64
  · obtain ⟨s1, s2, s3⟩ := above_small a1 a2
    have hc : ((b : Int) + 1 + 1) / 2 = (((b + 2) / 2 : Nat) : Int) := by omega
    have hle : (b : Int) + 1 ≤ 64 := by omega
    have hup := fun (w1 : World) (o : Option Addr) (n c : Nat) (h : RowC w1 o n c (words 1)) (hn : n ≤ 4000000) => up_any h d1 hn ((b + 2) / 2) (by omega)
    rw [n1] at hup
    obtain ⟨t, ht⟩ : ∃ t, t = (b + 2) / 2 := ⟨_, rfl⟩
    rw [← ht] at hc s1 s2 s3 hup
    clear ih a1 a2 hble hb ht hr1
    go_enter Try.func57, Try.ntmps57
    go_wp2_with fail
    refine (hf1 _).mono ?_
    rintro e w1 ⟨v, rfl, hv, hb1⟩
    obtain ⟨va, vc, rfl, hvr⟩ := hv.readsC
    have hu := hup w1 va _ vc hvr (by omega)
    clear hup hf1 hv hvr
    generalize (words 1).length = lw at *
    go_wp2_with fail
    refine hu.mono ?_
    rintro e w2 ⟨v2, rfl, hv2, hb2⟩
    have hv3 := hv2.wider hb1.size
    have hB2 := hb1.trans (hb2.mono hb1.size)
    have HV : Hid (∃ s, 0 < s ∧ s ≤ 2 * num xs ∧ num xs < (s + 1) * (s + 1) ∧ Own .u64 w2 w.heap.size 25 v2 (words s)) := ⟨_, s1, s2, s3, hv3⟩
    clear hu hv2 hv3 s1 s2 s3
    go_wp2
    go_ret
    obtain ⟨s, q1, q2, q3, q4⟩ := HV.out
    exact ⟨_, s, rfl, q1, q2, q3, q4, hB2⟩
  · obtain ⟨q, hq⟩ : ∃ q, q = (b + 1) / 4 := ⟨_, rfl⟩
    have hc : ((b : Int) + 1) / 4 = (q : Int) := by omega
    have hle : ¬ (b : Int) + 1 ≤ 64 := by omega
    have hdn := down_any hr1 hx (by omega) (2 * q) (by omega)
    have hc2 : ((2 * q : Nat) : Int) = 2 * (q : Int) := by omega
    rw [hc2] at hdn
    have p1 : 0 ≤ num xs / 2 ^ (2 * q) := Int.ediv_nonneg (by omega) (Int.le_of_lt (p2pos _))
    have hlt : num xs / 2 ^ (2 * q) < num xs := by
      refine Int.ediv_lt_of_lt_mul (p2pos _) ?_
      have h2 : (2 : Int) ^ 1 ≤ 2 ^ (2 * q) := p2mono (by omega)
      have e1 : (2 : Int) ^ 1 = 2 := rfl
      rw [e1] at h2
      have h3 := Int.mul_le_mul_of_nonneg_left h2 (show 0 ≤ num xs by omega)
      omega
    have hgr := fun s0 h => above_great (s0 := s0) (q := q) a1 (by omega) h
    have nY := num_words p1
    have dY := Dg_words (num xs / 2 ^ (2 * q))
    have lY : (words (num xs / 2 ^ (2 * q))).length ≤ 3700000 := by
      have := words_mono p1 (Int.le_of_lt hlt)
      have := words_le hx
      omega
    have hroot := fun (w1 : World) (o : Option Addr) (n c : Nat) (h : RowC w1 o n c (words (num xs / 2 ^ (2 * q)))) (hn : n ≤ 3700000) => ih h dY hn (by rw [nY]; exact hlt)
    rw [nY] at hroot
    have hsl : ∀ s0, IsRoot (num xs / 2 ^ (2 * q)) s0 → (words s0).length ≤ 3700000 := fun s0 h => by
      have : s0 ≤ num xs / 2 ^ (2 * q) := by
        obtain ⟨r1, r2, _⟩ := h
        by_cases g : s0 = 0
        · omega
        · have : s0 * 1 ≤ s0 * s0 := Int.mul_le_mul_of_nonneg_left (by omega) r1
          omega
      have := words_mono h.1 this
      omega
    clear ih a1 a2 hble hb hr1 hlt
    generalize num xs / 2 ^ (2 * q) = Y at *
    have hq9 : q ≤ 60000000 := by omega
    clear hq
    go_enter Try.func57, Try.ntmps57
    go_wp2_with fail
    refine hdn.mono ?_
    rintro e w1 ⟨v, rfl, hv, hb1⟩
    obtain ⟨va, vc, rfl, hvr⟩ := hv.readsC
    have hR := hroot w1 va _ vc hvr lY
    clear hdn hroot hv hvr
    generalize (words Y).length = lw at *
    go_wp2_with fail
    refine hR.mono ?_
    rintro e w2 ⟨v2, s0, rfl, hs0, hv2, hb2⟩
    obtain ⟨g1, g2, g3, g4⟩ := hgr s0 hs0
    have hsl0 := hsl s0 hs0
    obtain ⟨sa, sc, rfl, hsr⟩ := hv2.readsC
    have hB2 := hb1.trans (hb2.mono hb1.size)
    have dS := Dg_words s0
    have nS := num_words (show 0 ≤ s0 by omega)
    have lS : 1 ≤ (words s0).length := by
      have := words_nil (N := s0) (by omega)
      omega
    have lP : (words (s0 + 1)).length ≤ 4000000 := by
      have h2 := num_bd (Dg_words s0)
      rw [nS] at h2
      have h3 : s0 + 1 < 18446744073709551616 ^ ((words s0).length + 1) := by
        have := wpow_pos (words s0).length
        rw [Int.pow_succ]; omega
      have := words_short (show 0 ≤ s0 + 1 by omega) h3
      omega
    have HS : Hid (IsRoot Y s0) := hs0
    have hpl := fun (w1 : World) (o : Option Addr) (n c : Nat) (hb : Below w2.heap.size w2 w1) (h : RowC w1 o n c (words 1)) (hn : n ≤ 1) => qplus_any (hsr.later hb) h dS d1 (by omega) (by omega)
    rw [nS, n1] at hpl
    generalize decide (s0 * s0 = Y) = dd at *
    clear hR hv2 hgr hsl hs0
    go_wp2_with fail
    refine (hf1 _).mono ?_
    rintro e w3 ⟨v3, rfl, hv3, hb3⟩
    obtain ⟨fa, fc, rfl, hfr⟩ := hv3.readsC
    have hp := hpl w3 fa _ fc hb3 hfr l1
    have hB3 := hB2.trans (hb3.mono hB2.size)
    clear hpl hf1 hv3 hfr
    generalize (words 1).length = lo at *
    generalize (words s0).length = ls at *
    go_wp2_with fail
    refine hp.mono ?_
    rintro e w4 ⟨v4, rfl, hv4, hb4⟩
    have hB4 := hB3.trans (hb4.mono hB3.size)
    obtain ⟨pa, pc, rfl, hpr⟩ := hv4.readsC
    have nP := num_words (show 0 ≤ s0 + 1 by omega)
    have hup := up_any hpr (Dg_words _) lP q (by omega)
    rw [nP] at hup
    clear hp hv4 hpr
    generalize (words (s0 + 1)).length = lq at *
    go_wp2_with fail
    refine hup.mono ?_
    rintro e w5 ⟨v5, rfl, hv5, hb5⟩
    have hv6 := hv5.wider hB4.size
    have hB5 := hB4.trans (hb5.mono hB4.size)
    have HV : Hid (∃ s, 0 < s ∧ s ≤ 2 * num xs ∧ num xs < (s + 1) * (s + 1) ∧ Own .u64 w5 w.heap.size 25 v5 (words s)) := ⟨_, g2, g3, g4, hv6⟩
    clear hup hv5 hv6 g2 g3 g4
    go_wp2
    go_ret
    obtain ⟨s, q1, q2, q3, q4⟩ := HV.out
    exact ⟨_, s, rfl, q1, q2, q3, q4, hB5⟩

set_option maxHeartbeats 6400000 in
set_option maxRecDepth 100000 in
theorem root_step {a : Option Addr} {m c1 : Nat} {xs : List Int} {w : World} (hr1 : RowC w a m c1 xs) (hx : Ws xs) (hm : m ≤ 3700000)
    (ih : ∀ {a' : Option Addr} {m' c' : Nat} {ys : List Int} {w' : World}, RowC w' a' m' c' ys → Ws ys → m' ≤ 3700000 → num ys < num xs → Calls Try.prog 16 #[.slice a' m' c'] w' (RootPost w' (num ys))) :
    Calls Try.prog 16 #[.slice a m c1] w (RootPost w (num xs)) := by
  have p1 := num_nonneg hx
  have hbit := natBits_any hr1 hx (by omega)
  by_cases hz : num xs = 0
  · have hb0 : bitsN (num xs) = 0 := by rw [hz]; rfl
    rw [hb0] at hbit
    have HR : Hid (RootPost w (num xs) = RootPost w 0) := by show _ = _; rw [hz]
    rw [HR.out]
    have w0 : Hid (words 0 = []) := List.length_eq_zero_iff.mp ((words_nil (Int.le_refl _)).mpr rfl)
    clear hz hb0 ih
    go_enter Try.func16, Try.ntmps16
    go_wp2_with fail
    refine hbit.mono ?_
    rintro e w1 ⟨rfl, hb1⟩
    go_wp2
    go_ret2
    exact ⟨_, 0, rfl, ⟨by omega, by omega, by omega⟩, by rw [w0.out]; exact own_nil _ _ _ _, hb1⟩
  · have hX : 0 < num xs := by omega
    have hbne : (bitsN (num xs) == 0) = false := by
      obtain ⟨b, hb, _, _⟩ := bits_some hX
      rw [hb]; simp; omega
    have hab := fun (w1 : World) (h : Below w.heap.size w w1) => above_any (hr1.later h) hx hm hX ih
    have hrl := fun (w1 : World) (h : Below w.heap.size w w1) => hr1.later h
    have hwm := words_le hx
    have hxl := hr1.1.1
    clear ih hz
    obtain ⟨X, hXe⟩ : ∃ X, X = num xs := ⟨_, rfl⟩
    have HX : Hid (X = num xs) := hXe
    rw [← hXe] at hbit hX hbne hab p1 ⊢
    generalize bitsN X = q at *
    have hlen : ∀ S, 0 < S → S ≤ 2 * X → (words S).length ≤ 3800000 := fun S h1 h2 => by
      have h3 := num_bd (Dg_words X)
      rw [num_words p1] at h3
      have h4 : S < 18446744073709551616 ^ ((words X).length + 1) := by
        rw [Int.pow_succ]; omega
      have := words_short (Int.le_of_lt h1) h4
      rw [← hXe] at hwm
      omega
    clear hXe hwm hxl
    go_enter Try.func16, Try.ntmps16
    go_wp2_with fail
    refine hbit.mono ?_
    rintro e w1 ⟨rfl, hb1⟩
    go_wp2_with fail
    refine (hab w1 hb1).mono ?_
    rintro e w2 ⟨v, S0, rfl, s1, s2, s3, hv, hb2⟩
    have hv0 := hv.wider hb1.size
    have hB2 := hb1.trans (hb2.mono hb1.size)
    clear hbit hab hv hb2 hb1
    go_wp2
    go_loopg [5, 6, 7, 8] S0.toNat (fun g s _ _ _ wr => ∃ S : Int, g = S.toNat ∧ 0 < S ∧ S ≤ 2 * X ∧ X < (S + 1) * (S + 1) ∧ Own .u64 wr w.heap.size 25 s (words S) ∧ Below w.heap.size w wr)
    case atStart => exact ⟨S0, rfl, s1, s2, s3, hv0, hB2⟩
    case round =>
      obtain ⟨S, hg, t1, t2, t3, hv, hB⟩ := hrel
      clear hv0 hB2 s1 s2 s3
      have hSl := hlen S t1 t2
      obtain ⟨sa, sc, rfl, hsr⟩ := hv.readsC
      have dS := Dg_words S
      have nS := num_words (Int.le_of_lt t1)
      have hdm := divMod_any (hrl wr hB) hsr hx dS (by omega) hSl (by rw [nS]; exact t1)
      rw [nS, ← HX.out] at hdm
      have q0 : 0 ≤ X / S := Int.ediv_nonneg p1 (Int.le_of_lt t1)
      have r0 := Int.emod_nonneg X (show S ≠ 0 by omega)
      have nQ := num_words q0
      have dQ := Dg_words (X / S)
      have hQl : (words (X / S)).length ≤ 3800000 := by
        have h9 : X / S ≤ X := Int.ediv_le_self _ p1
        have h8 := hlen X hX (by omega)
        have := words_mono q0 h9
        omega
      have hRz := words_nil r0
      have hst := fun h => newton_step hX t1 t3 h
      have hen := fun h => newton_end t1 t3 h
      have hpl := fun (h : X / S < S) => words_mono q0 (Int.le_of_lt h)
      obtain ⟨Q, hQ⟩ : ∃ Q, Q = X / S := ⟨_, rfl⟩
      obtain ⟨R, hR⟩ : ∃ R, R = X % S := ⟨_, rfl⟩
      rw [← hQ] at hdm q0 nQ dQ hQl hst hen hpl
      rw [← hR] at hdm hRz hen
      clear hQ hR r0
      go_wp2_with fail
      refine hdm.mono ?_
      rintro e w3 ⟨vq, vr, rfl, hq, hr, hb3, _⟩
      obtain ⟨qa, qc, rfl, hqr⟩ := hq.readsC
      obtain ⟨ra, rc, rfl, hrr⟩ := hr.readsC
      have hs3 := hsr.later hb3
      have hB3 := hB.trans (hb3.mono hB.size)
      have hcm := fun (w4 : World) (h : Below w3.heap.size w3 w4) => natCmp_any (hqr.later h) (hs3.later h) dQ dS (by omega) (by omega)
      rw [nQ, nS] at hcm
      have hv3 := hv.later hb3
      by_cases hge : S ≤ Q
      · obtain ⟨e1, e2⟩ := hen hge
        have ho : ¬ ordN Q S < 0 := by unfold ordN; rw [if_neg (by omega)]; split <;> omega
        have hoz : (ordN Q S == 0) = decide (Q = S) := (ordN_zero Q S).symm
        have HI : Hid (IsRoot X S) := e1
        by_cases hrz : R = 0
        · have hl0 : (words R).length = 0 := hRz.mpr hrz
          have HD : Hid (decide (Q = S) = decide (S * S = X)) := by
            show _ = _
            rw [decide_eq_decide]
            exact ⟨fun h => e2.mp ⟨hrz, h⟩, fun h => (e2.mpr h).2⟩
          rw [hl0]
          generalize ordN Q S = o at *
          clear hst hen hpl hdm hq hr hqr hrr hrz hl0 hRz e1 e2 hv
          go_wp2_with fail
          refine (hcm w3 (Below.refl _ _)).mono ?_
          rintro e w4 ⟨rfl, hb4⟩
          go_wp2_with fail
          refine (hcm w4 hb4).mono ?_
          rintro e w5 ⟨rfl, hb5⟩
          have hv5 := (hv3.later hb4).later hb5
          have hB4 := hB3.trans (hb4.mono hB3.size)
          have hB5 := hB4.trans (hb5.mono hB4.size)
          clear hcm hv3
          go_wp2
          go_ret2
          exact ⟨_, S, ret_vb HD.out, HI.out, hv5, hB5⟩
        · have hl0 : ((((words R).length : Nat) : Int) == 0) = false := by
            simp; intro h; exact hrz (hRz.mp (by rw [h]; rfl))
          have HD : Hid (decide (S * S = X) = false) := decide_eq_false (fun h => hrz (e2.mpr h).1)
          generalize (words R).length = lr at *
          generalize ordN Q S = o at *
          clear hst hen hpl hdm hq hr hqr hrr hrz hRz e1 e2 hv
          go_wp2_with fail
          refine (hcm w3 (Below.refl _ _)).mono ?_
          rintro e w4 ⟨rfl, hb4⟩
          have hv5 := hv3.later hb4
          have hB4 := hB3.trans (hb4.mono hB3.size)
          clear hcm hv3
          go_wp2
          go_ret2
          exact ⟨_, S, ret_vb HD.out.symm, HI.out, hv5, hB4⟩
      · have hlt : Q < S := by omega
        have ho := ordN_lt hlt
        rw [ho] at hcm
        obtain ⟨n1, n2, n3⟩ := hst hlt
        have hpl1 := fun (w4 : World) (h : Below w3.heap.size w3 w4) => qplus_any (hs3.later h) (hqr.later h) dS dQ (by omega) (hpl hlt)
        rw [nS, nQ] at hpl1
        have dP := Dg_words (S + Q)
        have nP := num_words (show 0 ≤ S + Q by omega)
        have lP : (words (S + Q)).length ≤ 4000000 := by
          have h2 := num_bd (Dg_words S)
          rw [nS] at h2
          have h3 : S + Q < 18446744073709551616 ^ ((words S).length + 1) := by
            rw [Int.pow_succ]; omega
          have := words_short (show 0 ≤ S + Q by omega) h3
          omega
        generalize (words R).length = lr at *
        clear hst hen hpl hdm hq hr hrr hRz hv hv3 ho
        generalize hlq : (words Q).length = lq at *
        generalize hls : (words S).length = ls at *
        clear hlq hls
        go_wp2_with fail
        refine (hcm w3 (Below.refl _ _)).mono ?_
        rintro e w4 ⟨rfl, hb4⟩
        have hB4 := hB3.trans (hb4.mono hB3.size)
        go_wp2_with fail
        refine (hpl1 w4 hb4).mono ?_
        rintro e w5 ⟨v5, rfl, hv5, hb5⟩
        have hB5 := hB4.trans (hb5.mono hB4.size)
        obtain ⟨pa, pc, rfl, hpr⟩ := hv5.readsC
        have hdn := down_any hpr dP lP 1 (by omega)
        rw [nP] at hdn
        have e2 : (2 : Int) ^ 1 = 2 := rfl
        rw [e2] at hdn
        clear hcm hpl1 hv5 hpr
        generalize (words (S + Q)).length = lp at *
        go_wp2_with fail
        refine hdn.mono ?_
        rintro e w6 ⟨v6, rfl, hv6, hb6⟩
        have hv7 := hv6.wider hB5.size
        have hB6 := hB5.trans (hb6.mono hB5.size)
        clear hdn hv6
        go_wp2
        go_roundg ((S + Q) / 2).toNat
        case measure => omega
        case rel => exact ⟨(S + Q) / 2, rfl, n1, by omega, n3, hv7, hB6⟩
theorem root_any {a : Option Addr} {m c1 : Nat} {xs : List Int} {w : World} (hr1 : RowC w a m c1 xs) (hx : Ws xs) (hm : m ≤ 3700000) : Calls Try.prog 16 #[.slice a m c1] w (RootPost w (num xs)) := by
  have key : ∀ (n : Nat) {a : Option Addr} {m c1 : Nat} {xs : List Int} {w : World}, (num xs).toNat = n → RowC w a m c1 xs → Ws xs → m ≤ 3700000 → Calls Try.prog 16 #[.slice a m c1] w (RootPost w (num xs)) := by
    intro n
    induction n using Nat.strongRecOn with
    | _ n ih =>
      intro a m c1 xs w hn hr hx hm
      refine root_step hr hx hm ?_
      intro a' m' c' ys w' hr' hy hm' hlt
      have := num_nonneg hy
      exact ih _ (by omega) rfl hr' hy hm'
  exact key _ rfl hr1 hx hm
end Go.Proofs.Ythjfjpdgjhidfaa
