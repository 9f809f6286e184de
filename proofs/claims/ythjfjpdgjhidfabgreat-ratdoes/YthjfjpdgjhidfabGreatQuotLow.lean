/- package quot: Lowest; plumblaw03.divides. -/
import Derived.Test.YthjfjpdgjhidfabGreatQuotLaw
namespace Go.Proofs.YthjfjpdgjhidfabGreat
open Go.ChangeShapes Go.WideShapes Go.ChangeAt Go.RowKit
open Na Ar
set_option linter.unusedVariables false
set_option maxHeartbeats 3200000 in
set_option maxRecDepth 100000 in
theorem lowest_any {a b : Option Addr} {n m c1 c2 : Nat} {xs ys : List Int} {w : World} (hr1 : RowC w a n c1 xs) (hr2 : RowC w b m c2 ys) (hx : Ws xs) (hy : Ws ys) (hn : n ≤ 3700000) (hm : m ≤ 3700000) (hG : 0 < (Int.gcd (num xs) (num ys) : Int)) :
    Calls Tryz.prog 56 #[.slice a n c1, .slice b m c2] w fun e w' => ∃ v1 v2, e = .returned (.tuple #[v1, v2]) ∧ Own .u64 w' w.heap.size 53 v1 (words (num xs / (Int.gcd (num xs) (num ys) : Int))) ∧ Own .u64 w' w.heap.size 53 v2 (words (num ys / (Int.gcd (num xs) (num ys) : Int))) ∧ Below w.heap.size w w' ∧ Apart v1 v2 := by
  have hgc := gcd_any hr1 hr2 hx hy hn hm
  have p1 := num_nonneg hx
  have p2 := num_nonneg hy
  have l1 := hr1.1.1
  have l2 := hr2.1.1
  have hGl : (words (Int.gcd (num xs) (num ys) : Int)).length ≤ 3800000 := by
    by_cases hX : num xs = 0
    · have d : (Int.gcd (num xs) (num ys) : Int) ∣ num ys := Int.gcd_dvd_right ..
      have hY : 0 < num ys := by
        by_cases g : num ys = 0
        · rw [hX, g] at hG; simp at hG
        · omega
      have := words_mono (Int.le_of_lt hG) (Int.le_of_dvd hY d)
      have := words_le hy
      omega
    · have d : (Int.gcd (num xs) (num ys) : Int) ∣ num xs := Int.gcd_dvd_left ..
      have := words_mono (Int.le_of_lt hG) (Int.le_of_dvd (by omega) d)
      have := words_le hx
      omega
  obtain ⟨X, hX⟩ : ∃ X, X = num xs := ⟨_, rfl⟩
  obtain ⟨Y, hY⟩ : ∃ Y, Y = num ys := ⟨_, rfl⟩
  obtain ⟨G, hGe⟩ : ∃ G, G = (Int.gcd (num xs) (num ys) : Int) := ⟨_, rfl⟩
  rw [← hGe] at hgc hG hGl ⊢
  have nG := num_words (Int.le_of_lt hG)
  have dG := Dg_words G
  have hd1 := fun (w1 : World) (o : Option Addr) (l c : Nat) (h : Below w.heap.size w w1) (r : RowC w1 o l c (words G)) (hl : l ≤ 3800000) => divMod_any (hr1.later h) r hx dG (by omega) hl (by rw [nG]; exact hG)
  have hd2 := fun (w1 : World) (o : Option Addr) (l c : Nat) (h : Below w.heap.size w w1) (r : RowC w1 o l c (words G)) (hl : l ≤ 3800000) => divMod_any (hr2.later h) r hy dG (by omega) hl (by rw [nG]; exact hG)
  rw [nG] at hd1 hd2
  clear hX hY hGe hr1 hr2
  go_enter Tryz.func56, Tryz.ntmps56
  go_wp2_with fail
  refine hgc.mono ?_
  rintro e w1 ⟨v, rfl, hv, hb1⟩
  obtain ⟨ga, gc, rfl, hgr⟩ := hv.readsC
  have h1 := hd1 w1 ga _ gc hb1 hgr hGl
  have h2 := fun (w2 : World) (h : Below w1.heap.size w1 w2) => hd2 w2 ga _ gc (hb1.trans (h.mono hb1.size)) (hgr.later h) hGl
  clear hd1 hd2 hgc hv
  generalize (words G).length = lg at *
  go_wp2_with fail
  refine h1.mono ?_
  rintro e w2 ⟨q1, s1, rfl, hq1, _, hb2, _⟩
  have h3 := h2 w2 hb2
  have hB2 := hb1.trans (hb2.mono hb1.size)
  clear h1 h2
  go_wp2_with fail
  refine h3.mono ?_
  rintro e w3 ⟨q2, s2, rfl, hq2, _, hb3, _⟩
  have hB3 := hB2.trans (hb3.mono hB2.size)
  have hap := apart_of hq1 hq2 (Nat.le_refl _)
  have o1 := (hq1.later hb3).wider hb1.size
  have o2 := hq2.wider hB2.size
  clear h3
  go_wp2
  go_ret2
  exact ⟨_, _, rfl, o1, o2, hB3, hap⟩
theorem lowestQ {a b : Option Addr} {n m c1 c2 : Nat} {xs ys : List Int} {A B : Int} {w : World} (hr1 : RowC w a n c1 xs) (hr2 : RowC w b m c2 ys) (h1 : Nm xs A) (h2 : Nm ys B) (hn : n ≤ 3700000) (hm : m ≤ 3700000) (hG : 0 < (Int.gcd A B : Int)) :
    Calls Tryz.prog 56 #[.slice a n c1, .slice b m c2] w fun e w' => ∃ a1 n1 d1 l1 a2 n2 d2 l2, e = .returned (.tuple #[.slice a1 n1 d1, .slice a2 n2 d2]) ∧ RowC w' a1 n1 d1 l1 ∧ Nm l1 (A / (Int.gcd A B : Int)) ∧ Hid (l1 = words (A / (Int.gcd A B : Int))) ∧ RowC w' a2 n2 d2 l2 ∧ Nm l2 (B / (Int.gcd A B : Int)) ∧ Hid (l2 = words (B / (Int.gcd A B : Int))) ∧ Below w.heap.size w w' := by
  refine (lowest_any hr1 hr2 h1.ws h2.ws hn hm (by rw [h1.num, h2.num]; exact hG)).mono ?_
  rintro e w' ⟨v1, v2, rfl, ho1, ho2, hb, _⟩
  rw [h1.num, h2.num] at ho1 ho2
  have hA := h1.nonneg
  have hB := h2.nonneg
  have q0 : 0 ≤ A / (Int.gcd A B : Int) := Int.ediv_nonneg hA (Int.le_of_lt hG)
  have r0 : 0 ≤ B / (Int.gcd A B : Int) := Int.ediv_nonneg hB (Int.le_of_lt hG)
  have la : (words A).length ≤ 4000000 := by rw [← h1.num]; exact Nat.le_trans (words_le h1.ws) h1.len
  have lb : (words B).length ≤ 4000000 := by rw [← h2.num]; exact Nat.le_trans (words_le h2.ws) h2.len
  have l1 := words_mono q0 (Int.ediv_le_self (Int.gcd A B : Int) hA)
  have l2 := words_mono r0 (Int.ediv_le_self (Int.gcd A B : Int) hB)
  obtain ⟨a1, d1, rfl, q1⟩ := ho1.readsC
  obtain ⟨a2, d2, rfl, q2⟩ := ho2.readsC
  exact ⟨a1, _, d1, _, a2, _, d2, _, rfl, q1, ⟨Dg_words _, num_words q0, by omega⟩, rfl, q2, ⟨Dg_words _, num_words r0, by omega⟩, rfl, hb⟩
end Go.Proofs.YthjfjpdgjhidfabGreat
