/- What the laws of layer 3 call: the answers under fresh names; the laws' own helpers. -/
import Derived.Test.YthjfjpdgjhidfabGreatQuotGcd
namespace Go.Proofs.YthjfjpdgjhidfabGreat
open Go.ChangeShapes Go.WideShapes Go.ChangeAt Go.RowKit
open Na Ar
set_option linter.unusedVariables false
set_option maxHeartbeats 1600000 in
set_option maxRecDepth 100000 in
theorem gcd_any {a b : Option Addr} {n m c1 c2 : Nat} {xs ys : List Int} {w : World} (hr1 : RowC w a n c1 xs) (hr2 : RowC w b m c2 ys) (hx : Ws xs) (hy : Ws ys) (hn : n ≤ 3700000) (hm : m ≤ 3700000) :
    Calls Tryz.prog 60 #[.slice a n c1, .slice b m c2] w fun e w' => ∃ v, e = .returned v ∧ Own .u64 w' w.heap.size 53 v (words (Int.gcd (num xs) (num ys) : Int)) ∧ Below w.heap.size w w' := by
  have p1 := num_nonneg hx
  have p2 := num_nonneg hy
  by_cases hX : num xs = 0
  · have HG : Hid ((Int.gcd (num xs) (num ys) : Int) = num ys) := by show _ = _; rw [hX, Int.gcd_comm, Int.gcd_zero]; omega
    have hl : (words (num xs)).length = 0 := (words_nil p1).mpr hX
    have nY := num_words p2
    have dY := Dg_words (num ys)
    have hno := fun (r : RowC w b (words (num ys)).length c2 (words (num ys))) h => natNorm_any r dY h
    rw [nY] at hno
    clear hX
    go_enter Tryz.func60, Tryz.ntmps60
    go_wp2_with fail
    refine (trim_any hr1 hx (by omega)).mono ?_
    rintro e w' ⟨rfl, _, _, _, rfl⟩
    rw [hl]
    go_wp2_with fail
    refine (trim_any hr2 hy (by omega)).mono ?_
    rintro e w' ⟨rfl, r2, _, l2, rfl⟩
    have h := hno r2 (by omega)
    clear hno r2 hl hr1 hr2
    generalize (words (num ys)).length = ly at *
    go_wp2_with fail
    refine h.mono ?_
    rintro e w2 ⟨v, rfl, hv, hb⟩
    clear h
    go_wp2
    go_ret
    exact ⟨_, rfl, by rw [HG.out]; exact hv, hb⟩
  · by_cases hY : num ys = 0
    · have HG : Hid ((Int.gcd (num xs) (num ys) : Int) = num xs) := by show _ = _; rw [hY, Int.gcd_zero]; omega
      have hl : (words (num ys)).length = 0 := (words_nil p2).mpr hY
      have nX := num_words p1
      have dX := Dg_words (num xs)
      have zX := words_nil p1
      have hno := fun (r : RowC w a (words (num xs)).length c1 (words (num xs))) h => natNorm_any r dX h
      rw [nX] at hno
      have tx : ((((words (num xs)).length : Nat) : Int) == 0) = false := by simp; intro h; exact hX (zX.mp (by rw [h]; rfl))
      clear hY zX hX
      go_enter Tryz.func60, Tryz.ntmps60
      go_wp2_with fail
      refine (trim_any hr1 hx (by omega)).mono ?_
      rintro e w' ⟨rfl, r1, _, l1, rfl⟩
      go_wp2_with fail
      refine (trim_any hr2 hy (by omega)).mono ?_
      rintro e w' ⟨rfl, _, _, _, rfl⟩
      rw [hl]
      have h := hno r1 (by omega)
      clear hno r1 hl hr1 hr2
      generalize (words (num xs)).length = lx at *
      go_wp2_with fail
      refine h.mono ?_
      rintro e w2 ⟨v, rfl, hv, hb⟩
      clear h
      go_wp2
      go_ret
      exact ⟨_, rfl, by rw [HG.out]; exact hv, hb⟩
    · exact gcd_big hr1 hr2 hx hy hn hm (by omega) (by omega)
section
variable {a b : Option Addr} {n m c1 c2 : Nat} {xs ys : List Int} {A B : Int} {w : World} {k : Nat}
theorem divModQ (hr1 : RowC w a n c1 xs) (hr2 : RowC w b m c2 ys) (h1 : Nm xs A) (h2 : Nm ys B) (hB : 0 < B) (hn : n ≤ 3700000) (hm : m ≤ 3700000) :
    Calls Tryz.prog 37 #[.slice a n c1, .slice b m c2] w fun e w' => ∃ a1 n1 d1 l1 a2 n2 d2 l2, e = .returned (.tuple #[.slice a1 n1 d1, .slice a2 n2 d2, .int .i64 0]) ∧ RowC w' a1 n1 d1 l1 ∧ Nm l1 (A / B) ∧ Hid (l1 = words (A / B)) ∧ RowC w' a2 n2 d2 l2 ∧ Nm l2 (A % B) ∧ Hid (l2 = words (A % B)) ∧ Below w.heap.size w w' := by
  refine (divMod_any hr1 hr2 h1.ws h2.ws (by omega) (by omega) (by rw [h2.num]; exact hB)).mono ?_
  rintro e w' ⟨v1, v2, rfl, ho1, ho2, hb, _⟩
  rw [h1.num, h2.num] at ho1 ho2
  have hA := h1.nonneg
  have q0 : 0 ≤ A / B := Int.ediv_nonneg hA (Int.le_of_lt hB)
  have r0 := Int.emod_nonneg A (show B ≠ 0 by omega)
  have r1 := Int.emod_lt_of_pos A hB
  have la : (words A).length ≤ 4000000 := by rw [← h1.num]; exact Nat.le_trans (words_le h1.ws) h1.len
  have lb : (words B).length ≤ 4000000 := by rw [← h2.num]; exact Nat.le_trans (words_le h2.ws) h2.len
  have l1 := words_mono q0 (Int.ediv_le_self B hA)
  have l2 := words_mono r0 (Int.le_of_lt r1)
  obtain ⟨a1, d1, rfl, q1⟩ := ho1.readsC
  obtain ⟨a2, d2, rfl, q2⟩ := ho2.readsC
  exact ⟨a1, _, d1, _, a2, _, d2, _, rfl, q1, ⟨Dg_words _, num_words q0, by omega⟩, rfl, q2, ⟨Dg_words _, num_words r0, by omega⟩, rfl, hb⟩
theorem divZeroQ (hr1 : RowC w a n c1 xs) (hr2 : RowC w b m c2 ys) (h1 : Nm xs A) (h2 : Nm ys 0) (hn : n ≤ 3700000) (hm : m ≤ 3700000) :
    Calls Tryz.prog 37 #[.slice a n c1, .slice b m c2] w fun e w' => ∃ a1 d1 a2 d2, e = .returned (.tuple #[.slice a1 0 d1, .slice a2 0 d2, .int .i64 30]) ∧ Below w.heap.size w w' := by
  refine (divModZero_any hr1 hr2 h1.ws h2.ws (by omega) (by omega) h2.num).mono ?_
  rintro e w' ⟨v1, v2, rfl, ho1, ho2, hb, _⟩
  obtain ⟨a1, d1, rfl, q1⟩ := ho1.readsC
  obtain ⟨a2, d2, rfl, q2⟩ := ho2.readsC
  exact ⟨a1, d1, a2, d2, rfl, hb⟩
theorem smallQ {d : Int} (hr1 : RowC w a n c1 xs) (h1 : Nm xs A) (hd : U d) (hd0 : d ≠ 0) (hn : n ≤ 3700000) :
    Calls Tryz.prog 63 #[.slice a n c1, .int .u64 d] w fun e w' => ∃ a1 n1 d1 l1, e = .returned (.tuple #[.slice a1 n1 d1, .int .u64 (A % d), .int .i64 0]) ∧ RowC w' a1 n1 d1 l1 ∧ Nm l1 (A / d) ∧ Hid (l1 = words (A / d)) ∧ Below w.heap.size w w' := by
  refine (small_any hr1 h1.ws (by omega) hd hd0).mono ?_
  rintro e w' ⟨v1, rfl, ho1, hb⟩
  rw [h1.num] at ho1 ⊢
  have hA := h1.nonneg
  have q0 : 0 ≤ A / d := Int.ediv_nonneg hA hd.1
  have la : (words A).length ≤ 4000000 := by rw [← h1.num]; exact Nat.le_trans (words_le h1.ws) h1.len
  have l1 := words_mono q0 (Int.ediv_le_self d hA)
  obtain ⟨a1, d1, rfl, q1⟩ := ho1.readsC
  exact ⟨a1, _, d1, _, rfl, q1, ⟨Dg_words _, num_words q0, by omega⟩, rfl, hb⟩
theorem gcdQ (hr1 : RowC w a n c1 xs) (hr2 : RowC w b m c2 ys) (h1 : Nm xs A) (h2 : Nm ys B) (hL : Lt (Int.gcd A B : Int) k) (hk : k ≤ 4000000) (hn : n ≤ 3700000) (hm : m ≤ 3700000) :
    Calls Tryz.prog 60 #[.slice a n c1, .slice b m c2] w fun e w' => ∃ a1 n1 d1 l1, e = .returned (.slice a1 n1 d1) ∧ RowC w' a1 n1 d1 l1 ∧ Nm l1 (Int.gcd A B : Int) ∧ Hid (l1 = words (Int.gcd A B : Int)) ∧ Below w.heap.size w w' := by
  refine (gcd_any hr1 hr2 h1.ws h2.ws hn hm).mono ?_
  rintro e w' ⟨v1, rfl, ho1, hb⟩
  rw [h1.num, h2.num] at ho1
  obtain ⟨a1, d1, rfl, q1⟩ := ho1.readsC
  exact ⟨a1, _, d1, _, rfl, q1, hL.nm hk, rfl, hb⟩
end
end Go.Proofs.YthjfjpdgjhidfabGreat
