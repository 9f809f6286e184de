/- package quot: Gcd, Lowest. -/
import Derived.Test.YthjfjpdgjhidfabGreatQuotEuclid
namespace Go.Proofs.YthjfjpdgjhidfabGreat
open Go.ChangeShapes Go.WideShapes Go.ChangeAt Go.RowKit
open Na Ar
set_option linter.unusedVariables false
namespace Na
theorem twos_of {X : Int} (h : 0 < X) : ∃ (i : Nat) (A : Int), X = A * 2 ^ i ∧ A % 2 = 1 ∧ 0 < A ∧ zerosN X = (i : Int) ∧ X / 2 ^ i = A := by
  obtain ⟨k, m, hk⟩ := odd_part X.toNat (by omega)
  have e : X = 2 ^ k * (2 * (m : Int) + 1) := by
    have : X = ((2 ^ (k + 1) * m + 2 ^ k : Nat) : Int) := by omega
    rw [this, Int.natCast_add, Int.natCast_mul, p2cast, p2cast, Int.pow_succ]
    grind
  have hz : zerosN X = k := zerosN_eq e (by omega) (by omega)
  refine ⟨k, 2 * (m : Int) + 1, by rw [e, Int.mul_comm], by omega, by omega, hz, ?_⟩
  rw [e]
  exact Int.mul_ediv_cancel_left _ (by have := p2pos k; omega)
end Na
set_option maxHeartbeats 6400000 in
set_option maxRecDepth 100000 in
theorem gcd_big {a b : Option Addr} {n m c1 c2 : Nat} {xs ys : List Int} {w : World} (hr1 : RowC w a n c1 xs) (hr2 : RowC w b m c2 ys) (hx : Ws xs) (hy : Ws ys) (hn : n ≤ 3700000) (hm : m ≤ 3700000) (hX : 0 < num xs) (hY : 0 < num ys) :
    Calls Tryz.prog 60 #[.slice a n c1, .slice b m c2] w fun e w' => ∃ v, e = .returned v ∧ Own .u64 w' w.heap.size 53 v (words (Int.gcd (num xs) (num ys) : Int)) ∧ Below w.heap.size w w' := by
  have nX := num_words (Int.le_of_lt hX)
  have nY := num_words (Int.le_of_lt hY)
  have dX := Dg_words (num xs)
  have dY := Dg_words (num ys)
  have zX := words_nil (Int.le_of_lt hX)
  have zY := words_nil (Int.le_of_lt hY)
  go_enter Tryz.func60, Tryz.ntmps60
  go_wp2_with fail
  refine (trim_any hr1 hx (by omega)).mono ?_
  rintro e w' ⟨rfl, r1, _, l1, rfl⟩
  go_wp2_with fail
  refine (trim_any hr2 hy (by omega)).mono ?_
  rintro e w' ⟨rfl, r2, _, l2, rfl⟩
  clear hr1 hr2
  obtain ⟨X, hXe⟩ : ∃ X, X = num xs := ⟨_, rfl⟩
  obtain ⟨Y, hYe⟩ : ∃ Y, Y = num ys := ⟨_, rfl⟩
  have HX : Hid (num xs = X) := hXe.symm
  have HY : Hid (num ys = Y) := hYe.symm
  rw [← hXe] at nX dX zX r1 hX l1 ⊢
  rw [← hYe] at nY dY zY r2 hY l2 ⊢
  clear hXe hYe
  have HXY : Hid ((Int.gcd (num xs) (num ys) : Int) = (Int.gcd X Y : Int)) := by show _ = _; rw [HX.out, HY.out]
  obtain ⟨i, A, eX, oA, qA, zi, dvA⟩ := twos_of hX
  obtain ⟨j, B, eY, oB, qB, zj, dvB⟩ := twos_of hY
  have hi9 : i ≤ 250000000 := by
    have b1 := num_bd dX
    rw [nX] at b1
    have b2 : (2 : Int) ^ i ≤ X := by
      have p := p2pos i
      have : 1 * 2 ^ i ≤ A * 2 ^ i := Int.mul_le_mul_of_nonneg_right (by omega) (Int.le_of_lt p)
      omega
    by_cases g : i ≤ 250000000
    · exact g
    · exfalso
      rw [wpow2] at b1
      have := p2mono (show 64 * (words X).length ≤ i by omega)
      omega
  have hj9 : j ≤ 250000000 := by
    have b1 := num_bd dY
    rw [nY] at b1
    have b2 : (2 : Int) ^ j ≤ Y := by
      have p := p2pos j
      have : 1 * 2 ^ j ≤ B * 2 ^ j := Int.mul_le_mul_of_nonneg_right (by omega) (Int.le_of_lt p)
      omega
    by_cases g : j ≤ 250000000
    · exact g
    · exfalso
      rw [wpow2] at b1
      have := p2mono (show 64 * (words Y).length ≤ j by omega)
      omega
  have HT : Hid ((Int.gcd X Y : Int) = (Int.gcd A B : Int) * 2 ^ (min i j)) := by
    show _ = _
    have := gcd_twos i j oA oB (Int.le_of_lt qA) (Int.le_of_lt qB)
    rw [← eX, ← eY] at this
    exact this
  have hzx := fun (w1 : World) (h : Below w.heap.size w w1) => natZeros_any (r1.later h) dX (by omega)
  have hzy := fun (w1 : World) (h : Below w.heap.size w w1) => natZeros_any (r2.later h) dY (by omega)
  rw [nX, zi] at hzx
  rw [nY, zj] at hzy
  have hdx := fun (w1 : World) (h : Below w.heap.size w w1) => down_any (r1.later h) dX (by omega) i (by omega)
  have hdy := fun (w1 : World) (h : Below w.heap.size w w1) => down_any (r2.later h) dY (by omega) j (by omega)
  rw [nX, dvA] at hdx
  rw [nY, dvB] at hdy
  have lA : (words A).length ≤ 3700000 := by
    have : A ≤ X := by
      have p := p2pos i
      have : A * 1 ≤ A * 2 ^ i := Int.mul_le_mul_of_nonneg_left (by omega) (Int.le_of_lt qA)
      omega
    have := words_mono (Int.le_of_lt qA) this
    omega
  have lB : (words B).length ≤ 3700000 := by
    have : B ≤ Y := by
      have p := p2pos j
      have : B * 1 ≤ B * 2 ^ j := Int.mul_le_mul_of_nonneg_left (by omega) (Int.le_of_lt qB)
      omega
    have := words_mono (Int.le_of_lt qB) this
    omega
  have dA := Dg_words A
  have dB := Dg_words B
  have nA := num_words (Int.le_of_lt qA)
  have nB := num_words (Int.le_of_lt qB)
  have tx : ((((words X).length : Nat) : Int) == 0) = false := by simp; intro h; have := zX.mp (by rw [h]; rfl); omega
  have ty : ((((words Y).length : Nat) : Int) == 0) = false := by simp; intro h; have := zY.mp (by rw [h]; rfl); omega
  clear r1 r2 zX zY nX nY dX dY eX eY zi zj dvA dvB oA oB
  generalize (words X).length = lx at *
  generalize (words Y).length = ly at *
  go_wp2_with fail
  refine (hzx w (Below.refl _ _)).mono ?_
  rintro e w2 ⟨rfl, hb2⟩
  go_wp2_with fail
  refine (hzy w2 hb2).mono ?_
  rintro e w3 ⟨rfl, hb3⟩
  have hB3 := hb2.trans (hb3.mono hb2.size)
  clear hzx hzy
  go_wp2_with fail
  refine (hdx w3 hB3).mono ?_
  rintro e w4 ⟨va, rfl, hva, hb4⟩
  have hB4 := hB3.trans (hb4.mono hB3.size)
  go_wp2_with fail
  refine (hdy w4 hB4).mono ?_
  rintro e w5 ⟨vb, rfl, hvb, hb5⟩
  have hB5 := hB4.trans (hb5.mono hB4.size)
  have hva5 := hva.later hb5
  obtain ⟨aa, ac, rfl, hra5⟩ := hva5.readsC
  obtain ⟨ba, bc, rfl, hrb5⟩ := hvb.readsC
  have hcm := fun (w6 : World) (h : Below w5.heap.size w5 w6) => natCmp_any (hra5.later h) (hrb5.later h) dA dB (by omega) (by omega)
  rw [nA, nB] at hcm
  clear hdx hdy hva hvb hva5 hb2 hb3 hb4 hb5
  by_cases hsw : A < B
  · have ho := ordN_lt hsw
    rw [ho] at hcm
    by_cases hle : (i : Int) ≤ (j : Int)
    · have HGG : Hid ((Int.gcd X Y : Int) = (Int.gcd A B : Int) * 2 ^ i) := by
        show _ = _
        rw [HT.out, Nat.min_eq_left (by omega)]
      go_wp2_with fail
      refine (hcm w5 (Below.refl _ _)).mono ?_
      rintro e w6 ⟨rfl, hb6⟩
      have hB6 := hB5.trans (hb6.mono hB5.size)
      have heu := euclid_any (hrb5.later hb6) (hra5.later hb6) qB (Int.le_of_lt qA) (by omega) (by omega)
      rw [Int.gcd_comm] at heu
      clear hcm hra5 hrb5
      generalize (words A).length = la at *
      generalize (words B).length = lb at *
      go_wp2_with fail
      refine heu.mono ?_
      rintro e w7 ⟨ga, gl, gcp, rfl, hgr, hgl, hb7⟩
      have hB7 := hB6.trans (hb7.mono hB6.size)
      have hup := up_any hgr (Dg_words _) (by omega) i (by omega)
      rw [num_words (show (0 : Int) ≤ (Int.gcd A B : Int) by omega)] at hup
      clear heu
      go_wp2_with fail
      refine hup.mono ?_
      rintro e w8 ⟨v8, rfl, hv8, hb8⟩
      have hv9 := hv8.wider hB7.size
      have hB8 := hB7.trans (hb8.mono hB7.size)
      clear hup hgr
      go_wp2
      go_ret
      exact ⟨_, rfl, by rw [HXY.out, HGG.out]; exact hv9, hB8⟩
    · have HGG : Hid ((Int.gcd X Y : Int) = (Int.gcd A B : Int) * 2 ^ j) := by
        show _ = _
        rw [HT.out, Nat.min_eq_right (by omega)]
      go_wp2_with fail
      refine (hcm w5 (Below.refl _ _)).mono ?_
      rintro e w6 ⟨rfl, hb6⟩
      have hB6 := hB5.trans (hb6.mono hB5.size)
      have heu := euclid_any (hrb5.later hb6) (hra5.later hb6) qB (Int.le_of_lt qA) (by omega) (by omega)
      rw [Int.gcd_comm] at heu
      clear hcm hra5 hrb5
      generalize (words A).length = la at *
      generalize (words B).length = lb at *
      go_wp2_with fail
      refine heu.mono ?_
      rintro e w7 ⟨ga, gl, gcp, rfl, hgr, hgl, hb7⟩
      have hB7 := hB6.trans (hb7.mono hB6.size)
      have hup := up_any hgr (Dg_words _) (by omega) j (by omega)
      rw [num_words (show (0 : Int) ≤ (Int.gcd A B : Int) by omega)] at hup
      clear heu
      go_wp2_with fail
      refine hup.mono ?_
      rintro e w8 ⟨v8, rfl, hv8, hb8⟩
      have hv9 := hv8.wider hB7.size
      have hB8 := hB7.trans (hb8.mono hB7.size)
      clear hup hgr
      go_wp2
      go_ret
      exact ⟨_, rfl, by rw [HXY.out, HGG.out]; exact hv9, hB8⟩
  · have ho : ¬ ordN A B < 0 := by unfold ordN; rw [if_neg hsw]; split <;> omega
    generalize ordN A B = o at *
    by_cases hle : (i : Int) ≤ (j : Int)
    · have HGG : Hid ((Int.gcd X Y : Int) = (Int.gcd A B : Int) * 2 ^ i) := by
        show _ = _
        rw [HT.out, Nat.min_eq_left (by omega)]
      go_wp2_with fail
      refine (hcm w5 (Below.refl _ _)).mono ?_
      rintro e w6 ⟨rfl, hb6⟩
      have hB6 := hB5.trans (hb6.mono hB5.size)
      have heu := euclid_any (hra5.later hb6) (hrb5.later hb6) qA (Int.le_of_lt qB) (by omega) (by omega)
      skip
      clear hcm hra5 hrb5
      generalize (words A).length = la at *
      generalize (words B).length = lb at *
      go_wp2_with fail
      refine heu.mono ?_
      rintro e w7 ⟨ga, gl, gcp, rfl, hgr, hgl, hb7⟩
      have hB7 := hB6.trans (hb7.mono hB6.size)
      have hup := up_any hgr (Dg_words _) (by omega) i (by omega)
      rw [num_words (show (0 : Int) ≤ (Int.gcd A B : Int) by omega)] at hup
      clear heu
      go_wp2_with fail
      refine hup.mono ?_
      rintro e w8 ⟨v8, rfl, hv8, hb8⟩
      have hv9 := hv8.wider hB7.size
      have hB8 := hB7.trans (hb8.mono hB7.size)
      clear hup hgr
      go_wp2
      go_ret
      exact ⟨_, rfl, by rw [HXY.out, HGG.out]; exact hv9, hB8⟩
    · have HGG : Hid ((Int.gcd X Y : Int) = (Int.gcd A B : Int) * 2 ^ j) := by
        show _ = _
        rw [HT.out, Nat.min_eq_right (by omega)]
      go_wp2_with fail
      refine (hcm w5 (Below.refl _ _)).mono ?_
      rintro e w6 ⟨rfl, hb6⟩
      have hB6 := hB5.trans (hb6.mono hB5.size)
      have heu := euclid_any (hra5.later hb6) (hrb5.later hb6) qA (Int.le_of_lt qB) (by omega) (by omega)
      skip
      clear hcm hra5 hrb5
      generalize (words A).length = la at *
      generalize (words B).length = lb at *
      go_wp2_with fail
      refine heu.mono ?_
      rintro e w7 ⟨ga, gl, gcp, rfl, hgr, hgl, hb7⟩
      have hB7 := hB6.trans (hb7.mono hB6.size)
      have hup := up_any hgr (Dg_words _) (by omega) j (by omega)
      rw [num_words (show (0 : Int) ≤ (Int.gcd A B : Int) by omega)] at hup
      clear heu
      go_wp2_with fail
      refine hup.mono ?_
      rintro e w8 ⟨v8, rfl, hv8, hb8⟩
      have hv9 := hv8.wider hB7.size
      have hB8 := hB7.trans (hb8.mono hB7.size)
      clear hup hgr
      go_wp2
      go_ret
      exact ⟨_, rfl, by rw [HXY.out, HGG.out]; exact hv9, hB8⟩
end Go.Proofs.YthjfjpdgjhidfabGreat
