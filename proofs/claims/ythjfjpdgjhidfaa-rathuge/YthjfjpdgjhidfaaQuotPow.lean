/- package quot: Pow. -/
import Derived.Test.YthjfjpdgjhidfaaQuotDivMod
import Derived.Test.YthjfjpdgjhidfaaBaseB
namespace Go.Proofs.Ythjfjpdgjhidfaa
open Go.ChangeShapes Go.WideShapes Go.ChangeAt Go.RowKit
open Na Ar
set_option linter.unusedVariables false
namespace Na
theorem and_oneI (x : Int) : bits .and .i64 x 1 = x % 2 := by
  have h : (BitVec.ofInt 64 1).toNat = 2 ^ 1 - 1 := by decide
  have e : (BitVec.ofInt 64 x &&& BitVec.ofInt 64 1).toNat = (x % ((2 ^ 64 : Nat) : Int)).toNat % 2 ^ 1 := by
    rw [BitVec.toNat_and, BitVec.toNat_ofInt, h, Nat.and_two_pow_sub_one_eq_mod]
  show IntKind.i64.wrap ((BitVec.ofInt 64 x &&& BitVec.ofInt 64 1).toNat : Nat) = _
  rw [e, IntKind.wrap_i64]
  omega
theorem half_div (n j : Nat) : n / 2 ^ j = 2 * (n / 2 ^ (j + 1)) + n / 2 ^ j % 2 := by
  have : n / 2 ^ (j + 1) = n / 2 ^ j / 2 := by rw [Nat.pow_succ, Nat.div_div_eq_div_mul]
  rw [this]; omega
theorem ipow_pos {X : Int} (h : 1 ≤ X) (n : Nat) : 1 ≤ X ^ n := by
  induction n with
  | zero => simp
  | succ n ih =>
    rw [Int.pow_succ]
    have := Int.mul_le_mul_of_nonneg_left h (show 0 ≤ X ^ n by omega)
    omega
theorem ipow_mono {X : Int} (h : 1 ≤ X) {a b : Nat} (hab : a ≤ b) : X ^ a ≤ X ^ b := by
  obtain ⟨c, rfl⟩ : ∃ c, b = a + c := ⟨b - a, by omega⟩
  rw [Int.pow_add]
  have p := ipow_pos h a
  have := Int.mul_le_mul_of_nonneg_left (ipow_pos h c) (show 0 ≤ X ^ a by omega)
  omega
theorem ipow_base {X Y : Int} (h0 : 0 ≤ X) (h : X ≤ Y) (n : Nat) : X ^ n ≤ Y ^ n := by
  induction n with
  | zero => simp
  | succ n ih =>
    rw [Int.pow_succ, Int.pow_succ]
    exact Int.mul_le_mul ih h h0 (Int.le_trans (Int.pow_nonneg h0) ih)
theorem res_above {A B : Int} (hA : 0 ≤ A) (h : A ≤ B) (hh : resE A ≠ 0) : resE B = 21 ∧ resL B = [] ∧ resE A = 21 ∧ resL A = [] := by
  have l : 4096 < (words A).length := by
    unfold resE at hh
    by_cases g : (words A).length ≤ 4096
    · rw [if_pos g] at hh; exact absurd rfl hh
    · omega
  have m := words_mono hA h
  have a := res_huge (N := A) l
  have b := res_huge (N := B) (by omega)
  exact ⟨b.2, b.1, a.2, a.1⟩
theorem res_ok {A : Int} (h : resE A = 0) : resL A = words A ∧ (words A).length ≤ 4096 := by
  unfold resE at h
  by_cases g : (words A).length ≤ 4096
  · exact ⟨(res_fits g).1, g⟩
  · rw [if_neg g] at h; omega
end Na
set_option maxHeartbeats 3200000 in
set_option maxRecDepth 100000 in
theorem raise_any {a : Option Addr} {m c1 : Nat} {xs : List Int} {w : World} (hr1 : RowC w a m c1 xs) (hx : Ws xs) (hm : m ≤ 4000000) (h1 : 1 ≤ num xs) (n : Nat) (hn : 0 < n) (hn9 : n ≤ 4611686018427387904) :
    Calls Try.prog 56 #[.slice a m c1, .int .i64 (n : Int)] w fun e w' => ∃ v, e = .returned (.tuple #[v, .int .i64 (resE (num xs ^ n))]) ∧ Own .u64 w' w.heap.size 25 v (resL (num xs ^ n)) ∧ Below w.heap.size w w' := by
  have hU : U (n : Int) := by unfold U; omega
  have hlen := fun w => len_any hU w
  obtain ⟨K, hK64, hKe, hK1, hK2⟩ := lenW_pos hU (by omega)
  rw [hKe] at hlen
  have hfr := natFrom_any (v := 1) (by omega) w
  go_enter Try.func56, Try.ntmps56
  go_wp2_with fail
  refine hfr.mono ?_
  rintro e w1 ⟨o, rfl, ho, hb1⟩
  go_wp2_with fail
  refine (hlen _).mono ?_
  rintro e w' ⟨rfl, rfl⟩
  clear hfr hlen
  have hz : Hid (n / 2 ^ (K + 1) = 0) := Nat.div_eq_of_lt (by have := Int.ofNat_lt.mp (show ((n : Nat) : Int) < ((2 ^ (K + 1) : Nat) : Int) by rw [p2cast]; exact hK2); exact this)
  have h0 : Hid (resL (num xs ^ (n / 2 ^ (K + 1))) = words 1 ∧ resE (num xs ^ (n / 2 ^ (K + 1))) = 0) := by
    show _ ∧ _
    rw [hz.out, Int.pow_zero]
    exact res_fits (by have := words_len1 (v := 1) (by omega); omega)
  go_wp2
  go_loopw [6, 7, 8] (fun o e i wr => ∃ (k : Nat) (I E : Int), i = .int .i64 I ∧ I = (k : Int) - 1 ∧ e = .int .i64 E ∧ Hid (E = resE (num xs ^ (n / 2 ^ k))) ∧ k ≤ K + 1 ∧ Own .u64 wr w.heap.size 25 o (resL (num xs ^ (n / 2 ^ k))) ∧ Below w.heap.size w wr) (fun _ _ i _ => (intOf i + 1).toNat)
  case atStart => exact ⟨K + 1, _, 0, rfl, by omega, rfl, h0.out.2.symm, Nat.le_refl _, by rw [h0.out.1]; exact ho, hb1⟩
  case round =>
    obtain ⟨k, I, E, rfl, hI, rfl, hE, hk, hou, hnx⟩ := hrel
    clear ho hb1 hz h0
    by_cases hk0 : k = 0
    · have e1 : Hid (n / 2 ^ k = n) := by show _ = _; rw [hk0]; simp
      rw [e1.out] at hou
      have E1 : Hid (E = resE (num xs ^ n)) := by have := hE.out; rw [e1.out] at this; exact this
      have hneg : I < 0 := by omega
      clear hI hE
      go_wp2
      go_ret2
      exact ⟨_, by rw [← E1.out]; rfl, hou, hnx⟩
    · by_cases hE0 : E = 0
      · obtain ⟨j, rfl⟩ : ∃ j, k = j + 1 := ⟨k - 1, by omega⟩
        have hI' : I = (j : Int) := by omega
        clear hI hk0
        subst hI'
        have hE1 := hE.out
        rw [hE0] at hE1
        obtain ⟨el, eb⟩ := res_ok hE1.symm
        rw [el] at hou
        subst hE0
        obtain ⟨P, hP⟩ : ∃ P, P = num xs ^ (n / 2 ^ (j + 1)) := ⟨_, rfl⟩
        have HP : Hid (num xs ^ (n / 2 ^ (j + 1)) = P) := hP.symm
        rw [← hP] at hou eb
        have hP0 : 1 ≤ P := by rw [hP]; exact ipow_pos h1 _
        obtain ⟨oa, oc, rfl, hor⟩ := hou.readsC
        have hPn := num_words (show 0 ≤ P by omega)
        have dP := Dg_words P
        have hmul := natMul_any hor hor dP dP (by omega) (by omega)
        rw [hPn] at hmul
        have hj64 : j < 64 := by omega
        have hhd := half_div n j
        have hand := and_oneI ((n : Int) / 2 ^ j)
        have hcn : ((n : Int) / 2 ^ j) % 2 = ((n / 2 ^ j % 2 : Nat) : Int) := by
          rw [Int.natCast_emod, Int.natCast_ediv, p2cast]; rfl
        rw [hcn] at hand
        have hPP : P * P = num xs ^ (2 * (n / 2 ^ (j + 1))) := by rw [← HP.out, Nat.two_mul, Int.pow_add]
        have hPP0 : 1 ≤ P * P := by rw [hPP]; exact ipow_pos h1 _
        clear hP hE1 hE el hcn
        by_cases hb : n / 2 ^ j % 2 = 1
        · rw [hb] at hand hhd
          have hand1 : bits BinOp.and IntKind.i64 ((n : Int) / 2 ^ j) 1 = 1 := hand
          have HQ : Hid (num xs ^ (n / 2 ^ j) = P * P * num xs) := by show _ = _; rw [hhd, Int.pow_add, Int.pow_one, ← hPP]
          have hQ := res_above (A := P * P) (B := P * P * num xs) (by omega) (by have := Int.mul_le_mul_of_nonneg_left h1 (show 0 ≤ P * P by omega); omega)
          have hok := fun h => res_ok (A := P * P) h
          have hPPn := num_words (show 0 ≤ P * P by omega)
          have dPP := Dg_words (P * P)
          have hrx := hr1
          clear hand hhd hPP
          generalize P * P = PP at *
          by_cases hz : resE PP = 0
          · obtain ⟨el, eb2⟩ := hok hz
            rw [hz, el] at hmul
            clear hQ hok
            go_wp2_with fail
            refine hmul.mono ?_
            rintro e w2 ⟨v, rfl, hv, hb2⟩
            obtain ⟨va, vc, rfl, hvr⟩ := hv.readsC
            have hB2 := hnx.trans (hb2.mono hnx.size)
            have hm2 := natMul_any hvr (hr1.later hB2) dPP hx (by omega) hm
            rw [hPPn] at hm2
            clear hmul hou hor hv hvr
            generalize (words PP).length = lp at *
            generalize (words P).length = lq at *
            go_wp2_with fail
            refine hm2.mono ?_
            rintro e w3 ⟨v3, rfl, hv3, hb3⟩
            have hv4 := hv3.wider hB2.size
            have hB3 := hB2.trans (hb3.mono hB2.size)
            clear hm2 hv3
            go_wp2
            go_roundw
            case rel => exact ⟨j, _, _, rfl, rfl, rfl, (by rw [HQ.out] : _ = _), by omega, by rw [HQ.out]; exact hv4, hB3⟩
            case measure => simp [intOf]
          · obtain ⟨x1, x2, x3, x4⟩ := hQ hz
            rw [x3, x4] at hmul
            have X1 : Hid (resE (PP * num xs) = 21) := x1
            have X2 : Hid (resL (PP * num xs) = []) := x2
            clear hok x1 x2 x3 x4 hQ
            generalize (words P).length = lq at *
            go_wp2_with fail
            refine hmul.mono ?_
            rintro e w2 ⟨v, rfl, hv, hb2⟩
            have hB2 := hnx.trans (hb2.mono hnx.size)
            have hv4 := hv.wider hnx.size
            clear hmul hou hor hv
            go_wp2
            go_roundw
            case rel => exact ⟨j, _, _, rfl, rfl, rfl, (by rw [HQ.out, X1.out] : _ = _), by omega, by rw [HQ.out, X2.out]; exact hv4, hB2⟩
            case measure => simp [intOf]
        · have hb0 : n / 2 ^ j % 2 = 0 := by omega
          rw [hb0] at hand hhd
          have hand1 : bits BinOp.and IntKind.i64 ((n : Int) / 2 ^ j) 1 = 0 := hand
          have HQ : Hid (num xs ^ (n / 2 ^ j) = P * P) := by show _ = _; rw [hhd, Nat.add_zero, ← hPP]
          clear hand hhd hPP
          generalize P * P = PP at *
          obtain ⟨E2, hE2⟩ : ∃ E2, E2 = resE PP := ⟨_, rfl⟩
          rw [← hE2] at hmul
          have HE2 : Hid (E2 = resE PP) := hE2
          clear hE2
          generalize (words P).length = lq at *
          go_wp2_with fail
          refine hmul.mono ?_
          rintro e w2 ⟨v, rfl, hv, hb2⟩
          have hB2 := hnx.trans (hb2.mono hnx.size)
          have hv4 := hv.wider hnx.size
          clear hmul hou hor hv
          go_wp2
          go_roundw
          case rel => exact ⟨j, _, _, rfl, rfl, rfl, (by rw [HQ.out]; exact HE2.out : _ = _), by omega, by rw [HQ.out]; exact hv4, hB2⟩
          case measure => simp [intOf]
      · have hx := res_above (A := num xs ^ (n / 2 ^ k)) (B := num xs ^ n) (by have := ipow_pos h1 (n / 2 ^ k); omega) (ipow_mono h1 (Nat.div_le_self _ _)) (by rw [← hE.out]; exact hE0)
        obtain ⟨x1, x2, x3, x4⟩ := hx
        have X1 : Hid (resE (num xs ^ n) = 21) := x1
        have X2 : Hid (resL (num xs ^ n) = []) := x2
        rw [x4] at hou
        have hE2 : E = 21 := by rw [hE.out]; exact x3
        subst hE2
        clear x1 x2 x3 x4 hE hE0
        have hI0 : 0 ≤ I := by omega
        go_wp2
        go_ret2
        exact ⟨_, by rw [X1.out]; rfl, by rw [X2.out]; exact hou, hnx⟩

/-- what Pow answers: its error, its list -/
def powE (X n : Int) : Int := if n < 0 then 31 else resE (X ^ n.toNat)
def powL (X n : Int) : List Int := if n < 0 then [] else resL (X ^ n.toNat)
namespace Na
theorem pow_small {X : Int} (h0 : 0 ≤ X) (h : bitsN X ≤ 1) {n : Nat} (hn : n ≠ 0) : X ^ n = X ∧ (words X).length ≤ 1 := by
  have hX : X = 0 ∨ X = 1 := by
    by_cases hz : X = 0
    · exact Or.inl hz
    · obtain ⟨b, hb, a1, a2⟩ := bits_some (N := X) (by omega)
      have : b = 0 := by omega
      subst this
      right
      simp at a1 a2
      omega
  rcases hX with rfl | rfl
  · exact ⟨Int.zero_pow hn, words_len1 (by omega)⟩
  · exact ⟨Int.one_pow, words_len1 (by omega)⟩
theorem pow_huge {X : Int} {b n : Nat} (h : 2 ^ b ≤ X) (hn : 262144 ≤ b * n) : 4096 < (words (X ^ n)).length := by
  have p := p2pos b
  have a : (2 : Int) ^ (b * n) ≤ X ^ n := by
    rw [Int.pow_mul]
    exact ipow_base (by omega) h n
  have c : (2 : Int) ^ 262144 ≤ 2 ^ (b * n) := p2mono hn
  have d : 4096 < (words (X ^ n)).length := by
    refine dig_len_ge ?_
    rw [wpow2]
    have : 64 * 4096 = 262144 := by omega
    rw [this]
    omega
  exact d
end Na
set_option maxHeartbeats 3200000 in
set_option maxRecDepth 100000 in
theorem pow_any {a : Option Addr} {m c1 : Nat} {xs : List Int} {w : World} (hr1 : RowC w a m c1 xs) (hx : Ws xs) (hm : m ≤ 4000000) (n : Int) (h0 : -9223372036854775808 ≤ n) (hn9 : n ≤ 9223372036854775807) :
    Calls Try.prog 15 #[.slice a m c1, .int .i64 n] w fun e w' => ∃ v, e = .returned (.tuple #[v, .int .i64 (powE (num xs) n)]) ∧ Own .u64 w' w.heap.size 25 v (powL (num xs) n) ∧ Below w.heap.size w w' := by
  by_cases hneg : n < 0
  · have E1 : Hid (powE (num xs) n = 31) := if_pos hneg
    have E2 : Hid (powL (num xs) n = []) := if_pos hneg
    go_enter Try.func15, Try.ntmps15
    go_wp2
    go_ret2
    exact ⟨_, by rw [E1.out]; rfl, by rw [E2.out]; exact own_nil _ _ _ _, Below.refl _ _⟩
  · obtain ⟨t, rfl⟩ : ∃ t : Nat, n = (t : Int) := ⟨n.toNat, by omega⟩
    have E1 : Hid (powE (num xs) (t : Int) = resE (num xs ^ t)) := by show _ = _; unfold powE; rw [if_neg hneg]; simp
    have E2 : Hid (powL (num xs) (t : Int) = resL (num xs ^ t)) := by show _ = _; unfold powL; rw [if_neg hneg]; simp
    clear hneg h0
    by_cases ht : t = 0
    · have o1 := res_fits (N := 1) (by have := words_len1 (v := 1) (by omega); omega)
      have F1 : Hid (powE (num xs) (t : Int) = 0) := by show _ = _; rw [E1.out, ht, Int.pow_zero]; exact o1.2
      have F2 : Hid (powL (num xs) (t : Int) = words 1) := by show _ = _; rw [E2.out, ht, Int.pow_zero]; exact o1.1
      have t0 : ((t : Int) == 0) = true := by simp [ht]
      have hfr := natFrom_any (v := 1) (by omega) w
      clear o1 ht E1 E2
      go_enter Try.func15, Try.ntmps15
      go_wp2_with fail
      refine hfr.mono ?_
      rintro e w1 ⟨v, rfl, hv, hb1⟩
      clear hfr
      go_wp2
      go_ret2
      exact ⟨_, by rw [F1.out]; rfl, by rw [F2.out]; exact hv, hb1⟩
    · have t0 : ((t : Int) == 0) = false := by simp; omega
      have p1 := num_nonneg hx
      have hbit := natBits_any hr1 hx hm
      have l1 := hr1.1.1
      have hble := bits_le (N := num xs) (k := xs.length) p1 (num_bd hx)
      have hbn := bits_nonneg (num xs)
      by_cases hb1 : bitsN (num xs) ≤ 1
      · obtain ⟨s1, s2⟩ := pow_small p1 hb1 ht
        have o1 := res_fits (N := num xs) (by omega)
        have F1 : Hid (powE (num xs) (t : Int) = 0) := by show _ = _; rw [E1.out, s1]; exact o1.2
        have F2 : Hid (powL (num xs) (t : Int) = words (num xs)) := by show _ = _; rw [E2.out, s1]; exact o1.1
        have hno := fun (w1 : World) (h : Below w.heap.size w w1) => natNorm_any (hr1.later h) hx hm
        clear o1 s1 s2 E1 E2 hr1 ht
        generalize bitsN (num xs) = q at *
        go_enter Try.func15, Try.ntmps15
        go_wp2_with fail
        refine hbit.mono ?_
        rintro e w1 ⟨rfl, hw1⟩
        go_wp2_with fail
        refine (hno w1 hw1).mono ?_
        rintro e w2 ⟨v, rfl, hv, hw2⟩
        have hv2 := hv.wider hw1.size
        have hB2 := hw1.trans (hw2.mono hw1.size)
        clear hbit hno hv
        go_wp2
        go_ret2
        exact ⟨_, by rw [F1.out]; rfl, by rw [F2.out]; exact hv2, hB2⟩
      · have hX1 : 1 ≤ num xs := by
          by_cases g : num xs = 0
          · rw [g, bits_none] at hb1; omega
          · omega
        obtain ⟨b, hb, a1, a2⟩ := bits_some (N := num xs) (by omega)
        rw [hb] at hbit hble hb1
        have hbb : 1 ≤ b := by omega
        by_cases hbig : (262143 : Int) / (b : Int) < (t : Int)
        · have hbt : 262144 ≤ b * t := by
            have h2 : (262143 : Int) < (t : Int) * (b : Int) := by
              have := Int.lt_mul_of_ediv_lt (a := 262143) (c := (b : Int)) (b := (t : Int)) (by omega) hbig
              exact this
            have h3 : ((b * t : Nat) : Int) = (t : Int) * (b : Int) := by rw [Int.natCast_mul, Int.mul_comm]
            omega
          have E := res_huge (N := num xs ^ t) (pow_huge a1 hbt)
          have F1 : Hid (powE (num xs) (t : Int) = 21) := by show _ = _; rw [E1.out]; exact E.2
          have F2 : Hid (powL (num xs) (t : Int) = []) := by show _ = _; rw [E2.out]; exact E.1
          clear E E1 E2 hr1 ht hbt a1 a2 hb
          have hd9 : (262143 : Int) / ((b : Int) + 1 - 1) < (t : Int) := by rw [Int.add_sub_cancel]; exact hbig
          go_enter Try.func15, Try.ntmps15
          go_wp2_with fail
          refine hbit.mono ?_
          rintro e w1 ⟨rfl, hw1⟩
          go_wp2
          go_ret2
          exact ⟨_, by rw [F1.out]; rfl, by rw [F2.out]; exact own_nil _ _ _ _, hw1⟩
        · have htle : t ≤ 262143 := by
            have h3 : (262143 : Int) / (b : Int) ≤ 262143 := Int.ediv_le_self _ (by omega)
            omega
          have hra := fun (w1 : World) (h : Below w.heap.size w w1) => raise_any (hr1.later h) hx hm hX1 t (by omega) (by omega)
          have hd9 : ¬ (262143 : Int) / ((b : Int) + 1 - 1) < (t : Int) := by rw [Int.add_sub_cancel]; exact hbig
          clear hr1 ht a1 a2 hb
          go_enter Try.func15, Try.ntmps15
          go_wp2_with fail
          refine hbit.mono ?_
          rintro e w1 ⟨rfl, hw1⟩
          go_wp2_with fail
          refine (hra w1 hw1).mono ?_
          rintro e w2 ⟨v, rfl, hv, hw2⟩
          have hv2 := hv.wider hw1.size
          have hB2 := hw1.trans (hw2.mono hw1.size)
          clear hbit hra hv
          go_wp2
          go_ret2
          exact ⟨_, by rw [E1.out]; rfl, by rw [E2.out]; exact hv2, hB2⟩
end Go.Proofs.Ythjfjpdgjhidfaa
