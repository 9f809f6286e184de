/- RadixSums' walk. -/
import Derived.Test.YtfnpigkiookejaaDoorBaseI
namespace Go.Proofs.YtfnpigkiookejaaDoor
open Go.ChangeShapes Go.WideShapes Go.ChangeAt Go.RowKit
open Na Ar
set_option linter.unusedVariables false
set_option maxHeartbeats 12800000 in
set_option maxRecDepth 100000 in
theorem sums_walk {a0 : Option Addr} {len0 cap0 : Nat} {x0 : List Int} {a1 a2 : Int} {w : World} (hal : ∀ w, Calls Tryd.prog 9 #[] w fun e w' => e = .returned (.bool true) ∧ Below w.heap.size w w') (hx : RowC w a0 len0 cap0 x0) (hw0 : Ws x0) (s0 : len0 ≤ 1048576) (b1 : -9223372036854775808 ≤ a1 ∧ a1 ≤ 9223372036854775807) (b2 : -9223372036854775808 ≤ a2 ∧ a2 ≤ 9223372036854775807) :
    Calls Tryd.prog 5 #[.slice a0 len0 cap0, .int .i64 a1, .int .i64 a2] w fun e w' => e = .returned (.bool true) ∧ Below w.heap.size w w' := by
  have h0 := num_nonneg hw0
  have hU1 : 0 ≤ IntKind.u64.wrap a1 := by rw [wrapU]; omega
  have hU2 : 0 ≤ IntKind.u64.wrap a2 := by rw [wrapU]; omega
  obtain ⟨M, hM⟩ : ∃ M : Nat, IntKind.u64.wrap a1 % 700 = (M : Int) := ⟨(IntKind.u64.wrap a1 % 700).toNat, by omega⟩
  obtain ⟨N, hN⟩ : ∃ N : Nat, IntKind.u64.wrap a2 % 700 = (N : Int) := ⟨(IntKind.u64.wrap a2 % 700).toNat, by omega⟩
  have hM7 : M < 700 := by omega
  have hN7 : N < 700 := by omega
  obtain ⟨X, hX⟩ : ∃ X, num x0 = X := ⟨_, rfl⟩
  have HX : Hid (num x0 = X) := hX
  rw [hX] at h0
  clear hX
  have HI : ∀ b : Int, 1 ≤ b → ∀ k : Nat, 0 ≤ b ^ k := fun b hb k => Int.pow_nonneg (by omega)
  have S5 : (words ((5 : Int) ^ M * 5 ^ N)).length ≤ 4096 := by rw [← Int.pow_add]; exact pow_short (by omega) (by omega) (by omega)
  have S10 : (words ((10 : Int) ^ M * 10 ^ N)).length ≤ 4096 := by rw [← Int.pow_add]; exact pow_short (by omega) (by omega) (by omega)
  have HS5 : Hid ((words ((5 : Int) ^ M * 5 ^ N)).length ≤ 4096) := S5
  have HS10 : Hid ((words ((10 : Int) ^ M * 10 ^ N)).length ≤ 4096) := S10
  clear S5 S10
  have hB := Below.refl w.heap.size w
  have b1' := b1.1
  clear b1' b1 b2
  go_enter Tryd.func5, Tryd.ntmps5
  go_wp2_with fail
  refine (fiveQ (k := M) rfl (by omega) _).mono ?_
  rintro e wn ⟨aa, la, ca, as1, rfl, ⟨ha, eA, lA⟩, hbn⟩
  replace hx := hx.later hbn
  replace hB := hB.trans (hbn.mono hB.size)
  clear hbn
  clear hU1 hU2 hM hN
  go_wp2_with fail
  refine (fiveQ (k := N) rfl (by omega) _).mono ?_
  rintro e wn ⟨ab, lb, cb, bs, rfl, ⟨hb, eB, lB⟩, hbn⟩
  replace hx := hx.later hbn
  replace ha := ha.later hbn
  replace hB := hB.trans (hbn.mono hB.size)
  clear hbn
  go_wp2_with fail
  refine (fiveQ (k := M + N) (by omega) (by omega) _).mono ?_
  rintro e wn ⟨ac, lc, cc, cs, rfl, ⟨hc, eC, lC⟩, hbn⟩
  replace hx := hx.later hbn
  replace ha := ha.later hbn
  replace hb := hb.later hbn
  replace hB := hB.trans (hbn.mono hB.size)
  clear hbn
  go_wp2_with fail
  refine (tenQ (k := M) rfl (by omega) _).mono ?_
  rintro e wn ⟨ad, ld, cd, ds, rfl, ⟨hd, eD, lD⟩, hbn⟩
  replace hx := hx.later hbn
  replace ha := ha.later hbn
  replace hb := hb.later hbn
  replace hc := hc.later hbn
  replace hB := hB.trans (hbn.mono hB.size)
  clear hbn
  go_wp2_with fail
  refine (tenQ (k := N) rfl (by omega) _).mono ?_
  rintro e wn ⟨ae, le, ce, es, rfl, ⟨he, eE, lE⟩, hbn⟩
  replace hx := hx.later hbn
  replace ha := ha.later hbn
  replace hb := hb.later hbn
  replace hc := hc.later hbn
  replace hd := hd.later hbn
  replace hB := hB.trans (hbn.mono hB.size)
  clear hbn
  go_wp2_with fail
  refine (tenQ (k := M + N) (by omega) (by omega) _).mono ?_
  rintro e wn ⟨af, lf, cf, fs, rfl, ⟨hf, eF, lF⟩, hbn⟩
  replace hx := hx.later hbn
  replace ha := ha.later hbn
  replace hb := hb.later hbn
  replace hc := hc.later hbn
  replace hd := hd.later hbn
  replace he := he.later hbn
  replace hB := hB.trans (hbn.mono hB.size)
  clear hbn
  go_wp2_with fail
  refine (mulA ha hb eA eB (HI 5 (by omega) M) (HI 5 (by omega) N) (by omega) (by omega) HS5.out).mono ?_
  rintro e wn ⟨ap, lp, cp, ps, rfl, ⟨hp, eP, lP⟩, hbn⟩
  replace hx := hx.later hbn
  replace ha := ha.later hbn
  replace hb := hb.later hbn
  replace hc := hc.later hbn
  replace hd := hd.later hbn
  replace he := he.later hbn
  replace hf := hf.later hbn
  replace hB := hB.trans (hbn.mono hB.size)
  clear hbn
  clear ha
  clear hb
  go_wp2_with fail
  refine (mulA hd he eD eE (HI 10 (by omega) M) (HI 10 (by omega) N) (by omega) (by omega) HS10.out).mono ?_
  rintro e wn ⟨aq, lq, cq, qs, rfl, ⟨hq, eQ, lQ⟩, hbn⟩
  replace hx := hx.later hbn
  replace hc := hc.later hbn
  replace hd := hd.later hbn
  replace he := he.later hbn
  replace hf := hf.later hbn
  replace hp := hp.later hbn
  replace hB := hB.trans (hbn.mono hB.size)
  clear hbn
  clear he
  go_wp2_with fail
  refine (hal _).mono ?_
  rintro e wn ⟨rfl, hbn⟩
  replace hx := hx.later hbn
  replace hc := hc.later hbn
  replace hd := hd.later hbn
  replace hf := hf.later hbn
  replace hp := hp.later hbn
  replace hq := hq.later hbn
  replace hB := hB.trans (hbn.mono hB.size)
  clear hbn
  go_wp2_with fail
  refine (sameN hp hc (by have := hp.1.1; omega) (by have := hc.1.1; omega) (by rw [eP.out, eC.out, Int.pow_add])).mono ?_
  rintro e wn ⟨rfl, hbn⟩
  replace hx := hx.later hbn
  replace hc := hc.later hbn
  replace hd := hd.later hbn
  replace hf := hf.later hbn
  replace hp := hp.later hbn
  replace hq := hq.later hbn
  replace hB := hB.trans (hbn.mono hB.size)
  clear hbn
  clear hp
  clear hc
  go_wp2_with fail
  refine (sameN hq hf (by have := hq.1.1; omega) (by have := hf.1.1; omega) (by rw [eQ.out, eF.out, Int.pow_add])).mono ?_
  rintro e wn ⟨rfl, hbn⟩
  replace hx := hx.later hbn
  replace hd := hd.later hbn
  replace hf := hf.later hbn
  replace hq := hq.later hbn
  replace hB := hB.trans (hbn.mono hB.size)
  clear hbn
  clear hq
  have hWf : Ws fs := by rw [eF.out]; exact Dg_words _
  have HNf : Hid (num fs = 10 ^ (M + N)) := by show _ = _; rw [eF.out]; exact num_words (HI 10 (by omega) _)
  have hft : bitsN (num fs) ≤ 262144 := by rw [HNf.out]; exact fit_bits (HI 10 (by omega) _) (pow_short (by omega) (by omega) (by omega))
  have HLF : Hid (0 < lf) := by
    show 0 < lf
    have e1 := hf.1.1
    have p10 : (0 : Int) < 10 ^ (M + N) := Int.pow_pos (by omega)
    have := words_nil (Int.le_of_lt p10)
    rw [eF.out] at e1
    by_cases q : lf = 0
    · have := this.mp (by omega); omega
    · omega
  have hcn := count_any hf hWf (by omega) hft
  clear hft hWf
  go_wp2_with fail
  refine (hcn).mono ?_
  rintro e wn ⟨dn, rfl, hdn, hbn⟩
  replace hx := hx.later hbn
  replace hd := hd.later hbn
  replace hf := hf.later hbn
  replace hB := hB.trans (hbn.mono hB.size)
  clear hbn
  have hdn' : dn = (M : Int) + (N : Int) + 1 := by have := count_pow (s := M + N) (by rw [← HNf.out]; exact hdn); omega
  clear hdn hcn
  subst hdn'
  have hlf0 : ((lf : Int) == 0) = false := by have := HLF.out; rw [beq_eq_false_iff_ne]; omega
  have hWd : Ws ds := by rw [eD.out]; exact Dg_words _
  have HNd : Hid (num ds = 10 ^ M) := by show _ = _; rw [eD.out]; exact num_words (HI 10 (by omega) _)
  have hmx := natMul_any hx hd hw0 hWd (by omega) (by omega)
  rw [HX.out, HNd.out] at hmx
  clear hf; by_cases hE : resE (X * 10 ^ M) = 0
  · obtain ⟨el, eb⟩ := res_ok hE
    rw [hE, el] at hmx
    have HEB : Hid ((words (X * 10 ^ M)).length ≤ 4096) := eb
    clear hE el eb hWd
    have P1 : (1 : Int) ≤ 10 ^ M := Int.pow_pos (by omega)
    have HXY : X ≤ X * 10 ^ M := by have := Int.mul_le_mul_of_nonneg_left P1 h0; omega
    have HY0 : 0 ≤ X * 10 ^ M := by omega
    have HXL : Hid ((words X).length ≤ 4096) := Nat.le_trans (words_mono h0 HXY) HEB.out
    have HP1 : Hid ((1 : Int) ≤ 10 ^ M) := P1
    obtain ⟨Y, hY⟩ : ∃ Y, Y = X * 10 ^ M := ⟨_, rfl⟩
    have HYE : Hid (Y = X * 10 ^ M) := hY
    rw [← hY] at hmx HEB HXY HY0
    clear hY P1
    go_wp2_with fail
    refine (hmx).mono ?_
    rintro e wn ⟨vy, rfl, hoy, hbn⟩
    replace hx := hx.later hbn
    replace hd := hd.later hbn
    replace hB := hB.trans (hbn.mono hB.size)
    clear hbn
    obtain ⟨ay, ly, cy, ys, rfl, hy, eY, lY⟩ := ans_of hoy HEB.out
    clear hoy hmx
    clear hd
    have hWy : Ws ys := by rw [eY.out]; exact Dg_words _
    have HNy : Hid (num ys = Y) := by show _ = _; rw [eY.out]; exact num_words HY0
    go_wp2_with fail
    refine (trimQ hx hw0 HX.out (by omega) HXL.out).mono ?_
    rintro e wn ⟨au, lu, cu, us, U, k, rfl, ⟨hu, eU, lU, hU0, oU, zU, nU, kU⟩, hbn⟩
    replace hx := hx.later hbn
    replace hy := hy.later hbn
    replace hB := hB.trans (hbn.mono hB.size)
    clear hbn
    go_wp2_with fail
    refine (trimQ hy hWy HNy.out (by omega) HEB.out).mono ?_
    rintro e wn ⟨av, lv, cv, vs, V, j, rfl, ⟨hv, eV, lV, hV0, oV, zV, nV, kV⟩, hbn⟩
    replace hx := hx.later hbn
    replace hy := hy.later hbn
    replace hu := hu.later hbn
    replace hB := hB.trans (hbn.mono hB.size)
    clear hbn
    clear hy
    go_wp2_with fail
    refine (pow4_any kU _).mono ?_
    rintro e wn ⟨at', lt, ct, ts, rfl, ⟨ht, eT, lT⟩, hbn⟩
    replace hx := hx.later hbn
    replace hu := hu.later hbn
    replace hv := hv.later hbn
    replace hB := hB.trans (hbn.mono hB.size)
    clear hbn
    go_wp2_with fail
    refine (mulA hu ht eU eT hU0 (HI 10 (by omega) k) (by omega) (by omega) (by rw [← oU.out]; exact HXL.out)).mono ?_
    rintro e wn ⟨az, lz, cz, zs, rfl, ⟨hz, eZ, lZ⟩, hbn⟩
    replace hx := hx.later hbn
    replace hu := hu.later hbn
    replace hv := hv.later hbn
    replace ht := ht.later hbn
    replace hB := hB.trans (hbn.mono hB.size)
    clear hbn
    clear ht
    have hnm := fun w (h : RowC w a0 len0 cap0 x0) => natNorm_any h hw0 (show len0 ≤ 4000000 by omega)
    rw [HX.out] at hnm
    go_wp2_with fail
    refine (hnm _ hx).mono ?_
    rintro e wn ⟨vn, rfl, hon, hbn⟩
    replace hx := hx.later hbn
    replace hu := hu.later hbn
    replace hv := hv.later hbn
    replace hz := hz.later hbn
    replace hB := hB.trans (hbn.mono hB.size)
    clear hbn
    obtain ⟨an, ln, cn, ns, rfl, hn, eN, lN⟩ := ans_of hon HXL.out
    clear hon
    have hln := hn.1.1
    clear hn
    have HLN : Hid (ln = 0 ↔ X = 0) := by show _ ↔ _; rw [← hln, eN.out]; exact words_nil h0
    clear hln eN
    by_cases hX0 : X = 0
    · have hln0 : ln = 0 := HLN.out.mpr hX0
      have k0 : k = 0 := zU.out hX0
      have Y0 : Y = 0 := by rw [HYE.out, hX0, Int.zero_mul]
      have j0 : j = 0 := zV.out Y0
      have U0 : U = 0 := by have := oU.out; rw [k0, hX0, Int.pow_zero, Int.mul_one] at this; exact this.symm
      have V0 : V = 0 := by have := oV.out; rw [j0, Y0, Int.pow_zero, Int.mul_one] at this; exact this.symm
      have w0 : words 0 = [] := dig_zero _
      have lu0 : lu = 0 := by have := hu.1.1; rw [eU.out, U0, w0] at this; exact this.symm
      have lv0 : lv = 0 := by have := hv.1.1; rw [eV.out, V0, w0] at this; exact this.symm
      clear hu hv hz hx zU zV nU nV oU oV
      subst hln0 k0 j0 lu0 lv0
      go_wp2
      go_ret
      exact ⟨rfl, hB⟩
    · have hln0 : ((ln : Int) == 0) = false := by rw [beq_eq_false_iff_ne]; intro q; exact hX0 (HLN.out.mp (by omega))
      have hXp : 0 < X := by omega
      have hYp : 0 < Y := by omega
      have hUn := nU.out hXp
      have hVn := nV.out hYp
      obtain ⟨q1, q2⟩ := trim_uniq (U := U) (V := V) (a := k + M) (b := j) (by rw [Int.pow_add, ← Int.mul_assoc, ← oU.out, ← HYE.out]; exact oV.out) hUn hVn
      have hWu : Ws us := by rw [eU.out]; exact Dg_words _
      have HNu : num us = U := by rw [eU.out]; exact num_words hU0
      have hsm := fun w (h : RowC w au lu cu us) => small_any h hWu (show lu ≤ 4000000 by omega) (d := 10) ⟨by omega, by omega⟩ (by omega)
      rw [HNu] at hsm
      have HJ : Hid ((j : Int) = (k : Int) + (M : Int)) := by show _ = _; omega
      have hrn : (U % 10 != 0) = true := by rw [bne_iff_ne]; exact hUn
      have hrn2 : ¬ U % 10 = 0 := hUn
      have eZX : Hid (zs = words X) := by show _ = _; rw [eZ.out, ← oU.out]
      have eUV : us = vs := by rw [eU.out, eV.out, q2]
      have hj := HJ.out
      clear hUn hVn q1 q2 nU nV zU zV HNu hXp hYp hX0 eZ HLN
      go_wp2_with fail
      refine (hsm _ hu).mono ?_
      rintro e wn ⟨vr, rfl, _, hbn⟩
      replace hx := hx.later hbn
      replace hu := hu.later hbn
      replace hv := hv.later hbn
      replace hz := hz.later hbn
      replace hB := hB.trans (hbn.mono hB.size)
      clear hbn
      clear hsm
      go_wp2_with fail
      refine (sameN hu hv (by have := hu.1.1; omega) (by have := hv.1.1; omega) eUV).mono ?_
      rintro e wn ⟨rfl, hbn⟩
      replace hx := hx.later hbn
      replace hu := hu.later hbn
      replace hv := hv.later hbn
      replace hz := hz.later hbn
      replace hB := hB.trans (hbn.mono hB.size)
      clear hbn
      clear hu
      clear hv
      go_wp2_with fail
      refine (hnm _ hx).mono ?_
      rintro e wn ⟨vm, rfl, hom, hbn⟩
      replace hx := hx.later hbn
      replace hz := hz.later hbn
      replace hB := hB.trans (hbn.mono hB.size)
      clear hbn
      obtain ⟨am, lm, cm, ms, rfl, hm, eM, lM⟩ := ans_of hom HXL.out
      clear hom
      go_wp2_with fail
      refine (sameN hz hm (by have := hz.1.1; omega) (by have := hm.1.1; omega) (by rw [eZX.out, eM.out])).mono ?_
      rintro e wn ⟨rfl, hbn⟩
      replace hx := hx.later hbn
      replace hz := hz.later hbn
      replace hm := hm.later hbn
      replace hB := hB.trans (hbn.mono hB.size)
      clear hbn
      clear hz
      clear hm
      go_wp2
      go_ret
      exact ⟨rfl, hB⟩
  · have q21 : resE (X * 10 ^ M) = 21 := by
      unfold resE at hE ⊢
      split at hE
      · exact absurd rfl hE
      · rename_i h; rw [if_neg h]
    rw [q21] at hmx
    clear hE q21
    go_wp2_with fail
    refine (hmx).mono ?_
    rintro e wn ⟨vy, rfl, _, hbn⟩
    replace hx := hx.later hbn
    replace hd := hd.later hbn
    replace hB := hB.trans (hbn.mono hB.size)
    clear hbn
    go_wp2
    go_ret
    exact ⟨rfl, hB⟩
end Go.Proofs.YtfnpigkiookejaaDoor
