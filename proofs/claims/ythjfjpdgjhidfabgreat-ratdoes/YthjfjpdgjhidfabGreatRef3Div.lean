/- plumbref03.Bit, DivMod. -/
import Derived.Test.YthjfjpdgjhidfabGreatRef3DivA
import Derived.BigRegion
namespace Go.Proofs.YthjfjpdgjhidfabGreat
open Go.ChangeShapes Go.WideShapes Go.ChangeAt Go.RowKit
open Na Ar
set_option linter.unusedVariables false
theorem or_1bit {x t : Int} (ht : t = 0 ∨ t = 1) : bits .or .u64 (IntKind.u64.wrap (x * 2)) t = x * 2 % 18446744073709551616 + t := by
  have h := or_parts (x := x) (y := t) (k := 1) (by omega) (by omega) (by rw [Int.pow_one]; omega)
  rw [Int.pow_one] at h
  exact h
theorem wrap_p2 {k : Nat} (h : k < 64) : IntKind.u64.wrap (2 ^ k) = 2 ^ k := by
  rw [wrapU]
  have s := pow_split (show k ≤ 64 by omega)
  have p := p2pos k
  have q : (2 : Int) ^ (64 - k) = 2 * 2 ^ (63 - k) := by rw [show 64 - k = (63 - k) + 1 by omega, Int.pow_succ]; omega
  have r := p2pos (63 - k)
  refine Int.emod_eq_of_lt (by omega) ?_
  rw [q] at s
  have := Int.mul_le_mul_of_nonneg_right (show (2 : Int) ≤ 2 * 2 ^ (63 - k) by omega) (Int.le_of_lt p)
  omega
set_option maxHeartbeats 1600000 in
theorem ref3Bit_any {a : Option Addr} {n c1 : Nat} {xs : List Int} {w : World} (hr : RowAt .u64 w a n xs) (hx : Ws xs) (hn : n ≤ 12000000) (i : Nat) (hi : i ≤ 700000000) :
    Calls Tryz.prog 70 #[.slice a n c1, .int .i64 (i : Int)] w fun e w' => e = .returned (.int .u64 (num xs / 2 ^ i % 2)) ∧ w = w' := by
  have ca := ref3At_any (c1 := c1) hr hn (i / 64) (by omega)
  have hq : ((i / 64 : Nat) : Int) = (i : Int) / 64 := by omega
  rw [hq] at ca
  have g := getD_num hx (i / 64)
  have u : U (xs.getD (i / 64) 0) := hx.getAnyB (i / 64)
  have hb := bit_word (A := num xs) (i := i)
  rw [← g] at hb
  generalize xs.getD (i / 64) 0 = x at *
  have hu : U (x / 2 ^ (i % 64)) := U_div_pow (x := x) u _
  have HE : Hid (bits .and .u64 (x / 2 ^ (i % 64)) 1 = num xs / 2 ^ i % 2) := by show _ = _; rw [and_one hu]; exact hb
  clear hb g hq hu
  go_enter Tryz.func70, Tryz.ntmps70
  go_wp2_with fail
  refine ca.mono ?_
  rintro e w' ⟨rfl, rfl⟩
  go_wp2
  go_ret
  exact ⟨ret_int HE.out, rfl⟩
set_option maxHeartbeats 1600000 in
theorem ref3DivZero_any {a b : Option Addr} {n m c1 c2 : Nat} {xs ys : List Int} {w : World} (hr2 : RowAt .u64 w b m ys) (hy : Ws ys) (hm : m ≤ 12000000) (hD : num ys = 0) :
    Calls Tryz.prog 41 #[.slice a n c1, .slice b m c2] w fun e w' => e = .returned (.tuple #[.slice none 0 0, .slice none 0 0, .int .i64 30]) ∧ Below w.heap.size w w' := by
  have hc := ref3Norm_any (cap := c2) hr2 hy hm
  have hw : words (num ys) = [] := by rw [hD]; exact dig_zero _
  rw [hw] at hc
  clear hr2
  go_enter Tryz.func41, Tryz.ntmps41
  go_wp2_with fail
  refine hc.mono ?_
  rintro e w1 ⟨v, rfl, hv, hb1⟩
  obtain ⟨va, vc, rfl, hvr⟩ := hv.readsC
  clear hv hc
  go_wp2
  go_ret3
  exact ⟨rfl, hb1⟩
set_option maxHeartbeats 6400000 in
set_option maxRecDepth 100000 in
theorem ref3Div_any {a b : Option Addr} {n m c1 c2 : Nat} {xs ys : List Int} {w : World} (hr1 : RowAt .u64 w a n xs) (hr2 : RowAt .u64 w b m ys) (hx : Ws xs) (hy : Ws ys) (hn : n ≤ 3000000) (hm : m ≤ 3000000) (hD : 0 < num ys) :
    Calls Tryz.prog 41 #[.slice a n c1, .slice b m c2] w fun e w' => ∃ a1 n1 d1 a2 n2 d2, e = .returned (.tuple #[.slice a1 n1 d1, .slice a2 n2 d2, .int .i64 0]) ∧ RowC w' a1 n1 d1 (words (num xs / num ys)) ∧ RowC w' a2 n2 d2 (words (num xs % num ys)) ∧ Below w.heap.size w w' := by
  obtain ⟨i_u64, hi_u64, hz0_u64, hz1_u64, hz2_u64⟩ := info_parts info_u64
  have hyl := words_len hy
  rw [hr2.1] at hyl
  have hX0 := num_nonneg hx
  have hXb := bits_le hX0 (k := n) (by have := val_lt (B := 18446744073709551616) (by omega) hx; rw [hr1.1] at this; exact this)
  obtain ⟨N, hN⟩ : ∃ N : Nat, bitsN (num xs) = (N : Int) := ⟨(bitsN (num xs)).toNat, by have := bits_nonneg (num xs); omega⟩
  have hXN : num xs < 2 ^ N := by
    by_cases g : num xs = 0
    · rw [g]; exact p2pos _
    · obtain ⟨b', e1, e2, e3⟩ := bits_some (show 0 < num xs by omega)
      have : N = b' + 1 := by omega
      rw [this]; exact e3
  rw [hN] at hXb
  have dD := Dg_words (num ys)
  have nD := num_words (show 0 ≤ num ys by omega)
  have wD0 : (words (num ys)).length ≠ 0 := by
    intro h
    have := List.eq_nil_of_length_eq_zero h
    rw [this] at nD
    have z : num [] = 0 := rfl
    omega
  have hDB : num ys < 18446744073709551616 ^ (words (num ys)).length := by
    have := val_lt (B := 18446744073709551616) (by omega) dD
    rw [val_words (by omega)] at this
    exact this
  have hst := fun p q => dvO_start (X := num xs) (D := num ys) (n := N) (m := p) (l := q) hX0 hXN
  go_enter Tryz.func41, Tryz.ntmps41
  go_wp2_with fail
  refine (ref3Norm_any hr2 hy (by omega)).mono ?_
  rintro e w1 ⟨v, rfl, hv, hb1⟩
  obtain ⟨da, dc, rfl, hdr⟩ := hv.readsC
  clear hr2 hv
  have hx1 := hr1.later hb1
  clear hr1
  have hbits := ref3Bits_any (cap := c1) hx1 hx (by omega)
  rw [hN] at hbits
  have HX : Hid (num xs < 2 ^ N) := hXN
  clear hN hXN
  have hdl : (words (num ys)).length ≤ 3000000 := by omega
  generalize hvs : words (num ys) = vs at *
  clear hvs
  generalize hDd : num ys = D at *
  have HDD : Hid (num ys = D) := hDd
  generalize hld : vs.length = ld at *
  have HLD : Hid (vs.length = ld) := hld
  clear hDd hld hyl
  have t0 : ((ld : Int) == 0) = false := by simp; omega
  go_wp2_with fail
  refine hbits.mono ?_
  rintro e w' ⟨rfl, rfl⟩
  clear hbits
  go_wp2_with (at_make; refine wpList_make_full _ rfl _ _ 22 rfl w1.heap.size 53 i_u64 (.int .u64 0) 1 Tryz.underlying22 hi_u64 hz0_u64 hz1_u64 .i64 .i64 _ _ (N / 64 + 1) rfl rfl (by omega) (by omega) (by rw [hz2_u64]; omega) (by unfold maxLen; omega) (Nat.le_refl _) ?_)
  intro w2 hmade hgr
  have hoq := own_zeros hmade
  have hb2 : Below w1.heap.size w1 w2 := (Below.refl _ _).grown hgr (Nat.le_refl _) (fun k hk => by cases hk)
  clear hmade hgr
  go_wp2_with (at_make; refine wpList_make_full _ rfl _ _ 22 rfl w2.heap.size 53 i_u64 (.int .u64 0) 1 Tryz.underlying22 hi_u64 hz0_u64 hz1_u64 .i64 .i64 _ _ (ld + 1) rfl rfl (by omega) (by omega) (by rw [hz2_u64]; omega) (by unfold maxLen; omega) (Nat.le_refl _) ?_)
  intro w3 hmade hgr
  have hor := own_zeros hmade
  have hb3 : Below w2.heap.size w2 w3 := (Below.refl _ _).grown hgr (Nat.le_refl _) (fun k hk => by cases hk)
  have hoq3 := hoq.stays hb3 hoq.lt
  have hB3 := hb2.trans (hb3.mono hb2.size)
  have hsz2 := hb2.size
  have hlt := hoq.lt
  obtain ⟨gq, hgq⟩ : ∃ g, g = w1.heap.size := ⟨_, rfl⟩
  obtain ⟨gr, hgr2⟩ : ∃ g, g = w2.heap.size := ⟨_, rfl⟩
  rw [← hgq] at hoq3 hlt ⊢
  rw [← hgr2] at hor hlt ⊢
  have hne : gq ≠ gr := by omega
  have hgw : w1.heap.size ≤ gq := by omega
  have hgw2 : w1.heap.size ≤ gr := by omega
  replace hoq3 := hoq3.rebase hgw
  replace hor := hor.rebase hgw2
  have hs0 := hst (N / 64 + 1) (ld + 1)
  clear hmade hgr hgq hgr2 hst hoq hlt hsz2 hb3 hb2
  go_wp2
  go_loopw [11, 12, 13, 14, 15, 16, 17, 18] (fun i _ _ _ _ _ _ _ wr => ∃ (k : Nat) (I : Int) (q r : List Int), i = .int .i64 I ∧ I = (k : Int) - 1 ∧ k ≤ N ∧ q.length = N / 64 + 1 ∧ r.length = ld + 1 ∧ Own .u64 wr w1.heap.size 53 (.slice (some ⟨gq, 0, none⟩) (N / 64 + 1) (N / 64 + 1)) q ∧ Own .u64 wr w1.heap.size 53 (.slice (some ⟨gr, 0, none⟩) (ld + 1) (ld + 1)) r ∧ DvO (num xs) D k q r ∧ Below w1.heap.size w1 wr) (fun i _ _ _ _ _ _ _ _ => (intOf i + 1).toNat)
  case atStart => exact ⟨N, _, _, _, rfl, rfl, Nat.le_refl _, by simp, by simp, hoq3, hor, hs0, hB3⟩
  case round =>
    obtain ⟨k, I, q, r, rfl, hI, hk, hql, hrl, hoq, hor', hinv, hnx⟩ := hrel
    clear hoq3 hor hs0 hB3
    cases k with
    | zero =>
      obtain ⟨z1, z2, z3, z4⟩ := hinv
      have e0 : num xs / 2 ^ 0 = num xs := by simp
      rw [e0] at z3 z4
      have e1 : (2 : Int) ^ 0 = 1 := by simp
      rw [e1, Int.mul_one] at z4
      have hneg : I < 0 := by omega
      have rq := hoq.rowC hql.symm
      have rr := hor'.rowC hrl.symm
      have cq := ref3Norm_any (cap := N / 64 + 1) rq.1 z1 (by omega)
      rw [z4] at cq
      clear hI e0 e1 hoq hor' hx1 hdr
      go_wp2_with fail
      refine cq.mono ?_
      rintro e w5 ⟨v5, rfl, hv5, hb5⟩
      obtain ⟨qa, qc, rfl, hqr⟩ := hv5.readsC
      have rr5 := rr.later hb5
      have cr := ref3Norm_any (cap := ld + 1) rr5.1 z2 (by omega)
      rw [z3] at cr
      clear cq hv5 rq rr rr5
      go_wp2_with fail
      refine cr.mono ?_
      rintro e w6 ⟨v6, rfl, hv6, hb6⟩
      obtain ⟨ra, rc, rfl, hrr⟩ := hv6.readsC
      have hqr6 := hqr.later hb6
      have hB6 := (hnx.trans (hb5.mono hnx.size)).trans (hb6.mono (Nat.le_trans hnx.size hb5.size))
      clear cr hv6 hqr
      go_wp2
      go_ret3
      exact ⟨_, _, _, _, _, _, rfl, by rw [HDD.out]; exact hqr6, by rw [HDD.out]; exact hrr, hb1.trans (hB6.mono hb1.size)⟩
    | succ i =>
      have hI' : I = (i : Int) := by omega
      clear hI
      subst hI'
      have hxr := hx1.later hnx
      have hbit := ref3Bit_any (c1 := c1) hxr hx (by omega) i (by omega)
      have hC : num xs / 2 ^ i % 2 = 0 ∨ num xs / 2 ^ i % 2 = 1 := by omega
      obtain ⟨C, hCe⟩ : ∃ C, C = num xs / 2 ^ i % 2 := ⟨_, rfl⟩
      rw [← hCe] at hbit hC
      have HC : Hid (C = num xs / 2 ^ i % 2) := hCe
      have hds := dblI_start (c0 := C) hinv.2.1 hC
      have hrb : 2 * num r + C < 18446744073709551616 ^ r.length := by
        have m1 := Int.emod_lt_of_pos (num xs / 2 ^ (i + 1)) hD
        have e := hinv.2.2.1
        rw [hrl, Int.pow_succ]
        omega
      clear hCe
      go_wp2_with fail
      refine hbit.mono ?_
      rintro e w' ⟨rfl, rfl⟩
      clear hbit hxr
      go_wp2
      go_loopw [12, 13, 14] (fun c j _ w4 => ∃ (t : Nat) (c' : Int) (us : List Int), j = .int .i64 t ∧ c = .int .u64 c' ∧ t ≤ ld + 1 ∧ DblI r C t c' us ∧ Own .u64 w4 w1.heap.size 53 (.slice (some ⟨gq, 0, none⟩) (N / 64 + 1) (N / 64 + 1)) q ∧ Own .u64 w4 w1.heap.size 53 (.slice (some ⟨gr, 0, none⟩) (ld + 1) (ld + 1)) us ∧ Below w1.heap.size w1 w4) (fun _ j _ _ => ld + 1 - (intOf j).toNat)
      case atStart => exact ⟨0, C, r, rfl, rfl, by omega, hds, hoq, hor', hnx⟩
      case round =>
        obtain ⟨t, c', us, rfl, rfl, ht, hd, hq4, hr4, hn4⟩ := hrel
        have hul : ld + 1 = us.length := by rw [hd.2.1, hrl]
        clear hoq hor' hnx hds
        by_cases htl : t < ld + 1
        · have hce := hr4.cellAt hul (j := t) htl
          have hfz := hr4.frozenAt hul t
          have gu : U (us.getD t 0) := hd.1.getAnyB t
          have hstep := dblI_step hd (by omega)
          have hset := hr4.set hul t (dblW (us.getD t 0) c')
          have hqo := hq4.inn ((In.refl gr (gr + 1) _).set1 t (.int .u64 (dblW (us.getD t 0) c'))) hne
          have hor1 : bits .or .u64 (IntKind.u64.wrap (us.getD t 0 * 2)) c' = dblW (us.getD t 0) c' := or_1bit hd.2.2.1
          generalize us.getD t 0 = v at *
          unfold U at gu
          clear hd hr4 hq4 hul
          go_wp2
          go_roundw
          case rel => exact ⟨t + 1, _, _, by go_num, rfl, by omega, hstep, hqo, hset, hn4.setCell hgw2 _⟩
          case measure => simp [intOf]; omega
        · have e : t = r.length := by omega
          rw [e] at hd
          obtain ⟨wu, lu, nu⟩ := dblI_done hd hrb
          have NU : Hid (num us = 2 * num r + num xs / 2 ^ i % 2) := by show _ = _; rw [nu, HC.out]
          have rr := hr4.rowC hul
          have rd := hdr.later hn4
          have cc := ref3Cmp_any (c1 := ld + 1) (c2 := dc) rr.1 rd.1 wu dD (by omega) (by omega)
          rw [nD] at cc
          have HUL : Hid (ld + 1 = us.length) := hul
          clear hd e nu hrb rr rd hul
          by_cases hge : D ≤ num us
          · obtain ⟨K, hK, hK0⟩ : ∃ K, ordN (num us) D = K ∧ 0 ≤ K := by
              by_cases q1 : num us = D
              · exact ⟨0, ordN_eq q1, by omega⟩
              · exact ⟨1, ordN_gt (by omega), by omega⟩
            rw [hK] at cc
            have hss := sbI_start (vs := pad vs (ld + 1)) wu
            have pw := pad_ws dD (ld + 1)
            have pl := pad_length (xs := vs) (N := ld + 1) (by rw [HLD.out]; omega)
            have pn := pad_num vs (ld + 1)
            rw [nD] at pn
            have HGE : Hid (D ≤ num us) := hge
            clear hK hge
            go_wp2_with fail
            refine cc.mono ?_
            rintro e w' ⟨rfl, rfl⟩
            clear cc
            go_wp2
            go_loopw [15, 16, 17, 18] (fun b j _ _ w5 => ∃ (s : Nat) (b' : Int) (ss : List Int), j = .int .i64 s ∧ b = .int .u64 b' ∧ s ≤ ld + 1 ∧ SbI us (pad vs (ld + 1)) s b' ss ∧ Own .u64 w5 w1.heap.size 53 (.slice (some ⟨gq, 0, none⟩) (N / 64 + 1) (N / 64 + 1)) q ∧ Own .u64 w5 w1.heap.size 53 (.slice (some ⟨gr, 0, none⟩) (ld + 1) (ld + 1)) ss ∧ Below w1.heap.size w1 w5) (fun _ j _ _ _ => ld + 1 - (intOf j).toNat)
            case atStart => exact ⟨0, 0, us, rfl, rfl, by omega, hss, hq4, hr4, hn4⟩
            case round =>
              obtain ⟨s, b', ss, rfl, rfl, hs, hsb, hq5, hr5, hn5⟩ := hrel
              have hsl : ld + 1 = ss.length := by rw [hsb.2.1]; exact HUL.out
              clear hq4 hr4 hn4 hss
              by_cases hsl2 : s < ld + 1
              · have rd := hdr.later hn5
                have ca := ref3At_any (c1 := dc) rd.1 (by omega) s (by omega)
                have hce := hr5.cellAt hsl (j := s) hsl2
                have hfz := hr5.frozenAt hsl s
                have gw : U (ss.getD s 0) := hsb.1.getAnyB s
                have gv : U (vs.getD s 0) := dD.getAnyB s
                have hstep := sbI_step hsb pw (by omega) (by omega)
                rw [pad_get] at hstep
                have hb01 := hsb.2.2.1
                have hset := hr5.set hsl s (sbW (ss.getD s 0) (vs.getD s 0) b')
                have hqo := hq5.inn ((In.refl gr (gr + 1) _).set1 s (.int .u64 (sbW (ss.getD s 0) (vs.getD s 0) b'))) hne
                generalize ss.getD s 0 = x at *
                generalize vs.getD s 0 = y at *
                have hwr : IntKind.u64.wrap (IntKind.u64.wrap (x - y) - b') = sbW x y b' := by
                  rw [wrapU, wrapU]; unfold sbW; omega
                clear hsb hr5 hq5 hsl rd
                by_cases hlt : x < y
                · have hB : sbB x y b' = 1 := by unfold sbB; rw [if_pos (Or.inl hlt)]
                  rw [hB] at hstep
                  clear hB gw gv hb01
                  go_wp2_with fail
                  refine ca.mono ?_
                  rintro e w' ⟨rfl, rfl⟩
                  clear ca
                  go_wp2
                  go_roundw
                  case rel => exact ⟨s + 1, _, _, by go_num, rfl, by omega, hstep, hqo, hset, hn5.setCell hgw2 _⟩
                  case measure => simp [intOf]; omega
                · by_cases heq : x = y
                  · have teq : (x == y) = true := beq_of heq
                    rcases hb01 with hb0 | hb1'
                    · have hB : sbB x y b' = 0 := by unfold sbB; rw [if_neg (by omega)]
                      rw [hB] at hstep
                      have tb : (b' == 1) = false := beq_no (by omega)
                      clear hB gw gv hb0 heq
                      go_wp2_with fail
                      refine ca.mono ?_
                      rintro e w' ⟨rfl, rfl⟩
                      clear ca
                      go_wp2
                      go_roundw
                      case rel => exact ⟨s + 1, _, _, by go_num, rfl, by omega, hstep, hqo, hset, hn5.setCell hgw2 _⟩
                      case measure => simp [intOf]; omega
                    · have hB : sbB x y b' = 1 := by unfold sbB; rw [if_pos (Or.inr ⟨heq, hb1'⟩)]
                      rw [hB] at hstep
                      have tb : (b' == 1) = true := beq_of hb1'
                      clear hB gw gv hb1' heq
                      go_wp2_with fail
                      refine ca.mono ?_
                      rintro e w' ⟨rfl, rfl⟩
                      clear ca
                      go_wp2
                      go_roundw
                      case rel => exact ⟨s + 1, _, _, by go_num, rfl, by omega, hstep, hqo, hset, hn5.setCell hgw2 _⟩
                      case measure => simp [intOf]; omega
                  · have teq : (x == y) = false := beq_no heq
                    have hB : sbB x y b' = 0 := by unfold sbB; rw [if_neg (by omega)]
                    rw [hB] at hstep
                    clear hB gw gv hb01 heq
                    go_wp2_with fail
                    refine ca.mono ?_
                    rintro e w' ⟨rfl, rfl⟩
                    clear ca
                    go_wp2
                    go_roundw
                    case rel => exact ⟨s + 1, _, _, by go_num, rfl, by omega, hstep, hqo, hset, hn5.setCell hgw2 _⟩
                    case measure => simp [intOf]; omega
              · have e : s = us.length := by rw [← HUL.out]; omega
                rw [e] at hsb
                obtain ⟨ws, ls, ns⟩ := sbI_done hsb (by rw [pl]; exact HUL.out) (by rw [pn]; exact HGE.out)
                rw [pn] at ns
                obtain ⟨z, hz0, hzf⟩ := dvO_free hinv
                have hil : i / 64 < q.length := by omega
                have gq' : U (q.getD (i / 64) 0) := hinv.1.getAnyB (i / 64)
                obtain ⟨hor2, hlt2⟩ := or_bit (show i % 64 < 64 by omega) gq' hzf
                have hor3 : bits .or .u64 (q.getD (i / 64) 0) (IntKind.u64.wrap (2 ^ (i % 64))) = q.getD (i / 64) 0 + 2 ^ (i % 64) := by rw [wrap_p2 (by omega)]; exact hor2
                clear hor2
                obtain ⟨wq, nq⟩ := q_bit hinv.1 hil hlt2
                have hmore := dvO_more hD hinv NU.out HGE.out ws ns wq nq
                have hce := hq5.cellAt hql.symm (j := i / 64) (by omega)
                have hfz := hq5.frozenAt hql.symm (i / 64)
                have hset := Own.set (w := wr) hq5 hql.symm (i / 64) (q.getD (i / 64) 0 + 2 ^ (i % 64))
                have hro := Own.inn (w := wr) hr5 ((In.refl gq (gq + 1) _).set1 (i / 64) (.int .u64 (q.getD (i / 64) 0 + 2 ^ (i % 64)))) (Ne.symm hne)
                have HQL : Hid ((q.set (i / 64) (q.getD (i / 64) 0 + 2 ^ (i % 64))).length = N / 64 + 1) := by show _ = _; rw [List.length_set]; exact hql
                have HSL : Hid (ss.length = ld + 1) := hsl.symm
                have hi64 : ((i : Int) / 64).toNat = i / 64 := by omega
                generalize hWq : q.getD (i / 64) 0 = Wq at *
                clear hsb hq5 hr5 hinv NU HGE hWq hzf hlt2 wq nq ns pn pw pl hsl e hql hrl
                go_wp2
                go_region
                go_wp2
                go_roundw
                case rel => exact ⟨i, _, _, ss, rfl, rfl, by omega, HQL.out, HSL.out, hset, hro, hmore, (hn5.setCell hgw _).drew⟩
                case measure => simp [intOf]
          · have hK : ordN (num us) D = -1 := ordN_lt (by omega)
            rw [hK] at cc
            have hless := dvO_less hD hinv wu NU.out (by omega)
            have HU' : Hid (us.length = ld + 1) := HUL.out.symm
            clear hK hinv
            go_wp2_with fail
            refine cc.mono ?_
            rintro e w' ⟨rfl, rfl⟩
            clear cc
            go_wp2
            go_roundw
            case rel => exact ⟨i, _, q, us, rfl, rfl, by omega, hql, HU'.out, hq4, hr4, hless, hn4⟩
            case measure => simp [intOf]
end Go.Proofs.YthjfjpdgjhidfabGreat
