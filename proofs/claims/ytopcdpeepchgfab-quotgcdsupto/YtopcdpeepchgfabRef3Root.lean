/- plumbref03.Root. -/
import Derived.Test.YtopcdpeepchgfabRef3Gcd
import Derived.Test.YtopcdpeepchgfabBaseD
namespace Go.Proofs.Ytopcdpeepchgfab
open Go.ChangeShapes Go.WideShapes Go.ChangeAt Go.RowKit
open Na Ar
set_option linter.unusedVariables false
namespace Na
theorem four_div (X : Int) (j : Nat) : X / 2 ^ (2 * j) = 4 * (X / 2 ^ (2 * (j + 1))) + (X / 2 ^ (2 * j + 1) % 2 * 2 + X / 2 ^ (2 * j) % 2) := by
  have a := two_div X (2 * j)
  have b := two_div X (2 * j + 1)
  rw [show 2 * j + 1 + 1 = 2 * (j + 1) by omega] at b
  omega
def RtI (X : Int) (k : Nat) (S R : Int) : Prop := 0 ≤ S ∧ 0 ≤ R ∧ X / 2 ^ (2 * k) = S * S + R ∧ R ≤ 2 * S
theorem rtI_start {X : Int} {k : Nat} (h0 : 0 ≤ X) (h : X < 2 ^ (2 * k)) : RtI X k 0 0 := ⟨Int.le_refl _, Int.le_refl _, by rw [Int.ediv_eq_zero_of_lt h0 h]; rfl, by omega⟩
theorem rtI_less {X S R : Int} {j : Nat} (h : RtI X (j + 1) S R) {t : Int} (ht : t = X / 2 ^ (2 * j + 1) % 2 * 2 + X / 2 ^ (2 * j) % 2) (hl : 4 * R + t < 4 * S + 1) : RtI X j (2 * S) (4 * R + t) := by
  obtain ⟨h1, h2, h3, h4⟩ := h
  have t0 : 0 ≤ t := by rw [ht]; omega
  refine ⟨by omega, by omega, ?_, by omega⟩
  rw [four_div, h3, ← ht]; grind
theorem rtI_more {X S R : Int} {j : Nat} (h : RtI X (j + 1) S R) {t : Int} (ht : t = X / 2 ^ (2 * j + 1) % 2 * 2 + X / 2 ^ (2 * j) % 2) (hl : 4 * S + 1 ≤ 4 * R + t) : RtI X j (2 * S + 1) (4 * R + t - (4 * S + 1)) := by
  obtain ⟨h1, h2, h3, h4⟩ := h
  have t0 : t ≤ 3 := by rw [ht]; omega
  refine ⟨by omega, by omega, ?_, by omega⟩
  rw [four_div, h3, ← ht]; grind
theorem rtI_bd {X S R : Int} {k : Nat} (h : RtI X k S R) (h0 : 0 ≤ X) : S ≤ X ∧ R ≤ 2 * X := by
  obtain ⟨h1, h2, h3, h4⟩ := h
  have d : X / 2 ^ (2 * k) ≤ X := Int.ediv_le_self _ h0
  have s : S ≤ S * S := by
    by_cases g : S = 0
    · rw [g]; omega
    · have := Int.mul_le_mul_of_nonneg_left (show (1 : Int) ≤ S by omega) h1
      omega
  omega
theorem rtI_done {X S R : Int} (h : RtI X 0 S R) : IsRoot X S ∧ (R = 0 ↔ S * S = X) := by
  obtain ⟨h1, h2, h3, h4⟩ := h
  have e : X / 2 ^ (2 * 0) = X := by simp
  rw [e] at h3
  refine ⟨⟨h1, by omega, ?_⟩, by omega⟩
  have : (S + 1) * (S + 1) = S * S + 2 * S + 1 := by grind
  omega
theorem len_four {X V : Int} {n : Nat} (h0 : 0 ≤ V) (hX : X < 18446744073709551616 ^ n) (h : V ≤ 16 * X + 16) : (words V).length ≤ n + 1 := by
  have l : Lt V (n + 1) := by
    refine ⟨h0, ?_⟩
    rw [Int.pow_succ]
    have p : 0 < (18446744073709551616 : Int) ^ n := Int.pow_pos (by omega)
    omega
  exact l.len
end Na
set_option maxHeartbeats 6400000 in
set_option maxRecDepth 100000 in
theorem ref3Root_any {a : Option Addr} {n c1 : Nat} {xs : List Int} {w : World} (hr1 : RowAt .u64 w a n xs) (hx : Ws xs) (hn : n ≤ 2000000) :
    Calls Try.prog 28 #[.slice a n c1] w fun e w' => ∃ va l c S, e = .returned (.tuple #[.slice va l c, .bool (decide (S * S = num xs))]) ∧ RowC w' va l c (words S) ∧ IsRoot (num xs) S ∧ Below w.heap.size w w' := by
  have hX0 := num_nonneg hx
  have hXn : num xs < 18446744073709551616 ^ n := by have := val_lt (B := 18446744073709551616) (by omega) hx; rw [hr1.1] at this; exact this
  have hXb := bits_le hX0 hXn
  obtain ⟨N, hN⟩ : ∃ N : Nat, bitsN (num xs) = (N : Int) := ⟨(bitsN (num xs)).toNat, by have := bits_nonneg (num xs); omega⟩
  have hXN : num xs < 2 ^ N := by
    by_cases g : num xs = 0
    · rw [g]; exact p2pos _
    · obtain ⟨b', e1, e2, e3⟩ := bits_some (show 0 < num xs by omega)
      have : N = b' + 1 := by omega
      rw [this]; exact e3
  have hst : RtI (num xs) ((N + 1) / 2) 0 0 := rtI_start hX0 (Int.lt_of_lt_of_le hXN (p2mono (by omega)))
  rw [hN] at hXb
  have hbits := ref3Bits_any (cap := c1) hr1 hx (by omega)
  rw [hN] at hbits
  clear hN hXN
  have hI : ((N : Int) + 1) / 2 = (((N + 1) / 2 : Nat) : Int) := by omega
  have hIb : (((N + 1) / 2 : Nat) : Int) ≤ 100000000 := by omega
  generalize (N + 1) / 2 = I0 at *
  go_enter Try.func28, Try.ntmps28
  go_wp2_with fail
  refine hbits.mono ?_
  rintro e w' ⟨rfl, rfl⟩
  clear hbits
  go_wp2
  go_loopw [4, 5, 6, 7, 8] (fun s r i _ _ wr => ∃ (k : Nat) (S R : Int) (sa ra : Option Addr) (sn rn sc rc : Nat), i = .int .i64 k ∧ s = .slice sa sn sc ∧ r = .slice ra rn rc ∧ k ≤ I0 ∧ RowC wr sa sn sc (words S) ∧ RowC wr ra rn rc (words R) ∧ RtI (num xs) k S R ∧ Below w.heap.size w wr) (fun _ _ i _ _ _ => (intOf i).toNat)
  case atStart =>
    have z : words 0 = [] := dig_zero _
    exact ⟨I0, 0, 0, none, none, 0, 0, 0, 0, congrArg (Value.int .i64) hI, rfl, rfl, Nat.le_refl _, by rw [z]; exact rowC_nil _, by rw [z]; exact rowC_nil _, hst, Below.refl _ _⟩
  case round =>
    obtain ⟨k, S, R, sa, ra, sn, rn, sc, rc, rfl, rfl, rfl, hk, hs0, hr0, hinv, hnx⟩ := hrel
    clear hI hst
    have hS := hinv.1
    have hR := hinv.2.1
    obtain ⟨bS, bR⟩ := rtI_bd hinv hX0
    have lS := hs0.1.1
    have lR := hr0.1.1
    cases k with
    | zero =>
      obtain ⟨hroot, hiff⟩ := rtI_done hinv
      have nz := words_nil hR
      have hb : ((rn : Int) == 0) = decide (S * S = num xs) := by
        by_cases g : R = 0
        · rw [decide_eq_true (hiff.mp g)]; simp; omega
        · rw [decide_eq_false (fun q => g (hiff.mpr q))]; simp; omega
      have HB : Hid (((rn : Int) == 0) = decide (S * S = num xs)) := hb
      clear hb hiff nz hinv lS lR
      go_wp2
      go_ret2
      exact ⟨_, _, _, S, ret_vb HB.out, hs0, hroot, hnx⟩
    | succ j =>
      have i1 : IntKind.i64.wrap (2 * ((j + 1 : Nat) : Int)) = 2 * (j : Int) + 2 := by rw [IntKind.wrap_i64]; omega
      have lS1 : sn ≤ n + 1 := by have := len_four (n := n) hS hXn (by omega); omega
      have lR1 : rn ≤ n + 1 := by have := len_four (n := n) hR hXn (by omega); omega
      have hxr := hr1.later hnx
      have cb1 := ref3Bit_any (c1 := c1) hxr hx (by omega) (2 * j + 1) (by omega)
      have cb0 := ref3Bit_any (c1 := c1) hxr hx (by omega) (2 * j) (by omega)
      have hb1 : num xs / 2 ^ (2 * j + 1) % 2 = 0 ∨ num xs / 2 ^ (2 * j + 1) % 2 = 1 := by omega
      have hb0 : num xs / 2 ^ (2 * j) % 2 = 0 ∨ num xs / 2 ^ (2 * j) % 2 = 1 := by omega
      have hless := fun t ht hl => rtI_less (t := t) hinv ht hl
      have hmore := fun t ht hl => rtI_more (t := t) hinv ht hl
      generalize hq1 : num xs / 2 ^ (2 * j + 1) % 2 = B1 at *
      generalize hq0 : num xs / 2 ^ (2 * j) % 2 = B0 at *
      have hor : bits .or .u64 (IntKind.u64.wrap (B1 * 2)) B0 = B1 * 2 + B0 := by rw [or_1bit hb0]; omega
      obtain ⟨T, hT⟩ : ∃ T, T = B1 * 2 + B0 := ⟨_, rfl⟩
      have hT0 : 0 ≤ T ∧ T ≤ 3 := by omega
      rw [← hT] at hor
      have hL := hless T hT
      have hM := hmore T hT
      have UT : U T := by unfold U; omega
      have cc1 : ((2 * j + 1 : Nat) : Int) = 2 * ((j : Int) + 1) - 1 := by omega
      have cc0 : ((2 * j : Nat) : Int) = 2 * ((j : Int) + 1) - 2 := by omega
      rw [cc1] at cb1
      rw [cc0] at cb0
      clear hless hmore hq1 hq0 hT hb1 hb0 cc1 cc0 hinv
      go_wp2_with fail
      refine cb1.mono ?_
      rintro e w' ⟨rfl, rfl⟩
      go_wp2_with fail
      refine cb0.mono ?_
      rintro e w' ⟨rfl, rfl⟩
      clear cb1 cb0 hxr
      have dR := Dg_words R
      have nR := num_words hR
      have dS := Dg_words S
      have nS := num_words hS
      have dR4 := Dg_words (4 * R)
      have nR4 := num_words (show 0 ≤ 4 * R by omega)
      have lR4 := len_four (n := n) (V := 4 * R) (by omega) hXn (by omega)
      have dWT := Dg_words (T)
      have nWT := num_words (show 0 ≤ T by omega)
      have lWT := len_four (n := n) (V := T) (by omega) hXn (by omega)
      have dR1 := Dg_words (4 * R + T)
      have nR1 := num_words (show 0 ≤ 4 * R + T by omega)
      have lR1 := len_four (n := n) (V := 4 * R + T) (by omega) hXn (by omega)
      have dS4 := Dg_words (4 * S)
      have nS4 := num_words (show 0 ≤ 4 * S by omega)
      have lS4 := len_four (n := n) (V := 4 * S) (by omega) hXn (by omega)
      have dW1 := Dg_words (1)
      have nW1 := num_words (show 0 ≤ 1 by omega)
      have lW1 := len_four (n := n) (V := 1) (by omega) hXn (by omega)
      have dTT := Dg_words (4 * S + 1)
      have nTT := num_words (show 0 ≤ 4 * S + 1 by omega)
      have lTT := len_four (n := n) (V := 4 * S + 1) (by omega) hXn (by omega)
      have dS2 := Dg_words (2 * S)
      have nS2 := num_words (show 0 ≤ 2 * S by omega)
      have lS2 := len_four (n := n) (V := 2 * S) (by omega) hXn (by omega)
      have ct := ref3Shl2_any (c1 := rc) hr0.1 dR (by omega)
      rw [nR] at ct
      go_wp2_with fail
      refine ct.mono ?_
      rintro e ww1 ⟨v1, rfl, hv1, hb1⟩
      obtain ⟨aR4, cR4, rfl, hR40⟩ := hv1.readsC
      obtain ⟨zR4, hzR4⟩ : ∃ z, z = (words (4 * R)).length := ⟨_, rfl⟩
      rw [← hzR4] at hR40 lR4 ⊢
      clear ct hv1 hzR4
      have hs_1 := hs0.later hb1
      clear hs0
      clear hr0
      have hB1 := hnx.trans (hb1.mono hnx.size)
      clear hnx hb1
      have ct := ref3Word_any UT ww1
      go_wp2_with fail
      refine ct.mono ?_
      rintro e ww2 ⟨v2, rfl, hv2, hb2⟩
      obtain ⟨aWT, cWT, rfl, hWT0⟩ := hv2.readsC
      obtain ⟨zWT, hzWT⟩ : ∃ z, z = (words (T)).length := ⟨_, rfl⟩
      rw [← hzWT] at hWT0 lWT ⊢
      clear ct hv2 hzWT
      have hs_2 := hs_1.later hb2
      clear hs_1
      have hR4_2 := hR40.later hb2
      clear hR40
      have hB2 := hB1.trans (hb2.mono hB1.size)
      clear hB1 hb2
      have ct := ref3Add_any (c1 := cR4) (c2 := cWT) hR4_2.1 hWT0.1 dR4 dWT (by omega) (by omega)
      rw [nR4, nWT] at ct
      go_wp2_with fail
      refine ct.mono ?_
      rintro e ww3 ⟨v3, rfl, hv3, hb3⟩
      obtain ⟨aR1, cR1, rfl, hR10⟩ := hv3.readsC
      obtain ⟨zR1, hzR1⟩ : ∃ z, z = (words (4 * R + T)).length := ⟨_, rfl⟩
      rw [← hzR1] at hR10 lR1 ⊢
      clear ct hv3 hzR1
      have hs_3 := hs_2.later hb3
      clear hs_2
      clear hR4_2
      clear hWT0
      have hB3 := hB2.trans (hb3.mono hB2.size)
      clear hB2 hb3
      have ct := ref3Shl2_any (c1 := sc) hs_3.1 dS (by omega)
      rw [nS] at ct
      go_wp2_with fail
      refine ct.mono ?_
      rintro e ww4 ⟨v4, rfl, hv4, hb4⟩
      obtain ⟨aS4, cS4, rfl, hS40⟩ := hv4.readsC
      obtain ⟨zS4, hzS4⟩ : ∃ z, z = (words (4 * S)).length := ⟨_, rfl⟩
      rw [← hzS4] at hS40 lS4 ⊢
      clear ct hv4 hzS4
      have hs_4 := hs_3.later hb4
      clear hs_3
      have hR1_4 := hR10.later hb4
      clear hR10
      have hB4 := hB3.trans (hb4.mono hB3.size)
      clear hB3 hb4
      have ct := ref3Word_any (v := 1) (by unfold U; omega) ww4
      go_wp2_with fail
      refine ct.mono ?_
      rintro e ww5 ⟨v5, rfl, hv5, hb5⟩
      obtain ⟨aW1, cW1, rfl, hW10⟩ := hv5.readsC
      obtain ⟨zW1, hzW1⟩ : ∃ z, z = (words (1)).length := ⟨_, rfl⟩
      rw [← hzW1] at hW10 lW1 ⊢
      clear ct hv5 hzW1
      have hs_5 := hs_4.later hb5
      clear hs_4
      have hR1_5 := hR1_4.later hb5
      clear hR1_4
      have hS4_5 := hS40.later hb5
      clear hS40
      have hB5 := hB4.trans (hb5.mono hB4.size)
      clear hB4 hb5
      have ct := ref3Add_any (c1 := cS4) (c2 := cW1) hS4_5.1 hW10.1 dS4 dW1 (by omega) (by omega)
      rw [nS4, nW1] at ct
      go_wp2_with fail
      refine ct.mono ?_
      rintro e ww6 ⟨v6, rfl, hv6, hb6⟩
      obtain ⟨aTT, cTT, rfl, hTT0⟩ := hv6.readsC
      obtain ⟨zTT, hzTT⟩ : ∃ z, z = (words (4 * S + 1)).length := ⟨_, rfl⟩
      rw [← hzTT] at hTT0 lTT ⊢
      clear ct hv6 hzTT
      have hs_6 := hs_5.later hb6
      clear hs_5
      have hR1_6 := hR1_5.later hb6
      clear hR1_5
      clear hS4_5
      clear hW10
      have hB6 := hB5.trans (hb6.mono hB5.size)
      clear hB5 hb6
      have ct := ref3Shl1_any (c1 := sc) hs_6.1 dS (by omega)
      rw [nS] at ct
      go_wp2_with fail
      refine ct.mono ?_
      rintro e ww7 ⟨v7, rfl, hv7, hb7⟩
      obtain ⟨aS2, cS2, rfl, hS20⟩ := hv7.readsC
      obtain ⟨zS2, hzS2⟩ : ∃ z, z = (words (2 * S)).length := ⟨_, rfl⟩
      rw [← hzS2] at hS20 lS2 ⊢
      clear ct hv7 hzS2
      clear hs_6
      have hR1_7 := hR1_6.later hb7
      clear hR1_6
      have hTT_7 := hTT0.later hb7
      clear hTT0
      have hB7 := hB6.trans (hb7.mono hB6.size)
      clear hB6 hb7
      have cc := ref3Cmp_any (c1 := cR1) (c2 := cTT) hR1_7.1 hTT_7.1 dR1 dTT (by omega) (by omega)
      rw [nR1, nTT] at cc
      by_cases hge : 4 * R + T < 4 * S + 1
      · have hK : ordN (4 * R + T) (4 * S + 1) = -1 := ordN_lt (by omega)
        rw [hK] at cc
        have hin := hL (by omega)
        clear hK hL hM
        go_wp2_with fail
        refine cc.mono ?_
        rintro e w' ⟨rfl, rfl⟩
        clear cc
        go_wp2
        go_roundw
        case rel => exact ⟨j, _, _, _, _, _, _, _, _, by go_num, rfl, rfl, by omega, hS20, hR1_7, hin, hB7⟩
        case measure => simp [intOf]
      · obtain ⟨K, hK, hK0⟩ : ∃ K, ordN (4 * R + T) (4 * S + 1) = K ∧ 0 ≤ K := by
          by_cases q1 : 4 * R + T = 4 * S + 1
          · exact ⟨0, ordN_eq q1, by omega⟩
          · exact ⟨1, ordN_gt (by omega), by omega⟩
        rw [hK] at cc
        have hin := hM (by omega)
        have hmm := words_mono (A := 4 * S + 1) (B := 4 * R + T) (by omega) (by omega)
        have e1 := hTT_7.1.1
        have e2 := hR1_7.1.1
        have hzz : zTT ≤ zR1 := by omega
        have dR2 := Dg_words (4 * R + T - (4 * S + 1))
        have lR2 := len_four (n := n) (V := 4 * R + T - (4 * S + 1)) (by omega) hXn (by omega)
        have dW1b := Dg_words (1)
        have lW1b := len_four (n := n) (V := 1) (by omega) hXn (by omega)
        have dS3 := Dg_words (2 * S + 1)
        have lS3 := len_four (n := n) (V := 2 * S + 1) (by omega) hXn (by omega)
        clear hK hL hM hmm e1 e2
        go_wp2_with fail
        refine cc.mono ?_
        rintro e w' ⟨rfl, rfl⟩
        clear cc
        have ct := ref3Sub_any (c1 := cR1) (c2 := cTT) hR1_7.1 hTT_7.1 dR1 dTT (by omega) hzz (by rw [nR1, nTT]; omega)
        rw [nR1, nTT] at ct
        go_wp2_with fail
        refine ct.mono ?_
        rintro e ww8 ⟨v8, rfl, hv8, hb8⟩
        obtain ⟨aR2, cR2, rfl, hR20⟩ := hv8.readsC
        obtain ⟨zR2, hzR2⟩ : ∃ z, z = (words (4 * R + T - (4 * S + 1))).length := ⟨_, rfl⟩
        rw [← hzR2] at hR20 lR2 ⊢
        clear ct hv8 hzR2
        clear hR1_7
        clear hTT_7
        have hS2_8 := hS20.later hb8
        clear hS20
        have hB8 := hB7.trans (hb8.mono hB7.size)
        clear hB7 hb8
        have ct := ref3Word_any (v := 1) (by unfold U; omega) ww8
        go_wp2_with fail
        refine ct.mono ?_
        rintro e ww9 ⟨v9, rfl, hv9, hb9⟩
        obtain ⟨aW1b, cW1b, rfl, hW1b0⟩ := hv9.readsC
        obtain ⟨zW1b, hzW1b⟩ : ∃ z, z = (words (1)).length := ⟨_, rfl⟩
        rw [← hzW1b] at hW1b0 lW1b ⊢
        clear ct hv9 hzW1b
        have hS2_9 := hS2_8.later hb9
        clear hS2_8
        have hR2_9 := hR20.later hb9
        clear hR20
        have hB9 := hB8.trans (hb9.mono hB8.size)
        clear hB8 hb9
        have ct := ref3Add_any (c1 := cS2) (c2 := cW1b) hS2_9.1 hW1b0.1 dS2 dW1b (by omega) (by omega)
        rw [nS2, nW1] at ct
        go_wp2_with fail
        refine ct.mono ?_
        rintro e ww10 ⟨v10, rfl, hv10, hb10⟩
        obtain ⟨aS3, cS3, rfl, hS30⟩ := hv10.readsC
        obtain ⟨zS3, hzS3⟩ : ∃ z, z = (words (2 * S + 1)).length := ⟨_, rfl⟩
        rw [← hzS3] at hS30 lS3 ⊢
        clear ct hv10 hzS3
        clear hS2_9
        have hR2_10 := hR2_9.later hb10
        clear hR2_9
        clear hW1b0
        have hB10 := hB9.trans (hb10.mono hB9.size)
        clear hB9 hb10
        go_wp2
        go_roundw
        case rel => exact ⟨j, _, _, _, _, _, _, _, _, by go_num, rfl, rfl, by omega, hS30, hR2_10, hin, hB10⟩
        case measure => simp [intOf]
end Go.Proofs.Ytopcdpeepchgfab
