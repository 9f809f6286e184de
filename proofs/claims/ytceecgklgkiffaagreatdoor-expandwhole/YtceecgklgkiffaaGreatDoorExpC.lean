/- Layer 13: next, rounded. -/
import Derived.Test.YtceecgklgkiffaaGreatDoorExpB
namespace Go.Proofs.YtceecgklgkiffaaGreatDoor
open Go.ChangeShapes Go.WideShapes Go.ChangeAt Go.RowKit
open Na Ar Ep
set_option linter.unusedVariables false
namespace Ep
theorem upL_row {N n k : Nat} (hk : 1 ≤ k) (h0 : N % 10 ≠ 0) (hN : N < 10 ^ (n + k)) : upL (dg n (N / 10 ^ k)) (dg k N) = up N (10 ^ k) := by
  rw [upL_dg hk h0]
  by_cases h : n = 0
  · subst h
    rw [if_pos rfl, goes_up (n := 0) hk h0, Nat.div_eq_of_lt (by simpa using hN)]
    simp
  · rw [if_neg h]
theorem nz_zeros (n : Nat) : nz (List.replicate n (0 : UInt8)) = List.replicate n 0 := by unfold nz; rw [List.map_replicate]; rfl
/-- the state of next behind j nines -/
def nineL (n Q j : Nat) : List UInt8 := dg (n - j) (Q / 10 ^ j) ++ List.replicate j 48
theorem nineL_len {n Q j : Nat} (h : j ≤ n) : (nineL n Q j).length = n := by unfold nineL; rw [List.length_append, dg_len, List.length_replicate]; omega
theorem nineL_zero (n Q : Nat) : nineL n Q 0 = dg n Q := by unfold nineL; simp
theorem nineL_at {n Q j : Nat} (h : j < n) : (nineL n Q j).getD (n - 1 - j) 0 = UInt8.ofNat (48 + Q / 10 ^ j % 10) := by
  unfold nineL
  rw [List.getD_eq_getElem?_getD, List.getElem?_append_left (by rw [dg_len]; omega), dg_at (by omega), show n - j - 1 - (n - 1 - j) = 0 by omega, Nat.pow_zero, Nat.div_one]
  rfl
theorem nineL_parts {n Q j : Nat} (h : j < n) : nineL n Q j = dg (n - j - 1) (Q / 10 ^ (j + 1)) ++ (UInt8.ofNat (48 + Q / 10 ^ j % 10) :: List.replicate j 48) := by
  unfold nineL
  obtain ⟨i, rfl⟩ : ∃ i, n = i + 1 + j := ⟨n - j - 1, by omega⟩
  have e : dg (i + 1) (Q / 10 ^ j) = dg i (Q / 10 ^ j / 10) ++ [UInt8.ofNat (48 + Q / 10 ^ j % 10)] := rfl
  rw [show i + 1 + j - j = i + 1 by omega, show i + 1 - 1 = i by omega, e, Nat.div_div_eq_div_mul, Nat.pow_succ, List.append_assoc]
  rfl
theorem nineL_set {n Q j : Nat} (h : j < n) (x : UInt8) : (nineL n Q j).set (n - 1 - j) x = dg (n - j - 1) (Q / 10 ^ (j + 1)) ++ (x :: List.replicate j 48) := by
  rw [nineL_parts h, List.set_append_right _ _ (by rw [dg_len]; omega), dg_len, show n - 1 - j - (n - j - 1) = 0 by omega]
  rfl
theorem nineL_next {n Q j : Nat} (h : j < n) : (nineL n Q j).set (n - 1 - j) 48 = nineL n Q (j + 1) := by
  rw [nineL_set h]
  unfold nineL
  rw [show n - (j + 1) = n - j - 1 by omega]
  rfl
theorem nines_all {n Q : Nat} (h : Q < 10 ^ n) (h9 : Q % 10 ^ n = 10 ^ n - 1) : Q + 1 = 10 ^ n := by
  rw [Nat.mod_eq_of_lt h] at h9
  have := Nat.pow_pos (n := n) (show 0 < 10 by omega)
  omega
/-- how many digits the next number has -/
def nxl (n Q : Nat) : Nat := if Q + 1 < 10 ^ n then n else n + 1
theorem one_zeros (n : Nat) : dg (n + 1) (10 ^ n) = 49 :: List.replicate n 48 := by
  rw [dg_cons, Nat.div_self (Nat.pow_pos (by omega)), ← dg_mod n (10 ^ n), Nat.mod_self, dg_zero]
  rfl
end Ep
theorem own_one {w : World} {base : Nat} (x : Int) (hb : base ≤ w.heap.size) : Own .u8 (w.alloc (.cells #[.int .u8 x] 5)) base 5 (.slice (some ⟨w.heap.size, 0, none⟩) 1 1) [x] :=
  ⟨rfl, Or.inr ⟨w.heap.size, 1, #[.int .u8 x], rfl, hb, heap_alloc_new w _, Nat.le_refl _, by unfold maxLen; omega, rfl, rfl⟩⟩
theorem rb_own {w : World} {base : Nat} {v : Value} {l : List UInt8} (h : Own .u8 w base 5 v (nz l)) : ∃ a c, v = .slice a l.length c ∧ Rb w a l.length c l := by
  obtain ⟨a, c, hv, h1, h2, h3⟩ := h.reads
  rw [nz_len] at hv h1 h3
  exact ⟨a, c, hv, h3, h1, by unfold maxLen at h2; omega⟩
set_option maxHeartbeats 3200000 in
set_option maxRecDepth 100000 in
theorem next13_any {w : World} {a : Option Addr} {n c Q : Nat} (h : Rb w a n c (dg n Q)) (hn : n ≤ 8000) (hQ : Q < 10 ^ n) :
    Calls Tryz.prog 73 #[.slice a n c] w fun e w' => ∃ a' n' c', e = .returned (.slice a' n' c') ∧ n' = nxl n Q ∧ Rb w' a' n' c' (dg n' (Q + 1)) ∧ Below w.heap.size w w' := by
  obtain ⟨i_u8, hi_u8, hz0_u8, hz1_u8, hz2_u8⟩ := info_parts info8
  have HQ : Hid (Q < 10 ^ n) := hQ
  have z0 : (n : Int) ≤ 8000 := by omega
  clear hQ
  go_enter Tryz.func73, Tryz.ntmps73
  go_wp2_with (at_make; refine wpList_make_full _ rfl _ _ 60 rfl w.heap.size 5 i_u8 (.int .u8 0) 1 Tryz.underlying60 hi_u8 hz0_u8 hz1_u8 .i64 .i64 _ _ n rfl rfl (by omega) (by omega) (by rw [hz2_u8]; omega) (by unfold maxLen; omega) (Nat.le_refl _) ?_)
  intro w1 hmade hgr
  have hown := own_zeros hmade
  rw [← nz_zeros] at hown
  have hb1 : Below w.heap.size w w1 := (Below.refl _ _).grown hgr (Nat.le_refl _) (fun k hk => by cases hk)
  have hW := wr_own hown (by rw [List.length_replicate])
  obtain ⟨w2, hr2, hW2, hb2⟩ := hW.copy (h.later hb1) (o := 0) (dLen := n) (dCap := n) (Nat.le_refl _) (by omega) 3
  have hl : (List.replicate n (0 : UInt8)).take 0 ++ dg n Q ++ (List.replicate n (0 : UInt8)).drop (0 + n) = nineL n Q 0 := by
    rw [nineL_zero, List.take_zero, List.nil_append, List.drop_of_length_le (by simp), List.append_nil]
  rw [hl] at hW2
  have hB2 : Below w.heap.size w w2 := hb1.trans hb2
  obtain ⟨g, hg⟩ : ∃ g, g = w.heap.size := ⟨_, rfl⟩
  have HG : Hid (w.heap.size = g) := hg.symm
  rw [← hg] at hW2 hr2 ⊢
  clear hmade hgr hown hb1 hW hl hb2 hg
  go_wp2_with (first | (at_builtin; refine wpList_copy8 rfl _ _ 60 60 rfl _ _ rfl rfl hr2 ?_))
  clear hr2 h
  go_loopg [4] (n + 1) (fun k s4 wr => ∃ (j : Nat) (I : Int), s4 = .int .i64 I ∧ I = (n : Int) - 1 - (j : Int) ∧ j ≤ n ∧ n - j < k + 1 ∧ Hid (Q % 10 ^ j = 10 ^ j - 1) ∧ Wr wr g g n (nineL n Q j) ∧ Below w.heap.size w wr)
  case atStart => exact ⟨0, _, rfl, by first | rfl | omega, Nat.zero_le _, by omega, (by show _ = _; rw [Nat.pow_zero]; omega), hW2, hB2⟩
  case round =>
    obtain ⟨j, I, rfl, hI, hj, hk, h9, hW, hB⟩ := hrel
    clear hW2 hB2
    by_cases hlt : j < n
    · obtain ⟨i, hi⟩ : ∃ i, i = n - 1 - j := ⟨_, rfl⟩
      have hIi : I = (i : Int) := by omega
      subst hIi
      clear hI
      have hin : i < n := by omega
      have hc := hW.cell i hin
      have hf := hW.free i hin
      obtain ⟨d, hd⟩ : ∃ d, d = Q / 10 ^ j % 10 := ⟨_, rfl⟩
      have hd9 : d < 10 := by omega
      rw [hi, nineL_at hlt, ← hi, ← hd, dch_nat hd9] at hc
      have HD : Hid (d = Q / 10 ^ j % 10) := hd
      have HI : Hid (i = n - 1 - j) := hi
      have q1 : (i : Int) < (n : Int) := by omega
      have q2 : (0 : Int) ≤ (i : Int) := by omega
      have HC : Hid (((48 + d : Nat) : Int) = 48 + (d : Int)) := by show _ = _; omega
      rw [HC.out] at hc
      clear hi hd
      by_cases hne : d = 9
      · obtain ⟨hs, hsb⟩ := hW.set i 48 48 rfl hin
        have HS : Hid ((nineL n Q j).set i 48 = nineL n Q (j + 1)) := by show _ = _; rw [HI.out]; exact nineL_next hlt
        rw [HS.out] at hs
        have HN : Hid (Q % 10 ^ (j + 1) = 10 ^ (j + 1) - 1) := nines_next h9.out (by rw [← HD.out]; exact hne)
        have hB3 : Below w.heap.size w (wr.setCell ⟨g, i, none⟩ (.int .u8 48)) := hB.trans (by rw [HG.out]; exact hsb)
        have hb9 : (48 + (d : Int) == 57) = true := by rw [hne]; rfl
        have hv : (48 + (d : Int)) = 57 := by rw [hne]; rfl
        rw [hv] at hc
        clear hW hB hsb hne hb9 hv
        go_wp2
        go_roundg (n - j - 1)
        case measure => omega
        case rel => exact ⟨j + 1, _, rfl, by have := HI.out; omega, by omega, by omega, HN.out, hs, hB3⟩
      · obtain ⟨hs, hsb⟩ := hW.set i (UInt8.ofNat (48 + Q / 10 ^ j % 10 + 1)) (48 + (d : Int) + 1) (by
            rw [← HD.out, Nat.add_assoc, UInt8.toNat_ofNat']
            omega) hin
        have hnx := next_nines hlt h9.out (by rw [← HD.out]; exact hne)
        have HS : Hid ((nineL n Q j).set i (UInt8.ofNat (48 + Q / 10 ^ j % 10 + 1)) = dg n (Q + 1)) := by show _ = _; rw [HI.out, nineL_set hlt]; exact hnx.1
        rw [HS.out] at hs
        have hB3 : Below w.heap.size w (wr.setCell ⟨g, i, none⟩ (.int .u8 (48 + (d : Int) + 1))) := hB.trans (by rw [HG.out]; exact hsb)
        have hlt2 : Q + 1 < 10 ^ n := hnx.2 HQ.out
        have HL2 : Hid (n = nxl n Q) := by show _ = _; unfold nxl; rw [if_pos hlt2]
        have hb9 : (48 + (d : Int) == 57) = false := by simp; omega
        have hR := hs.row (c := n) (Nat.le_refl _) (by omega)
        clear hW hB hsb hnx hs hlt2
        go_wp2
        go_ret
        exact ⟨_, n, n, rfl, HL2.out, hR, hB3⟩
    · obtain rfl : j = n := by omega
      have hIi : I < 0 := by omega
      clear hI
      have hR := hW.row (c := j) (Nat.le_refl _) (by omega)
      have hQ1 := nines_all HQ.out h9.out
      have HL : Hid (49 :: nineL j Q j = dg (j + 1) (Q + 1)) := by
        show _ = _
        rw [hQ1, one_zeros]
        unfold nineL
        rw [Nat.sub_self]
        rfl
      have HL2 : Hid (j + 1 = nxl j Q) := by show _ = _; unfold nxl; rw [if_neg (by omega)]
      have hO := own_one (w := wr) (base := w.heap.size) 49 hB.size
      have hba := alloc_below (w := wr) (.cells #[.int .u8 49] 5)
      have hR1 := hR.later hba
      have hBa : Below w.heap.size w (wr.alloc (.cells #[.int .u8 49] 5)) := hB.trans (hba.mono hB.size)
      clear hW hR hba hQ1 h9
      go_wp2_with (at_builtin; refine wpList_append_own _ rfl _ _ 60 rfl w.heap.size 5 i_u8 (.int .u8 0) 1 1 Tryz.underlying60 hi_u8 hz0_u8 hz1_u8 hz2_u8 rfl (by decide) _ 1 [.int .u8 49] rfl hO.row ⟨g, 0, none⟩ j j ((nz (nineL j Q j)).map (Value.int .u8)) rfl (by rw [List.length_map, hR1.1.1, Nat.mul_one]) (fun jj u hj => by
          rw [List.getElem?_map] at hj
          obtain ⟨x, hx, rfl⟩ := Option.map_eq_some_iff.1 hj
          exact hR1.add jj x hx) (fun u hu => by obtain ⟨x, _, rfl⟩ := List.mem_map.1 hu; rfl) (by unfold maxLen; omega) (by omega) hBa.size ?_)
      intro v3 w3 hv3 hg3 hn3
      have hown3 : Own .u8 w3 w.heap.size 5 v3 (nz (dg (j + 1) (Q + 1))) := by
        rw [← HL.out]
        unfold Own
        rw [nz_len, List.length_cons, nineL_len (Nat.le_refl _), Nat.add_comm]
        exact hv3
      have hB3 : Below w.heap.size w w3 := hBa.grown hg3 hBa.size (fun k hk => (hO.row.lt k hk).1)
      obtain ⟨a3, c3, rfl, hR3⟩ := rb_own hown3
      have HLL : Hid ((dg (j + 1) (Q + 1)).length = j + 1) := dg_len _ _
      rw [HLL.out] at hR3 ⊢
      clear hv3 hg3 hn3 hown3 hO hR1 hBa hB
      go_wp2
      go_ret
      exact ⟨a3, j + 1, c3, rfl, HL2.out, hR3, hB3⟩
namespace Ep
theorem rw13_short {L N n : Nat} (hN : N < 10 ^ L) (h : L ≤ n) : rw13 L N n = dg L N ++ List.replicate (n - L) 48 := by
  unfold rw13
  rw [if_pos ((rn_le hN).2 h)]
  unfold rn
  rw [if_pos h]
  obtain ⟨k, rfl⟩ : ∃ k, n = L + k := ⟨n - L, by omega⟩
  rw [Nat.add_sub_cancel_left, dg_tens]
theorem rw13_up {L N n : Nat} (h : n < L) (hu : up N (10 ^ (L - n)) = true) : rw13 L N n = dg (nxl n (N / 10 ^ (L - n))) (N / 10 ^ (L - n) + 1) := by
  have e : rn L N n = N / 10 ^ (L - n) + 1 := by unfold rn rq; rw [if_neg (show ¬ L ≤ n by omega), if_pos hu]
  unfold rw13 nxl
  rw [e]
theorem rw13_down {L N n : Nat} (hN : N < 10 ^ L) (h : n < L) (hu : up N (10 ^ (L - n)) = false) : rw13 L N n = dg n (N / 10 ^ (L - n)) ∧ N / 10 ^ (L - n) < 10 ^ n := by
  have hd : N / 10 ^ (L - n) < 10 ^ n := by
    rw [Nat.div_lt_iff_lt_mul (Nat.pow_pos (by omega)), ← Nat.pow_add, show n + (L - n) = L by omega]
    exact hN
  refine ⟨?_, hd⟩
  have e : rn L N n = N / 10 ^ (L - n) := by unfold rn rq; rw [if_neg (show ¬ L ≤ n by omega), hu]; rfl
  unfold rw13
  rw [e, if_pos hd]
end Ep
set_option maxHeartbeats 3200000 in
set_option maxRecDepth 100000 in
theorem rounded13_any {w : World} {a : Option Addr} {L c N n : Nat} (h : Rb w a L c (dg L N)) (hL : 1 ≤ L) (hL9 : L ≤ 4000) (hn : n ≤ 4000) (hN : N < 10 ^ L) (h0 : N % 10 ≠ 0 ∨ L ≤ n) :
    Calls Tryz.prog 32 #[.slice a L c, .int .i64 (n : Int)] w fun e w' => ∃ a' n' c', e = .returned (.slice a' n' c') ∧ Rb w' a' n' c' (rw13 L N n) ∧ Below w.heap.size w w' := by
  have z0 : ¬ (n : Int) < 0 := by omega
  by_cases hln : L ≤ n
  · have z1 : (L : Int) ≤ (n : Int) := by omega
    have hZ := fun w => zeros13_any (n := n) (by omega) (by omega) w
    have HR : Hid (rw13 L N n = dg L N ++ List.replicate (n - L) 48) := rw13_short hN hln
    rw [HR.out]
    clear h0
    go_enter Tryz.func32, Tryz.ntmps32
    go_wp2_with fail
    refine (hZ _).mono ?_
    rintro e w1 ⟨g, rfl, hW, hb1⟩
    obtain ⟨w2, hr2, hW2, hb2⟩ := hW.copy (h.later hb1) (o := 0) (dLen := n) (dCap := n) hln (by omega) 3
    have hl : (List.replicate n (48 : UInt8)).take 0 ++ dg L N ++ (List.replicate n (48 : UInt8)).drop (0 + L) = dg L N ++ List.replicate (n - L) 48 := by
      rw [List.take_zero, List.nil_append, Nat.zero_add, List.drop_replicate]
    rw [hl] at hW2
    have hB2 : Below w.heap.size w w2 := hb1.trans hb2
    have hR := hW2.row (c := n) (Nat.le_refl _) (by omega)
    clear hl hW hW2 hb1 hb2 hZ
    go_wp2_with (first | (at_builtin; refine wpList_copy8 rfl _ _ 60 60 rfl _ _ rfl rfl hr2 ?_))
    go_ret
    exact ⟨_, n, n, rfl, hR, hB2⟩
  · have z1 : ¬ (L : Int) ≤ (n : Int) := by omega
    have h10 : N % 10 ≠ 0 := h0.resolve_right hln
    have hC := cut13_any h (n := n) (by omega)
    rw [dg_take (by omega), dg_drop (by omega)] at hC
    have HU := upL_row (N := N) (n := n) (k := L - n) (by omega) h10 (by rw [show n + (L - n) = L by omega]; exact hN)
    have hQ : N / 10 ^ (L - n) < 10 ^ n := by
      rw [Nat.div_lt_iff_lt_mul (Nat.pow_pos (by omega)), ← Nat.pow_add, show n + (L - n) = L by omega]
      exact hN
    by_cases hu : up N (10 ^ (L - n)) = true
    · have HR : Hid (rw13 L N n = dg (nxl n (N / 10 ^ (L - n))) (N / 10 ^ (L - n) + 1)) := rw13_up (by omega) hu
      rw [hu] at HU
      rw [HR.out]
      have HN := @next13_any
      have HQ : Hid (N / 10 ^ (L - n) < 10 ^ n) := hQ
      generalize N / 10 ^ (L - n) = Q at *
      clear h0 hu hQ
      go_enter Tryz.func32, Tryz.ntmps32
      go_wp2_with fail
      refine hC.mono ?_
      rintro e w1 ⟨a1, a2, rfl, h1, h2, hb1⟩
      have hG := goesUp_any h1 h2
      rw [HU] at hG
      clear hC HU HN
      go_wp2_with fail
      refine hG.mono ?_
      rintro e w2 ⟨rfl, hb2⟩
      have hX := next13_any (h1.later hb2) (by omega) HQ.out
      have hB2 := hb1.trans (hb2.mono hb1.size)
      clear hG h1 h2 hb1 hb2
      go_wp2_with fail
      refine hX.mono ?_
      rintro e w3 ⟨a3, n3, c3, rfl, hn3, hR3, hb3⟩
      have hB3 := hB2.trans (hb3.mono hB2.size)
      rw [hn3] at hR3 ⊢
      clear hX hb3 hn3
      go_wp2
      go_ret
      exact ⟨a3, _, c3, rfl, hR3, hB3⟩
    · have hu' : up N (10 ^ (L - n)) = false := by simpa using hu
      have HR : Hid (rw13 L N n = dg n (N / 10 ^ (L - n))) := (rw13_down hN (by omega) hu').1
      rw [hu'] at HU
      rw [HR.out]
      generalize N / 10 ^ (L - n) = Q at *
      clear h0 hu hu' hQ
      go_enter Tryz.func32, Tryz.ntmps32
      go_wp2_with fail
      refine hC.mono ?_
      rintro e w1 ⟨a1, a2, rfl, h1, h2, hb1⟩
      have hG := goesUp_any h1 h2
      rw [HU] at hG
      clear hC HU
      go_wp2_with fail
      refine hG.mono ?_
      rintro e w2 ⟨rfl, hb2⟩
      have hR2 := h1.later hb2
      have hB2 := hb1.trans (hb2.mono hb1.size)
      clear hG h1 h2 hb1 hb2
      go_wp2
      go_ret
      exact ⟨a1, n, n, rfl, hR2, hB2⟩
theorem rounded13_neg {a : Option Addr} {L c : Nat} {n : Int} (hn : n < 0) (w : World) :
    Calls Tryz.prog 32 #[.slice a L c, .int .i64 n] w fun e w' => e = .returned (.slice none 0 0) ∧ w' = w := by
  go_enter Tryz.func32, Tryz.ntmps32
  go_wp2
  go_ret
  exact ⟨rfl, rfl⟩
end Go.Proofs.YtceecgklgkiffaaGreatDoor
