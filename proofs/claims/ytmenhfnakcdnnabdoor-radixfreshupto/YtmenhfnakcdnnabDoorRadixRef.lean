/- plumbref04: put, cut, words, Power; plumblaw04.rest. -/
import Derived.Test.YtmenhfnakcdnnabDoorRadixAlive
namespace Go.Proofs.YtmenhfnakcdnnabDoor
open Go.ChangeShapes Go.WideShapes Go.ChangeAt Go.RowKit
open Na Ar
set_option linter.unusedVariables false
theorem own_lit (w : World) (x : Int) : Own .u64 (w.alloc (.cells #[.int .u64 x] 35)) w.heap.size 35 (.slice (some ⟨w.heap.size, 0, none⟩) 1 1) [x] :=
  ⟨by simp, Or.inr ⟨w.heap.size, 1, #[.int .u64 x], by simp, Nat.le_refl _, heap_alloc_new _ _, by simp, by unfold maxLen; omega, by simp, by simp⟩⟩
namespace Na
theorem val_set32 {us : List Int} {j : Nat} {c p lo hi : Int} (hj : j < us.length) (e : us.getD j 0 + p + c = lo + 4294967296 * hi) :
    val 4294967296 (us.set j lo) + 4294967296 ^ (j + 1) * hi = val 4294967296 us + 4294967296 ^ j * c + 4294967296 ^ j * p := by
  rw [val_set _ hj, Int.pow_succ]
  generalize val 4294967296 us = V
  generalize (4294967296 : Int) ^ j = P
  generalize us.getD j 0 = u at *
  have : lo = u + p + c - 4294967296 * hi := by omega
  subst this
  grind
/-- k limbs are multiplied -/
def PuI (ds : List Int) (x c0 : Int) (k : Nat) (d : Int) (us : List Int) : Prop := Dg 4294967296 us ∧ us.length = ds.length ∧ (0 ≤ d ∧ d < 4294967296) ∧ us.drop k = ds.drop k ∧
  val 4294967296 us + 4294967296 ^ k * d = val 4294967296 ds + (x - 1) * val 4294967296 (ds.take k) + c0
theorem puI_start {ds : List Int} {x c0 : Int} (h : Dg 4294967296 ds) (hc : 0 ≤ c0 ∧ c0 < 4294967296) : PuI ds x c0 0 c0 ds := ⟨h, rfl, hc, rfl, by simp [val]⟩
theorem pu_bd {y x d : Int} (hy : 0 ≤ y ∧ y < 4294967296) (hx : 0 ≤ x ∧ x < 4294967296) (hd : 0 ≤ d ∧ d < 4294967296) : 0 ≤ y * x ∧ y * x + d < 18446744073709551616 ∧ (0 ≤ (y * x + d) / 4294967296 ∧ (y * x + d) / 4294967296 < 4294967296) := by
  have m0 : 0 ≤ y * x := Int.mul_nonneg hy.1 hx.1
  have m1 : y * x ≤ 4294967295 * 4294967295 := Int.mul_le_mul (by omega) (by omega) hx.1 (by omega)
  generalize y * x = z at *
  omega
theorem puI_step {ds us : List Int} {x c0 d : Int} {k : Nat} (h : PuI ds x c0 k d us) (hx : 0 ≤ x ∧ x < 4294967296) (hk : k < us.length) : PuI ds x c0 (k + 1) ((us.getD k 0 * x + d) / 4294967296) (us.set k ((us.getD k 0 * x + d) % 4294967296)) := by
  obtain ⟨h1, h2, h3, h4, h5⟩ := h
  have gu := h1.get hk
  have ed : us.getD k 0 = ds.getD k 0 := getD_drop h4
  have bd := pu_bd ⟨gu.1, gu.2⟩ hx h3
  refine ⟨h1.set _ (by omega), by rw [List.length_set]; exact h2, bd.2.2, ?_, ?_⟩
  · rw [List.drop_set_of_lt (by omega)]
    have := congrArg (List.drop 1) h4
    rw [List.drop_drop, List.drop_drop] at this
    exact this
  · have e : us.getD k 0 + (x - 1) * us.getD k 0 + d = (us.getD k 0 * x + d) % 4294967296 + 4294967296 * ((us.getD k 0 * x + d) / 4294967296) := by
      have q : us.getD k 0 + (x - 1) * us.getD k 0 = us.getD k 0 * x := by grind
      rw [q]
      generalize us.getD k 0 * x = z
      omega
    have p := val_set32 (j := k) (c := d) (p := (x - 1) * us.getD k 0) hk e
    have t : val 4294967296 (ds.take (k + 1)) = val 4294967296 (ds.take k) + 4294967296 ^ k * ds.getD k 0 := take_valB (by omega)
    rw [p, h5, t, ed]
    generalize (4294967296 : Int) ^ k = P
    generalize ds.getD k 0 = y
    generalize val 4294967296 (ds.take k) = V
    grind
theorem puI_done {ds us : List Int} {x c0 d : Int} (h : PuI ds x c0 ds.length d us) : (d = 0 → val 4294967296 us = val 4294967296 ds * x + c0) ∧ val 4294967296 (us ++ [d]) = val 4294967296 ds * x + c0 := by
  have e := h.2.2.2.2
  rw [List.take_of_length_le (Nat.le_refl _)] at e
  have e2 : val 4294967296 us + 4294967296 ^ ds.length * d = val 4294967296 ds * x + c0 := by
    rw [e]
    generalize val 4294967296 ds = N
    grind
  refine ⟨fun h0 => by rw [h0] at e2; simpa using e2, ?_⟩
  rw [val_append, h.2.1, ← e2]
  simp [val]
theorem take_any (ds : List Int) (k : Nat) : val 4294967296 (ds.take (k + 1)) = val 4294967296 (ds.take k) + 4294967296 ^ k * ds.getD k 0 := by
  by_cases h : k < ds.length
  · exact take_valB h
  · rw [List.take_of_length_le (by omega), List.take_of_length_le (by omega)]
    have : ds.getD k 0 = 0 := by rw [List.getD_eq_getElem?_getD, List.getElem?_eq_none (by omega)]; rfl
    rw [this]; simp
/-- limbs laid together to words -/
def jnW (ds : List Int) : Nat → List Int
  | 0 => []
  | k + 1 => jnW ds k ++ [ds.getD (2 * k) 0 + 4294967296 * ds.getD (2 * k + 1) 0]
theorem jnW_length (ds : List Int) (k : Nat) : (jnW ds k).length = k := by
  induction k with
  | zero => rfl
  | succ k ih => simp [jnW, ih]
theorem dg_any {ds : List Int} (h : Dg 4294967296 ds) (k : Nat) : 0 ≤ ds.getD k 0 ∧ ds.getD k 0 < 4294967296 := by
  by_cases hk : k < ds.length
  · exact h.get hk
  · have e : ds.getD k 0 = 0 := by rw [List.getD_eq_getElem?_getD, List.getElem?_eq_none (by omega)]; rfl
    rw [e]; omega
theorem jnW_ws {ds : List Int} (h : Dg 4294967296 ds) (k : Nat) : Ws (jnW ds k) := by
  induction k with
  | zero => exact Dg.nil _
  | succ k ih =>
    have a := dg_any h (2 * k)
    have b := dg_any h (2 * k + 1)
    refine ih.append ?_
    intro y hy
    rw [List.mem_singleton] at hy
    subst hy
    omega
theorem jnW_num (ds : List Int) (k : Nat) : num (jnW ds k) = val 4294967296 (ds.take (2 * k)) := by
  induction k with
  | zero => simp [jnW, num, val]
  | succ k ih =>
    have e : num (jnW ds (k + 1)) = num (jnW ds k) + 18446744073709551616 ^ (jnW ds k).length * (ds.getD (2 * k) 0 + 4294967296 * ds.getD (2 * k + 1) 0) := by
      show val _ (jnW ds k ++ [_]) = _
      rw [val_append]; simp [val]; rfl
    rw [e, jnW_length, ih, show 2 * (k + 1) = 2 * k + 1 + 1 by omega, take_any, take_any]
    have p : (18446744073709551616 : Int) ^ k = 4294967296 ^ (2 * k) := by rw [Int.pow_mul]; rfl
    rw [p, Int.pow_succ]
    grind
theorem or_joinY {x y : Int} (hy : 0 ≤ y ∧ y < 4294967296) (hx : 0 ≤ x ∧ x < 4294967296) : bits .or .u64 y (IntKind.u64.wrap (x * 4294967296)) = y + 4294967296 * x := by
  rw [wrapU, u64_or _ _ (by omega) (by omega) (by omega) (by omega), Nat.or_comm]
  have e : x * 4294967296 % 18446744073709551616 = x * 4294967296 := by omega
  rw [e]
  have : ((x * 4294967296).toNat ||| y.toNat) = (x * 4294967296).toNat + y.toNat := nat_join 32 _ _ (by omega) (by omega)
  rw [this]; omega
end Na
/-- limbs that say V -/
def LimbsIs (w : World) (base : Nat) (v : Value) (n : Nat) (V : Int) : Prop := ∃ us, Own .u64 w base 35 v us ∧ Dg 4294967296 us ∧ us.length ≤ n ∧ val 4294967296 us = V
def sLen : Value → Nat
  | .slice _ n _ => n
  | _ => 0
set_option maxHeartbeats 1600000 in
set_option maxRecDepth 100000 in
theorem put_any {g cap N base : Nat} {ds : List Int} {x c0 : Int} {w : World} (hown : Own .u64 w base 35 (.slice (some ⟨g, 0, none⟩) N cap) ds) (hN : N = ds.length) (hd : Dg 4294967296 ds) (hx : 0 ≤ x ∧ x < 4294967296) (hc : 0 ≤ c0 ∧ c0 < 4294967296) (hN' : N ≤ 1000000) (hbase : base ≤ w.heap.size) :
    Calls Tryd.prog 51 #[.slice (some ⟨g, 0, none⟩) N cap, .int .u64 x, .int .u64 c0] w fun e w' => ∃ v, e = .returned v ∧ LimbsIs w' base v (N + 1) (val 4294967296 ds * x + c0) ∧ Below base w w' := by
  obtain ⟨i_u64, hi_u64, hz0_u64, hz1_u64, hz2_u64⟩ := info_parts info_u64
  have HN : Hid (N = ds.length) := hN
  have hst := puI_start (x := x) hd hc
  have hbg := hown.base_le
  clear hN
  go_enter Tryd.func51, Tryd.ntmps51
  go_wp2
  go_loopw [2, 7, 8] (fun c i _ wr => ∃ (j : Nat) (D : Int) (us : List Int), i = .int .i64 j ∧ c = .int .u64 D ∧ j ≤ N ∧ Own .u64 wr base 35 (.slice (some ⟨g, 0, none⟩) N cap) us ∧ PuI ds x c0 j D us ∧ Below base w wr) (fun _ i _ _ => N - (RowKit.intOf i).toNat)
  case atStart => exact ⟨0, c0, ds, rfl, rfl, by omega, hown, hst, Below.refl _ _⟩
  case round =>
    obtain ⟨j, D, us, rfl, rfl, hj, hou, hinv, hnx⟩ := hrel
    clear hown hst
    have hlu : N = us.length := by rw [hinv.2.1]; exact HN.out
    by_cases hlt : j < N
    · have gu := dg_any hinv.1 j
      have gd := hinv.2.2.1
      have hstep := puI_step hinv hx (by omega)
      have bd := pu_bd gu hx gd
      have hce := hou.cellAt hlu (j := j) hlt
      have hfz := hou.frozenAt hlu j
      have hO := hou.set hlu j ((us.getD j 0 * x + D) % 4294967296)
      generalize us.getD j 0 = y at *
      obtain ⟨m0, m1, _⟩ := bd
      have hw1 : IntKind.u64.wrap (y * x) = y * x := by rw [wrapU]; exact Int.emod_eq_of_lt m0 (by omega)
      have hw2 : IntKind.u64.wrap (y * x + D) = y * x + D := by rw [wrapU]; exact Int.emod_eq_of_lt (by omega) m1
      have hlo : bits .and .u64 (y * x + D) 4294967295 = (y * x + D) % 4294967296 := and_half (by unfold U; omega)
      clear hou hinv hlu
      go_wp2
      go_roundw
      case rel => exact ⟨j + 1, _, _, by go_num, rfl, by omega, hO, hstep, hnx.setCell hbg _⟩
      case measure => simp [RowKit.intOf]; omega
    · have hj2 : j = ds.length := by rw [← HN.out]; omega
      rw [hj2] at hinv
      obtain ⟨p1, p2⟩ := puI_done hinv
      have hdg := hinv.1
      have hD := hinv.2.2.1
      have hsz : base ≤ wr.heap.size := Nat.le_trans hbase hnx.size
      have HLU : Hid (us.length = N) := hlu.symm
      by_cases h0 : 0 < D
      · have HV : Hid (val 4294967296 (us ++ [D]) = val 4294967296 ds * x + c0) := p2
        have hdg2 : Dg 4294967296 (us ++ [D]) := hdg.append (Dg.one hD)
        clear p1 p2 hinv hj2
        go_wp2_with (at_builtin; refine wpList_append_own _ rfl _ _ 22 rfl base 35 i_u64 (.int .u64 0) 1 8 Tryd.underlying22 hi_u64 hz0_u64 hz1_u64 hz2_u64 rfl (by decide) _ _ _ rfl (hou.row.alloc _) ⟨wr.heap.size, 0, none⟩ 1 1 [.int .u64 D] rfl rfl one_new one_cell (by unfold maxLen; omega) (by omega) (by simp; omega) ?_)
        intro v' w2 hown' hgrow _
        have hb' := grow_below hsz hou.row hnx hgrow
        have ho' := own_next hown' rfl
        clear hown' hgrow hou hnx hlu
        go_wp2
        go_ret
        exact ⟨_, rfl, ⟨_, ho', hdg2, by simp [HLU.out], HV.out⟩, hb'⟩
      · have HV : Hid (val 4294967296 us = val 4294967296 ds * x + c0) := p1 (by omega)
        clear p1 p2 hinv hj2 hlu
        go_wp2
        go_ret
        exact ⟨_, rfl, ⟨_, hou, hdg, by rw [HLU.out]; omega, HV.out⟩, hnx⟩
set_option maxHeartbeats 1600000 in
set_option maxRecDepth 100000 in
theorem cut4_any {a : Option Addr} {n cap : Nat} {xs : List Int} {w : World} (hrow : RowC w a n cap xs) (hn : n ≤ 12000000) :
    Calls Tryd.prog 77 #[.slice a n cap] w fun e w' => ∃ m : Nat, e = .returned (.slice a m cap) ∧ (m ≤ n ∧ strip xs = xs.take m) ∧ w = w' := by
  have hlen := hrow.1.1
  have hcap := hrow.2.1
  go_enter Tryd.func77, Tryd.ntmps77
  go_wp2
  go_loop [0] (fun v => ∃ m : Nat, m ≤ n ∧ v = .slice a m cap ∧ Hid (strip xs = strip (xs.take m))) (fun v => sLen v)
  case atStart => exact ⟨n, Nat.le_refl _, rfl, (by rw [List.take_of_length_le (by omega)] : strip xs = strip (xs.take n))⟩
  case round =>
    obtain ⟨m, hm, rfl, hs⟩ := hrel
    cases m with
    | zero =>
      have HF : Hid (strip xs = xs.take 0) := take_strip (Nat.zero_le _) hs.out (Or.inl rfl)
      go_wp2
      go_ret
      exact ⟨0, rfl, ⟨Nat.zero_le _, HF.out⟩, rfl⟩
    | succ j =>
      obtain ⟨b, off, rfl, hbB, hc⟩ := hrow.1.at (by omega)
      have hcx := hc j (by omega)
      have hl : Hid (xs.take (j + 1) = xs.take j ++ [xs.getD j 0]) := take_next (by omega)
      have HF := fun h => take_strip (xs := xs) (m := j + 1) (by omega) hs.out (Or.inr h)
      simp only [Nat.add_sub_cancel] at HF
      have hgo : xs.getD j 0 = 0 → strip xs = strip (xs.take j) := fun h => by rw [hs.out, hl.out, h, strip_zero_end]
      generalize xs.getD j 0 = x at *
      clear hc hrow hl hs
      by_cases hx : x = 0
      · have t : (x == 0) = true := by simp [hx]
        have HG : Hid (strip xs = strip (xs.take j)) := hgo hx
        clear HF hgo hx
        go_wp2
        go_round
        case rel => exact ⟨j, by omega, rfl, HG⟩
        case measure => simp [sLen]
      · have t : (x == 0) = false := by simp [hx]
        have HF' : Hid (strip xs = xs.take (j + 1)) := HF hx
        clear HF hgo hx
        go_wp2
        go_ret
        exact ⟨j + 1, rfl, ⟨by omega, HF'.out⟩, rfl⟩
set_option maxHeartbeats 3200000 in
set_option maxRecDepth 100000 in
theorem words4_any {a : Option Addr} {n cap : Nat} {ds : List Int} {w : World} (hrow : RowC w a n cap ds) (hd : Dg 4294967296 ds) (hn : n ≤ 12000000) :
    Calls Tryd.prog 52 #[.slice a n cap] w fun e w' => ∃ (va : Option Addr) (l c : Nat), e = .returned (.slice va l c) ∧ RowC w' va l c (words (val 4294967296 ds)) ∧ Below w.heap.size w w' := by
  obtain ⟨i_u64, hi_u64, hz0_u64, hz1_u64, hz2_u64⟩ := info_parts info_u64
  have HN : Hid (ds.length = n) := hrow.1.1
  have hjl := fun k => jnW_length ds k
  go_enter Tryd.func52, Tryd.ntmps52
  go_wp2
  go_loopw [3, 4, 5] (fun v i _ wr => ∃ k : Nat, i = .int .i64 (2 * (k : Int)) ∧ 2 * k ≤ n + 1 ∧ Own .u64 wr w.heap.size 35 v (jnW ds k) ∧ Below w.heap.size w wr) (fun _ i _ _ => n + 2 - (RowKit.intOf i).toNat)
  case atStart => exact ⟨0, rfl, by omega, own_nil _ _ _ _, Below.refl _ _⟩
  case round =>
    obtain ⟨k, rfl, hk, hov, hnx⟩ := hrel
    have hsz := hnx.size
    have hlk := hjl k
    by_cases hlt : 2 * k < n
    · obtain ⟨b, off, rfl, hbB, hc⟩ := hrow.1.at (by omega)
      have c0 := (hnx.cell (p := ⟨b, off + 2 * k, none⟩) hbB).trans (hc (2 * k) hlt)
      have d0 := dg_any hd (2 * k)
      have d1 := dg_any hd (2 * k + 1)
      have i0 : (2 * (k : Int)).toNat = 2 * k := by omega
      have i1 : (2 * (k : Int) + 1).toNat = 2 * k + 1 := by omega
      have j0 : 2 * (k : Int) < (n : Int) := by omega
      have HJ : Hid (jnW ds (k + 1) = jnW ds k ++ [ds.getD (2 * k) 0 + 4294967296 * ds.getD (2 * k + 1) 0]) := rfl
      by_cases h1 : 2 * k + 1 < n
      · have c1 := (hnx.cell (p := ⟨b, off + (2 * k + 1), none⟩) hbB).trans (hc (2 * k + 1) h1)
        have j1 : 2 * (k : Int) + 1 < (n : Int) := by omega
        generalize ds.getD (2 * k) 0 = x at *
        generalize ds.getD (2 * k + 1) 0 = y at *
        have hor : bits .or .u64 x (IntKind.u64.wrap (y * 4294967296)) = x + 4294967296 * y := or_joinY d0 d1
        clear hc d0 d1
        go_wp2_with (at_builtin; refine wpList_append_own _ rfl _ _ 22 rfl w.heap.size 35 i_u64 (.int .u64 0) 1 8 Tryd.underlying22 hi_u64 hz0_u64 hz1_u64 hz2_u64 rfl (by decide) _ _ _ rfl (hov.row.alloc _) ⟨wr.heap.size, 0, none⟩ 1 1 [.int .u64 (x + 4294967296 * y)] rfl rfl one_new one_cell (by unfold maxLen; omega) (by omega) (by simp; omega) ?_)
        intro v' w1 hown' hgrow _
        have hb' := grow_below hsz hov.row hnx hgrow
        have ho' := own_next hown' (by omega)
        rw [← HJ.out] at ho'
        clear hown' hgrow hov hnx
        go_wp2
        go_roundw
        case rel => exact ⟨k + 1, by go_num, by omega, ho', hb'⟩
        case measure => simp [RowKit.intOf]; omega
      · have j1 : ¬ 2 * (k : Int) + 1 < (n : Int) := by omega
        have e1 : ds.getD (2 * k + 1) 0 = 0 := by rw [List.getD_eq_getElem?_getD, List.getElem?_eq_none (by rw [HN.out]; omega)]; rfl
        have HJ2 : Hid (jnW ds (k + 1) = jnW ds k ++ [ds.getD (2 * k) 0]) := by show _ = _; rw [HJ.out, e1]; simp
        generalize ds.getD (2 * k) 0 = x at *
        clear hc d0 d1 e1 HJ
        go_wp2_with (at_builtin; refine wpList_append_own _ rfl _ _ 22 rfl w.heap.size 35 i_u64 (.int .u64 0) 1 8 Tryd.underlying22 hi_u64 hz0_u64 hz1_u64 hz2_u64 rfl (by decide) _ _ _ rfl (hov.row.alloc _) ⟨wr.heap.size, 0, none⟩ 1 1 [.int .u64 x] rfl rfl one_new one_cell (by unfold maxLen; omega) (by omega) (by simp; omega) ?_)
        intro v' w1 hown' hgrow _
        have hb' := grow_below hsz hov.row hnx hgrow
        have ho' := own_next hown' (by omega)
        rw [← HJ2.out] at ho'
        clear hown' hgrow hov hnx
        go_wp2
        go_roundw
        case rel => exact ⟨k + 1, by go_num, by omega, ho', hb'⟩
        case measure => simp [RowKit.intOf]; omega
    · have hnum := jnW_num ds k
      rw [List.take_of_length_le (by rw [HN.out]; omega)] at hnum
      have hws := jnW_ws hd k
      have hst := words_strip hws
      rw [hnum] at hst
      have HS : Hid (strip (jnW ds k) = words (val 4294967296 ds)) := hst
      obtain ⟨va, vc, rfl, hvr⟩ := hov.readsC
      rw [hlk] at hvr ⊢
      have cc := cut4_any hvr (by omega)
      have j0 : ¬ 2 * (k : Int) < (n : Int) := by omega
      clear hnum hst hov hws hlk
      go_wp2_with fail
      refine cc.mono ?_
      rintro e w' ⟨m, rfl, ⟨hmk, hm⟩, rfl⟩
      have hcut := hvr.cut hmk
      rw [← hm, HS.out] at hcut
      clear cc hvr hm
      go_wp2
      go_ret
      exact ⟨_, _, _, rfl, hcut, hnx⟩
set_option maxHeartbeats 3200000 in
set_option maxRecDepth 100000 in
theorem power_any {b : Int} (hb : 0 < b ∧ b < 4294967296) (n : Nat) (hn : n ≤ 100000) (w : World) :
    Calls Tryd.prog 25 #[.int .u64 b, .int .i64 (n : Int)] w fun e w' => ∃ (va : Option Addr) (l c : Nat), e = .returned (.slice va l c) ∧ RowC w' va l c (words (b ^ n)) ∧ Below w.heap.size w w' := by
  have h0 : LimbsIs (w.alloc (.cells #[.int .u64 1] 35)) w.heap.size (.slice (some ⟨w.heap.size, 0, none⟩) 1 1) (0 + 1) (b ^ 0) := ⟨[1], own_lit w 1, Dg.one (by omega), by simp, by simp [val]⟩
  have hb0 : Below w.heap.size w (w.alloc (.cells #[.int .u64 1] 35)) := (Below.refl _ _).alloc (Nat.le_refl _) _
  go_enter Tryd.func25, Tryd.ntmps25
  go_wp2
  go_loopw [5, 6] (fun v i wr => ∃ k : Nat, i = .int .i64 (k : Int) ∧ k ≤ n ∧ LimbsIs wr w.heap.size v (k + 1) (b ^ k) ∧ Below w.heap.size w wr) (fun _ i _ => n - (RowKit.intOf i).toNat)
  case atStart => exact ⟨0, rfl, Nat.zero_le _, h0, hb0⟩
  case round =>
    obtain ⟨k, rfl, hk, hl, hnx⟩ := hrel
    obtain ⟨us, hou, hdg, hul, hval⟩ := hl
    clear h0 hb0
    by_cases hlt : k < n
    · have hpos : 0 < b ^ k := Int.pow_pos hb.1
      rcases hou.2 with ⟨hv, hz⟩ | ⟨g, cap, cur, hv, hbb, _⟩
      · exfalso
        have : us = [] := List.eq_nil_of_length_eq_zero hz
        rw [this] at hval
        have z : val 4294967296 ([] : List Int) = 0 := rfl
        omega
      · subst hv
        have hp := put_any hou rfl hdg (x := b) (c0 := 0) ⟨by omega, hb.2⟩ (by omega) (by omega) hnx.size
        have e1 : val 4294967296 us * b + 0 = b ^ (k + 1) := by rw [hval, Int.pow_succ]; omega
        rw [e1] at hp
        have hul2 : us.length + 1 ≤ k + 1 + 1 := by omega
        generalize us.length = ul at *
        clear hval e1 hou hdg
        go_wp2_with fail
        refine hp.mono ?_
        rintro e w1 ⟨v1, rfl, hl1, hb1⟩
        have hB1 := hnx.trans hb1
        have hl2 : LimbsIs w1 w.heap.size v1 (k + 1 + 1) (b ^ (k + 1)) := by
          obtain ⟨us, a1, a2, a3, a4⟩ := hl1
          exact ⟨us, a1, a2, by omega, a4⟩
        clear hp hl1
        go_wp2
        go_roundw
        case rel => exact ⟨k + 1, by go_num, by omega, hl2, hB1⟩
        case measure => simp [RowKit.intOf]; omega
    · have hkn : k = n := by omega
      subst hkn
      obtain ⟨va, vc, rfl, hvr⟩ := hou.readsC
      have cw := words4_any hvr hdg (by omega)
      rw [hval] at cw
      generalize us.length = ul at *
      clear hou hvr
      go_wp2_with fail
      refine cw.mono ?_
      rintro e w1 ⟨a1, l1, c1, rfl, hr1, hb1⟩
      have hB1 := hnx.trans (hb1.mono hnx.size)
      clear cw
      go_wp2
      go_ret
      exact ⟨_, _, _, rfl, hr1, hB1⟩
end Go.Proofs.YtmenhfnakcdnnabDoor
