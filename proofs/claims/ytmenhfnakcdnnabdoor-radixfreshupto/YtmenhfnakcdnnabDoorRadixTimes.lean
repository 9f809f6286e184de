/- words.Times, radix.behind. -/
import Derived.Test.YtmenhfnakcdnnabDoorRadixWrong
import Derived.Test.YtmenhfnakcdnnabDoorBaseB
namespace Go.Proofs.YtmenhfnakcdnnabDoor
open Go.ChangeShapes Go.WideShapes Go.ChangeAt Go.RowKit
open Na Ar
set_option linter.unusedVariables false
namespace Na
def tmLo (y x d : Int) : Int := (y * x + d) % 18446744073709551616
def tmHi (y x d : Int) : Int := (y * x + d) / 18446744073709551616
theorem tm_lo (y x d : Int) : addLo (mulLo y x) d 0 = tmLo y x d := by unfold addLo mulLo tmLo; omega
theorem U_tmHi {y x d : Int} (hy : U y) (hx : U x) (hd : U d) : U (tmHi y x d) := by
  unfold U at *
  have m0 : 0 ≤ y * x := Int.mul_nonneg hy.1 hx.1
  have m1 : y * x ≤ 18446744073709551615 * 18446744073709551615 := Int.mul_le_mul (by omega) (by omega) hx.1 (by omega)
  unfold tmHi
  generalize y * x = z at *
  omega
theorem tm_hi {y x d : Int} (hy : U y) (hx : U x) (hd : U d) : IntKind.u64.wrap (mulHi y x + addHi (mulLo y x) d 0) = tmHi y x d := by
  have h := U_tmHi hy hx hd
  unfold U at *
  rw [IntKind.wrap_u64]
  unfold mulHi addHi mulLo
  unfold tmHi at *
  generalize y * x = z at *
  omega
/-- k words are multiplied -/
def TmI (ds : List Int) (x c0 : Int) (k : Nat) (d : Int) (us : List Int) : Prop := Ws us ∧ us.length = ds.length ∧ U d ∧ us.drop k = ds.drop k ∧
  num us + 18446744073709551616 ^ k * d = num ds + (x - 1) * num (ds.take k) + c0
theorem tmI_start {ds : List Int} {x c0 : Int} (h : Ws ds) (hc : U c0) : TmI ds x c0 0 c0 ds := ⟨h, rfl, hc, rfl, by simp [num, val]⟩
theorem tmI_step {ds us : List Int} {x c0 d : Int} {k : Nat} (h : TmI ds x c0 k d us) (hx : U x) (hk : k < us.length) : TmI ds x c0 (k + 1) (tmHi (us.getD k 0) x d) (us.set k (tmLo (us.getD k 0) x d)) := by
  obtain ⟨h1, h2, h3, h4, h5⟩ := h
  have gu : U (us.getD k 0) := h1.get hk
  have ed : us.getD k 0 = ds.getD k 0 := getD_drop h4
  refine ⟨h1.set _ (by unfold tmLo; omega), by rw [List.length_set]; exact h2, U_tmHi gu hx h3, ?_, ?_⟩
  · rw [List.drop_set_of_lt (by omega)]
    have := congrArg (List.drop 1) h4
    rw [List.drop_drop, List.drop_drop] at this
    exact this
  · have e : us.getD k 0 + (x - 1) * us.getD k 0 + d = tmLo (us.getD k 0) x d + 18446744073709551616 * tmHi (us.getD k 0) x d := by
      have q : us.getD k 0 + (x - 1) * us.getD k 0 = us.getD k 0 * x := by grind
      rw [q]
      unfold tmLo tmHi
      generalize us.getD k 0 * x = z
      omega
    have p := put_word (j := k) (c := d) (p := (x - 1) * us.getD k 0) hk e
    have t : num (ds.take (k + 1)) = num (ds.take k) + 18446744073709551616 ^ k * ds.getD k 0 := take_valB (by omega)
    rw [p, h5, t, ed]
    generalize (18446744073709551616 : Int) ^ k = P
    generalize ds.getD k 0 = y
    generalize num (ds.take k) = V
    grind
theorem tmI_done {ds us : List Int} {x c0 d : Int} (h : TmI ds x c0 ds.length d us) : num us + 18446744073709551616 ^ ds.length * d = num ds * x + c0 := by
  have e := h.2.2.2.2
  rw [List.take_of_length_le (Nat.le_refl _)] at e
  rw [e]
  generalize num ds = N
  grind
/-- what is normal stays so -/
theorem behind_list {T x c d : Int} {us : List Int} (hT : 0 ≤ T) (hx : 1 ≤ x) (hc : 0 ≤ c) (h : TmI (words T) x c (words T).length d us) : (d = 0 → us = words (T * x + c)) ∧ (d ≠ 0 → us ++ [d] = words (T * x + c)) := by
  have e := tmI_done h
  rw [num_words hT] at e
  have hU := h.2.2.1
  have hm : T ≤ T * x + c := by
    have := Int.mul_le_mul_of_nonneg_left hx hT
    omega
  constructor
  · intro h0
    rw [h0, Int.mul_zero, Int.add_zero] at e
    have s := words_strip h.1
    rw [e] at s
    have l1 := words_mono hT hm
    have l2 := strip_length us
    rw [s] at l2
    have f := strip_full (xs := us) (by rw [s, h.2.1]; have := h.2.1; omega)
    rw [← s, f]
  · intro h0
    have n : num (us ++ [d]) = T * x + c := by
      show val _ _ = _
      rw [val_append, h.2.1]
      have : val 18446744073709551616 us = num us := rfl
      rw [this, ← e]
      simp [val]
    have w : Ws (us ++ [d]) := h.1.append (Dg.one hU)
    have s := words_strip w
    rw [n, strip_end us d h0] at s
    exact s
end Na
set_option maxHeartbeats 1600000 in
set_option maxRecDepth 100000 in
theorem times_in {g cap N base : Nat} {ds : List Int} {x c0 : Int} {w : World} (hown : Own .u64 w base 35 (.slice (some ⟨g, 0, none⟩) N cap) ds) (hN : N = ds.length) (hd : Ws ds) (hx : U x) (hc : U c0) (hN' : N ≤ 12000000) :
    Calls Tryd.prog 86 #[.slice (some ⟨g, 0, none⟩) N cap, .int .u64 x, .int .u64 c0] w fun e w' => ∃ d us, e = .returned (.int .u64 d) ∧ Own .u64 w' base 35 (.slice (some ⟨g, 0, none⟩) N cap) us ∧ TmI ds x c0 N d us ∧ In g (g + 1) w w' := by
  have HN : Hid (N = ds.length) := hN
  have hst := tmI_start (x := x) hd hc
  have hii := In.refl g (g + 1) w
  clear hN
  go_enter Tryd.func86, Tryd.ntmps86
  go_wp2
  go_loopw [2, 7, 8, 9, 10, 13] (fun c _ _ _ _ k wr => ∃ (j : Nat) (D : Int) (us : List Int), k = .int .i64 j ∧ c = .int .u64 D ∧ j ≤ N ∧ Own .u64 wr base 35 (.slice (some ⟨g, 0, none⟩) N cap) us ∧ TmI ds x c0 j D us ∧ In g (g + 1) w wr) (fun _ _ _ _ _ k _ => N - (intOf k).toNat)
  case atStart => exact ⟨0, c0, ds, rfl, rfl, by omega, hown, hst, hii⟩
  case round =>
    obtain ⟨j, D, us, rfl, rfl, hj, hou, hinv, hnx⟩ := hrel
    clear hown hst hii
    by_cases hlt : j < N
    · have hlu : N = us.length := by rw [hinv.2.1]; exact HN.out
      have gu : U (us.getD j 0) := hinv.1.getAnyB j
      have gd := hinv.2.2.1
      have hstep := tmI_step hinv hx (by omega)
      have hlo := tm_lo (us.getD j 0) x D
      have hhi := tm_hi gu hx gd
      have hce := hou.cellAt hlu (j := j) hlt
      clear hinv
      generalize us.getD j 0 = y at *
      go_wp2_with fail
      refine (mul_any gu hx _).mono ?_
      rintro e w1 ⟨_, _, rfl, hg1, rfl, rfl⟩
      have hou1 := hou.later hg1.2
      have hce1 := hou1.cellAt hlu (j := j) hlt
      have hfz := hou1.frozenAt hlu j
      have hO := hou1.set hlu j (tmLo y x D)
      have hnx1 := hnx.later hg1.2
      have um1 := U_mulLo y x
      have um2 := U_mulHi gu hx
      have hlo' : Hid (addLo (mulLo y x) D 0 = tmLo y x D) := hlo
      have hhi' : Hid (IntKind.u64.wrap (mulHi y x + addHi (mulLo y x) D 0) = tmHi y x D) := hhi
      clear hou hou1 hnx hg1 hlo hhi hlu hce
      go_wp2_with fail
      refine (add_any um1 gd U_zero _).mono ?_
      rintro e w2 ⟨_, _, rfl, rfl, rfl, rfl⟩
      rw [hlo'.out]
      go_wp2
      go_roundw
      case rel => exact ⟨j + 1, _, _, by go_num, by rw [hhi'.out], by omega, hO, hstep, hnx1.set1 _ _⟩
      case measure => simp [intOf]; omega
    · have hj2 : j = N := by omega
      subst hj2
      go_wp2
      go_ret
      exact ⟨D, us, rfl, hou, hinv, hnx⟩
set_option maxHeartbeats 1600000 in
set_option maxRecDepth 100000 in
theorem times_nil {x c0 : Int} (w : World) :
    Calls Tryd.prog 86 #[.slice none 0 0, .int .u64 x, .int .u64 c0] w fun e w' => e = .returned (.int .u64 c0) ∧ w = w' := by
  go_enter Tryd.func86, Tryd.ntmps86
  go_wp2
  go_loop [2, 7, 8, 9, 10, 13] (fun c _ _ _ _ k => c = .int .u64 c0 ∧ k = .int .i64 0) (fun _ _ _ _ _ _ => 0)
  case atStart => exact ⟨rfl, rfl⟩
  case round =>
    obtain ⟨rfl, rfl⟩ := hrel
    go_wp2
    go_ret
    exact ⟨rfl, rfl⟩
end Go.Proofs.YtmenhfnakcdnnabDoor
