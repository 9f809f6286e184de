/- package nat: shiftUp, shiftDown. -/
import Derived.Test.YtbdljmboilapeabNatMul
import Derived.Test.YtbdljmboilapeabShifts
namespace Go.Proofs.Ytbdljmboilapeab
open Go.ChangeShapes Go.WideShapes Go.ChangeAt Go.RowKit
open Na Ar
set_option linter.unusedVariables false

namespace Na
/-- what leaves a word at its high end -/
def cup (r : Nat) (b : Int) : Int := b * 2 ^ r / 18446744073709551616
theorem cup_eq {r : Nat} (hr : r ≤ 63) (b : Int) : cup r b = b / 2 ^ (64 - r) := by
  unfold cup
  rw [← pow_split (show r ≤ 64 by omega)]
  exact Int.mul_ediv_mul_of_pos_left _ _ (p2pos r)
theorem cup_zero (r : Nat) : cup r 0 = 0 := by unfold cup; simp
theorem cup_nonneg {r : Nat} {b : Int} (h : 0 ≤ b) : 0 ≤ cup r b := by
  unfold cup
  exact Int.ediv_nonneg (Int.mul_nonneg h (Int.le_of_lt (p2pos r))) (by omega)
theorem up_word {w b : Int} {r : Nat} (hw : U w) (hb : U b) (hr : r ≤ 63) : w * 2 ^ r + cup r b = shHi w b r + 18446744073709551616 * cup r w := by
  have e : (w * 18446744073709551616 + b) * 2 ^ r / 18446744073709551616 = w * 2 ^ r + cup r b := by
    unfold cup
    have : (w * 18446744073709551616 + b) * 2 ^ r = b * 2 ^ r + 18446744073709551616 * (w * 2 ^ r) := by grind
    rw [this, Int.add_mul_ediv_left _ _ (by omega), Int.add_comm]
  unfold shHi
  rw [e, cup_eq hr, cup_eq hr]
  have s := pow_split (show r ≤ 64 by omega)
  have p := p2pos r
  have q := p2pos (64 - r)
  have d := Int.mul_ediv_add_emod w (2 ^ (64 - r))
  have m0 := Int.emod_nonneg w (show (2 : Int) ^ (64 - r) ≠ 0 by omega)
  have m1 := Int.emod_lt_of_pos w q
  have c0 : 0 ≤ b / 2 ^ (64 - r) := Int.ediv_nonneg hb.1 (by omega)
  have c1 : b / 2 ^ (64 - r) < 2 ^ r := by
    refine Int.ediv_lt_of_lt_mul q ?_
    rw [Int.mul_comm, s]; exact hb.2
  generalize b / 2 ^ (64 - r) = c at *
  generalize w / 2 ^ (64 - r) = h at *
  generalize w % 2 ^ (64 - r) = l at *
  generalize (2 : Int) ^ (64 - r) = Q at *
  generalize (2 : Int) ^ r = P at *
  have e1 : w * P + c = l * P + c + 18446744073709551616 * h := by rw [← d, ← s]; grind
  have b1 : l * P + c < 18446744073709551616 := by
    have : (l + 1) * P ≤ Q * P := Int.mul_le_mul_of_nonneg_right (by omega) (by omega)
    rw [s, Int.add_mul] at this
    omega
  have b0 : 0 ≤ l * P := Int.mul_nonneg m0 (by omega)
  rw [e1, Int.add_mul_emod_self_left, Int.emod_eq_of_lt (by omega) b1]
def UpI (ds : List Int) (o r k : Nat) (b : Int) (us : List Int) : Prop := Ws us ∧ us.length = ds.length ∧ U b ∧ us.drop (o + k) = ds.drop (o + k) ∧
  num us + 18446744073709551616 ^ (o + k) * cup r b = num ds + 18446744073709551616 ^ o * ((2 ^ r - 1) * num ((ds.drop o).take k))
theorem upI_start {ds : List Int} {o r : Nat} (h : Ws ds) : UpI ds o r 0 0 ds := ⟨h, rfl, U_zero, rfl, by rw [cup_zero]; simp [num, val]⟩
theorem upI_step {ds us : List Int} {o r k : Nat} {b : Int} (h : UpI ds o r k b us) (hr : r ≤ 63) (hk : o + k < us.length) :
    UpI ds o r (k + 1) (us.getD (o + k) 0) (us.set (o + k) (shHi (us.getD (o + k) 0) b r)) := by
  obtain ⟨h1, h2, h3, h4, h5⟩ := h
  have gu : U (us.getD (o + k) 0) := h1.get hk
  have ed : us.getD (o + k) 0 = ds.getD (o + k) 0 := getD_drop h4
  refine ⟨h1.set _ (U_shHi _ _ _), by rw [List.length_set]; exact h2, gu, ?_, ?_⟩
  · rw [List.drop_set_of_lt (by omega)]
    have := congrArg (List.drop 1) h4
    rw [List.drop_drop, List.drop_drop] at this
    exact this
  · have e : us.getD (o + k) 0 + (2 ^ r - 1) * us.getD (o + k) 0 + cup r b = shHi (us.getD (o + k) 0) b r + 18446744073709551616 * cup r (us.getD (o + k) 0) := by
      rw [← up_word gu h3 hr]; grind
    have p := put_word (j := o + k) (c := cup r b) (p := (2 ^ r - 1) * us.getD (o + k) 0) hk e
    rw [← Nat.add_assoc, p, h5]
    have t : num ((ds.drop o).take (k + 1)) = num ((ds.drop o).take k) + 18446744073709551616 ^ k * (ds.drop o).getD k 0 := take_valB (by rw [List.length_drop]; omega)
    have g : (ds.drop o).getD k 0 = ds.getD (o + k) 0 := by simp [List.getD_eq_getElem?_getD, List.getElem?_drop]
    rw [t, g, ← ed, Int.pow_add]
    generalize (18446744073709551616 : Int) ^ o = P
    generalize (18446744073709551616 : Int) ^ k = Q
    generalize num ((ds.drop o).take k) = V
    generalize us.getD (o + k) 0 = y
    generalize (2 : Int) ^ r - 1 = F
    grind
theorem dn_word {w a V : Int} {r : Nat} (hw : U w) (hr : r ≤ 63) (hm : a % 2 ^ r = V % 2 ^ r) : (w + 18446744073709551616 * V) / 2 ^ r = srLo a w r + 18446744073709551616 * (V / 2 ^ r) := by
  have e1 : (w + 18446744073709551616 * V) / 2 ^ r = V * 2 ^ (64 - r) + w / 2 ^ r := by
    have := shr_div (a := V) (b := w) (show r ≤ 64 by omega)
    rw [← this]; congr 1; omega
  unfold srLo
  rw [shr_div (show r ≤ 64 by omega), e1]
  have s := pow_split (show r ≤ 64 by omega)
  have p := p2pos r
  have q := p2pos (64 - r)
  have da := Int.mul_ediv_add_emod a (2 ^ r)
  have dv := Int.mul_ediv_add_emod V (2 ^ r)
  have m0 := Int.emod_nonneg V (show (2 : Int) ^ r ≠ 0 by omega)
  have m1 := Int.emod_lt_of_pos V p
  obtain ⟨c0, c1⟩ := div_lt_pow' hw (show r ≤ 64 by omega)
  rw [hm] at da
  generalize a / 2 ^ r = a' at *
  generalize V / 2 ^ r = v' at *
  generalize V % 2 ^ r = m at *
  generalize w / 2 ^ r = l at *
  generalize (2 : Int) ^ (64 - r) = Q at *
  generalize (2 : Int) ^ r = P at *
  have f1 : a * Q + l = m * Q + l + 18446744073709551616 * a' := by rw [← da, ← s]; grind
  have f2 : V * Q + l = m * Q + l + 18446744073709551616 * v' := by rw [← dv, ← s]; grind
  have b1 : m * Q + l < 18446744073709551616 := by
    have : (m + 1) * Q ≤ P * Q := Int.mul_le_mul_of_nonneg_right (by omega) (by omega)
    rw [Int.mul_comm P, s, Int.add_mul] at this
    omega
  have b0 : 0 ≤ m * Q := Int.mul_nonneg m0 (by omega)
  rw [f1, f2, Int.add_mul_emod_self_left, Int.emod_eq_of_lt (by omega) b1]
def DnI (ds : List Int) (r k : Nat) (a : Int) (us : List Int) : Prop := Ws us ∧ us.length = ds.length ∧ U a ∧ us.take k = ds.take k ∧ num (us.drop k) = num (ds.drop k) / 2 ^ r ∧ a % 2 ^ r = num (ds.drop k) % 2 ^ r
theorem dnI_start {ds : List Int} {r : Nat} (h : Ws ds) : DnI ds r ds.length 0 ds := by
  have e : num (ds.drop ds.length) = 0 := by rw [List.drop_of_length_le (Nat.le_refl _)]; rfl
  refine ⟨h, rfl, U_zero, rfl, ?_, ?_⟩
  · rw [e]; simp
  · rw [e]
theorem getD_take {xs ys : List Int} {k : Nat} (h : xs.take (k + 1) = ys.take (k + 1)) : xs.getD k 0 = ys.getD k 0 := by
  have := congrArg (fun l => l.getD k 0) h
  simpa [List.getD_eq_getElem?_getD, List.getElem?_take_of_lt (Nat.lt_succ_self k)] using this
theorem dnI_step {ds us : List Int} {r k : Nat} {a : Int} (h : DnI ds r (k + 1) a us) (hd : Ws ds) (hr : r ≤ 63) (hk : k < us.length) :
    DnI ds r k (us.getD k 0) (us.set k (srLo a (us.getD k 0) r)) := by
  obtain ⟨h1, h2, h3, h4, h5, h6⟩ := h
  have gu : U (us.getD k 0) := h1.get hk
  have ed : us.getD k 0 = ds.getD k 0 := getD_take h4
  have n0 := num_nonneg (hd.drop (k + 1))
  have vd : num (ds.drop k) = ds.getD k 0 + 18446744073709551616 * num (ds.drop (k + 1)) := val_drop (by omega)
  refine ⟨h1.set _ (U_srLo _ _ _), by rw [List.length_set]; exact h2, gu, ?_, ?_, ?_⟩
  · rw [List.take_set_of_le (Nat.le_refl _)]
    have := congrArg (List.take k) h4
    rw [List.take_take, List.take_take, Nat.min_eq_left (by omega)] at this
    exact this
  · have vu : num ((us.set k (srLo a (us.getD k 0) r)).drop k) = srLo a (us.getD k 0) r + 18446744073709551616 * num (us.drop (k + 1)) := by
      have := val_drop (B := 18446744073709551616) (xs := us.set k (srLo a (us.getD k 0) r)) (i := k) (by rw [List.length_set]; exact hk)
      rw [List.drop_set_of_lt (Nat.lt_succ_self k)] at this
      have e : (us.set k (srLo a (us.getD k 0) r)).getD k 0 = srLo a (us.getD k 0) r := by simp [List.getD_eq_getElem?_getD, hk]
      rw [e] at this
      exact this
    rw [vu, vd, h5, ← ed, dn_word gu hr h6]
  · rw [vd, ← ed]
    have s := pow_split (show r ≤ 64 by omega)
    have : (18446744073709551616 : Int) * num (ds.drop (k + 1)) = 2 ^ r * (2 ^ (64 - r) * num (ds.drop (k + 1))) := by rw [← s]; grind
    rw [this, Int.add_mul_emod_self_left]
theorem dnI_done {ds us : List Int} {r : Nat} {a : Int} (h : DnI ds r 0 a us) : num us = num ds / 2 ^ r := by
  have := h.2.2.2.2.1
  simpa using this
end Na

set_option maxHeartbeats 1600000 in
set_option maxRecDepth 100000 in
theorem shiftUp_in {g cap N o m dcap r base : Nat} {ds : List Int} {w : World} (hown : Own .u64 w base 47 (.slice (some ⟨g, 0, none⟩) N cap) ds) (hN : N = ds.length) (hd : Ws ds)
    (ho : o + m ≤ N) (hN' : N ≤ 12000000) (hr : r ≤ 63) :
    Calls Try.prog 89 #[.slice (some ⟨g, o, none⟩) m dcap, .int .i64 (r : Int)] w fun e w' => e = .returned (.tuple #[]) ∧ ∃ b us, Own .u64 w' base 47 (.slice (some ⟨g, 0, none⟩) N cap) us ∧ UpI ds o r m b us ∧ In g (g + 1) w w' := by
  have HN : Hid (N = ds.length) := hN
  have hst := upI_start (o := o) (r := r) hd
  have hcl : Hid (clampN (r : Int) = r) := clampN_of r (by omega)
  have hii := In.refl g (g + 1) w
  clear hN
  go_enter Try.func89, Try.ntmps89
  go_wp2
  go_loopw [4, 5, 6, 9] (fun c _ _ k wr => ∃ (j : Nat) (b : Int) (us : List Int), k = .int .i64 j ∧ c = .int .u64 b ∧ j ≤ m ∧ Own .u64 wr base 47 (.slice (some ⟨g, 0, none⟩) N cap) us ∧ UpI ds o r j b us ∧ In g (g + 1) w wr) (fun _ _ _ k _ => m - (intOf k).toNat)
  case atStart => exact ⟨0, 0, ds, rfl, rfl, by omega, hown, hst, hii⟩
  case round =>
    obtain ⟨j, b, us, rfl, rfl, hj, hou, hinv, hnx⟩ := hrel
    clear hown hst hii
    by_cases hlt : j < m
    · have hlu : N = us.length := by rw [hinv.2.1]; exact HN.out
      have gu : U (us.getD (o + j) 0) := hinv.1.getAnyB (o + j)
      have gb := hinv.2.2.1
      have hstep := upI_step hinv hr (by omega)
      have hce := hou.cellAt hlu (j := o + j) (by omega)
      have hsh := fun w => shl_any gu gb (r : Int) w
      rw [hcl.out] at hsh
      have HLU : Hid (N = us.length) := hlu
      have hO := fun (w1 : World) (hh : Below wr.heap.size wr w1) => (hou.later hh).set HLU.out (o + j) (shHi (us.getD (o + j) 0) b r)
      have hfz := fun (w1 : World) (hh : Below wr.heap.size wr w1) => (hou.later hh).frozenAt HLU.out (o + j)
      have hcz := fun (w1 : World) (hh : Below wr.heap.size wr w1) => (hou.later hh).cellAt HLU.out (j := o + j) (by omega)
      generalize us.getD (o + j) 0 = u at *
      have hjN : o + j < N := by omega
      clear hinv hou hlu
      go_wp2_with fail
      refine (hsh _).mono ?_
      rintro e w1 ⟨rfl, hg1⟩
      have hO1 := hO w1 hg1.2
      have hfz1 := hfz w1 hg1.2
      have hcz1 := hcz w1 hg1.2
      have hnx1 := hnx.later hg1.2
      clear hO hfz hcz hce hnx hg1 hsh
      go_wp2
      go_roundw
      case rel => exact ⟨j + 1, _, _, by go_num, rfl, by omega, hO1, hstep, hnx1.set1 _ _⟩
      case measure => simp [intOf]; omega
    · have hj2 : j = m := by omega
      subst hj2
      go_wp2
      go_end0
      exact ⟨rfl, b, us, hou, hinv, hnx⟩

set_option maxHeartbeats 1600000 in
set_option maxRecDepth 100000 in
theorem shiftDown_in {g cap N r base : Nat} {ds : List Int} {w : World} (hown : Own .u64 w base 47 (.slice (some ⟨g, 0, none⟩) N cap) ds) (hN : N = ds.length) (hd : Ws ds)
    (hN' : N ≤ 12000000) (hr : r ≤ 63) :
    Calls Try.prog 91 #[.slice (some ⟨g, 0, none⟩) N cap, .int .i64 (r : Int)] w fun e w' => e = .returned (.tuple #[]) ∧ ∃ us, Own .u64 w' base 47 (.slice (some ⟨g, 0, none⟩) N cap) us ∧ us.length = N ∧ Ws us ∧ num us = num ds / 2 ^ r ∧ In g (g + 1) w w' := by
  have hst := dnI_start (r := r) hd
  rw [← hN] at hst
  have HN : Hid (N = ds.length) := hN
  have hcl : Hid (clampN (r : Int) = r) := clampN_of r (by omega)
  have hii := In.refl g (g + 1) w
  clear hN
  go_enter Try.func91, Try.ntmps91
  go_wp2
  go_loopw [4, 5, 6] (fun c i _ wr => ∃ (k : Nat) (I b : Int) (us : List Int), i = .int .i64 I ∧ I = (k : Int) - 1 ∧ c = .int .u64 b ∧ k ≤ N ∧ Own .u64 wr base 47 (.slice (some ⟨g, 0, none⟩) N cap) us ∧ DnI ds r k b us ∧ In g (g + 1) w wr) (fun _ i _ _ => (intOf i + 1).toNat)
  case atStart => exact ⟨N, _, 0, ds, rfl, rfl, rfl, Nat.le_refl _, hown, hst, hii⟩
  case round =>
    obtain ⟨k, I, b, us, rfl, hI, rfl, hk, hou, hinv, hnx⟩ := hrel
    clear hown hst hii
    have hlu : N = us.length := by rw [hinv.2.1]; exact HN.out
    cases k with
    | zero =>
      have hI' : I < 0 := by omega
      have HV : Hid (num us = num ds / 2 ^ r) := dnI_done hinv
      have hwu := hinv.1
      have HL : Hid (us.length = N) := hlu.symm
      clear hI hinv hlu
      go_wp2
      go_end0
      exact ⟨rfl, us, hou, HL.out, hwu, HV.out, hnx⟩
    | succ j =>
      have hI' : I = (j : Int) := by omega
      clear hI
      subst hI'
      have gu : U (us.getD j 0) := hinv.1.getAnyB j
      have gb := hinv.2.2.1
      have hstep := dnI_step hinv hd hr (by omega)
      have hce := hou.cellAt hlu (j := j) (by omega)
      have hsh := fun w => shr_any gb gu (r : Int) w
      rw [hcl.out] at hsh
      have HLU : Hid (N = us.length) := hlu
      have hO := fun (w1 : World) (hh : Below wr.heap.size wr w1) => (hou.later hh).set HLU.out j (srLo b (us.getD j 0) r)
      have hfz := fun (w1 : World) (hh : Below wr.heap.size wr w1) => (hou.later hh).frozenAt HLU.out j
      have hcz := fun (w1 : World) (hh : Below wr.heap.size wr w1) => (hou.later hh).cellAt HLU.out (j := j) (by omega)
      generalize us.getD j 0 = u at *
      have hjN : j < N := by omega
      clear hinv hou hlu
      go_wp2_with fail
      refine (hsh _).mono ?_
      rintro e w1 ⟨rfl, hg1⟩
      have hO1 := hO w1 hg1.2
      have hfz1 := hfz w1 hg1.2
      have hcz1 := hcz w1 hg1.2
      have hnx1 := hnx.later hg1.2
      clear hO hfz hcz hce hnx hg1 hsh
      go_wp2
      go_roundw
      case rel => exact ⟨j, _, _, _, rfl, rfl, rfl, by omega, hO1, hstep, hnx1.set1 _ _⟩
      case measure => simp [intOf]

/-- in a list that the call has made -/
theorem shiftUp_any {g cap N o m dcap r : Nat} {ds : List Int} {w0 w : World} (hown : Own .u64 w w0.heap.size 47 (.slice (some ⟨g, 0, none⟩) N cap) ds) (hN : N = ds.length) (hd : Ws ds)
    (hb : Below w0.heap.size w0 w) (ho : o + m ≤ N) (hN' : N ≤ 12000000) (hr : r ≤ 63) :
    Calls Try.prog 89 #[.slice (some ⟨g, o, none⟩) m dcap, .int .i64 (r : Int)] w fun e w' => e = .returned (.tuple #[]) ∧ ∃ b us, Own .u64 w' w0.heap.size 47 (.slice (some ⟨g, 0, none⟩) N cap) us ∧ UpI ds o r m b us ∧ Below w0.heap.size w0 w' := by
  have hg := hown.base_le
  refine (shiftUp_in hown hN hd ho hN' hr).mono ?_
  rintro e w' ⟨rfl, b, us, h1, h2, h3⟩
  exact ⟨rfl, b, us, h1, h2, below_inn hb h3 hg (Nat.le_refl _)⟩
theorem shiftDown_any {g cap N r : Nat} {ds : List Int} {w0 w : World} (hown : Own .u64 w w0.heap.size 47 (.slice (some ⟨g, 0, none⟩) N cap) ds) (hN : N = ds.length) (hd : Ws ds)
    (hb : Below w0.heap.size w0 w) (hN' : N ≤ 12000000) (hr : r ≤ 63) :
    Calls Try.prog 91 #[.slice (some ⟨g, 0, none⟩) N cap, .int .i64 (r : Int)] w fun e w' => e = .returned (.tuple #[]) ∧ ∃ us, Own .u64 w' w0.heap.size 47 (.slice (some ⟨g, 0, none⟩) N cap) us ∧ us.length = N ∧ Ws us ∧ num us = num ds / 2 ^ r ∧ Below w0.heap.size w0 w' := by
  have hg := hown.base_le
  refine (shiftDown_in hown hN hd hN' hr).mono ?_
  rintro e w' ⟨rfl, us, h1, h2, h3, h4, h5⟩
  exact ⟨rfl, us, h1, h2, h3, h4, below_inn hb h5 hg (Nat.le_refl _)⟩
end Go.Proofs.Ytbdljmboilapeab
