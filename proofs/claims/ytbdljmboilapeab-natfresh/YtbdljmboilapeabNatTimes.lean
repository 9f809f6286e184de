/- package words: AddTimes, TakeTimes. -/
import Derived.Test.YtbdljmboilapeabNatSum
namespace Go.Proofs.Ytbdljmboilapeab
open Go.ChangeShapes Go.WideShapes Go.ChangeAt Go.RowKit
open Na Ar
set_option linter.unusedVariables false

namespace Na
def timLo (y x u d : Int) : Int := (y * x + u + d) % 18446744073709551616
def timHi (y x u d : Int) : Int := (y * x + u + d) / 18446744073709551616
theorem tim_lo (y x u d : Int) : addLo (addLo (mulLo y x) u 0) d 0 = timLo y x u d := by
  unfold addLo mulLo timLo; omega
theorem tim_split {y x u d : Int} : y * x + u + d = timLo y x u d + 18446744073709551616 * timHi y x u d := by unfold timLo timHi; omega
theorem U_timLo (y x u d : Int) : U (timLo y x u d) := by unfold U timLo; omega
theorem U_timHi {y x u d : Int} (hy : U y) (hx : U x) (hu : U u) (hd : U d) : U (timHi y x u d) := by
  unfold U at *
  have m0 : 0 ≤ y * x := Int.mul_nonneg hy.1 hx.1
  have m1 : y * x ≤ 18446744073709551615 * 18446744073709551615 := Int.mul_le_mul (by omega) (by omega) hx.1 (by omega)
  unfold timHi
  generalize y * x = z at *
  omega
theorem tim_hi {y x u d : Int} (hy : U y) (hx : U x) (hu : U u) (hd : U d) : IntKind.u64.wrap (IntKind.u64.wrap (mulHi y x + addHi (mulLo y x) u 0) + addHi (addLo (mulLo y x) u 0) d 0) = timHi y x u d := by
  have h := U_timHi hy hx hu hd
  unfold U at *
  rw [IntKind.wrap_u64, IntKind.wrap_u64]
  unfold mulHi addHi addLo mulLo
  unfold timHi at *
  generalize y * x = z at *
  omega
def TimI (ds ys : List Int) (o : Nat) (x : Int) (k : Nat) (d : Int) (us : List Int) : Prop := Ws us ∧ us.length = ds.length ∧ U d ∧ us.drop (o + ys.length) = ds.drop (o + ys.length) ∧ us.take o = ds.take o ∧
  num us + 18446744073709551616 ^ (o + k) * d = num ds + 18446744073709551616 ^ o * (x * num (ys.take k))
theorem timI_start {ds ys : List Int} {o : Nat} {x : Int} (h : Ws ds) : TimI ds ys o x 0 0 ds := ⟨h, rfl, U_zero, rfl, rfl, by simp [num, val]⟩
theorem timI_step {ds ys us : List Int} {o k : Nat} {x d : Int} (h : TimI ds ys o x k d us) (hy : Ws ys) (hx : U x) (hk : k < ys.length) (ho : o + k < us.length) :
    TimI ds ys o x (k + 1) (timHi (ys.getD k 0) x (us.getD (o + k) 0) d) (us.set (o + k) (timLo (ys.getD k 0) x (us.getD (o + k) 0) d)) := by
  obtain ⟨h1, h2, h3, h4, h6, h5⟩ := h
  have gu : U (us.getD (o + k) 0) := h1.get ho
  have gy : U (ys.getD k 0) := hy.get hk
  refine ⟨h1.set _ (U_timLo _ _ _ _), by rw [List.length_set]; exact h2, U_timHi gy hx gu h3, ?_, ?_, ?_⟩
  · rw [List.drop_set_of_lt (by omega)]; exact h4
  · rw [List.take_set_of_le (by omega)]; exact h6
  · have e : us.getD (o + k) 0 + ys.getD k 0 * x + d = timLo (ys.getD k 0) x (us.getD (o + k) 0) d + 18446744073709551616 * timHi (ys.getD k 0) x (us.getD (o + k) 0) d := by
      rw [← tim_split]; omega
    have p := put_word (j := o + k) (c := d) (p := ys.getD k 0 * x) ho e
    rw [← Nat.add_assoc, p, h5]
    have t : num (ys.take (k + 1)) = num (ys.take k) + 18446744073709551616 ^ k * ys.getD k 0 := take_valB hk
    rw [t, Int.pow_add]
    generalize (18446744073709551616 : Int) ^ o = P
    generalize (18446744073709551616 : Int) ^ k = Q
    generalize num (ys.take k) = V
    generalize ys.getD k 0 = y
    grind
theorem timI_done {ds ys us : List Int} {o : Nat} {x d : Int} (h : TimI ds ys o x ys.length d us) : num us + 18446744073709551616 ^ (o + ys.length) * d = num ds + 18446744073709551616 ^ o * (x * num ys) := by
  have := h.2.2.2.2.2
  rw [List.take_of_length_le (Nat.le_refl _)] at this
  exact this
theorem TimI.win {ds ys us : List Int} {o : Nat} {x d : Int} (h : TimI ds ys o x ys.length d us) (hom : o + ys.length ≤ ds.length) : Na.win us o ys.length + 18446744073709551616 ^ ys.length * d = Na.win ds o ys.length + x * num ys :=
  win_eq h.2.1 hom h.2.2.2.2.1 h.2.2.2.1 (timI_done h)
def takLo (y x u d : Int) : Int := (u - y * x - d) % 18446744073709551616
def takHi (y x u d : Int) : Int := - ((u - y * x - d) / 18446744073709551616)
theorem tak_lo (y x u d : Int) : subLo u (addLo (mulLo y x) d 0) 0 = takLo y x u d := by
  unfold subLo addLo mulLo takLo
  generalize y * x = z
  omega
theorem U_takLo (y x u d : Int) : U (takLo y x u d) := by unfold U takLo; omega
theorem U_takHi {y x u d : Int} (hy : U y) (hx : U x) (hu : U u) (hd : U d) : U (takHi y x u d) := by
  unfold U at *
  have m0 : 0 ≤ y * x := Int.mul_nonneg hy.1 hx.1
  have m1 : y * x ≤ 18446744073709551615 * 18446744073709551615 := Int.mul_le_mul (by omega) (by omega) hx.1 (by omega)
  unfold takHi
  generalize y * x = z at *
  omega
theorem tak_hi {y x u d : Int} (hy : U y) (hx : U x) (hu : U u) (hd : U d) : IntKind.u64.wrap (IntKind.u64.wrap (mulHi y x + addHi (mulLo y x) d 0) + subHi u (addLo (mulLo y x) d 0) 0) = takHi y x u d := by
  have h := U_takHi hy hx hu hd
  unfold U at *
  have m0 : 0 ≤ y * x := Int.mul_nonneg hy.1 hx.1
  have m1 : y * x ≤ 18446744073709551615 * 18446744073709551615 := Int.mul_le_mul (by omega) (by omega) hx.1 (by omega)
  rw [IntKind.wrap_u64, IntKind.wrap_u64]
  unfold mulHi addHi subHi addLo mulLo
  unfold takHi at *
  generalize y * x = z at *
  omega
theorem tak_split {y x u d : Int} : u - y * x - d = takLo y x u d - 18446744073709551616 * takHi y x u d := by unfold takLo takHi; omega
def TakI (ds ys : List Int) (o : Nat) (x : Int) (k : Nat) (d : Int) (us : List Int) : Prop := Ws us ∧ us.length = ds.length ∧ U d ∧ us.drop (o + ys.length) = ds.drop (o + ys.length) ∧ us.take o = ds.take o ∧
  num us - 18446744073709551616 ^ (o + k) * d = num ds - 18446744073709551616 ^ o * (x * num (ys.take k))
theorem takI_start {ds ys : List Int} {o : Nat} {x : Int} (h : Ws ds) : TakI ds ys o x 0 0 ds := ⟨h, rfl, U_zero, rfl, rfl, by simp [num, val]⟩
theorem takI_step {ds ys us : List Int} {o k : Nat} {x d : Int} (h : TakI ds ys o x k d us) (hy : Ws ys) (hx : U x) (hk : k < ys.length) (ho : o + k < us.length) :
    TakI ds ys o x (k + 1) (takHi (ys.getD k 0) x (us.getD (o + k) 0) d) (us.set (o + k) (takLo (ys.getD k 0) x (us.getD (o + k) 0) d)) := by
  obtain ⟨h1, h2, h3, h4, h6, h5⟩ := h
  have gu : U (us.getD (o + k) 0) := h1.get ho
  have gy : U (ys.getD k 0) := hy.get hk
  refine ⟨h1.set _ (U_takLo _ _ _ _), by rw [List.length_set]; exact h2, U_takHi gy hx gu h3, ?_, ?_, ?_⟩
  · rw [List.drop_set_of_lt (by omega)]; exact h4
  · rw [List.take_set_of_le (by omega)]; exact h6
  · have e : us.getD (o + k) 0 - ys.getD k 0 * x - d = takLo (ys.getD k 0) x (us.getD (o + k) 0) d - 18446744073709551616 * takHi (ys.getD k 0) x (us.getD (o + k) 0) d := tak_split
    have p := take_word (j := o + k) (c := d) (p := ys.getD k 0 * x) ho e
    rw [← Nat.add_assoc, p, h5]
    have t : num (ys.take (k + 1)) = num (ys.take k) + 18446744073709551616 ^ k * ys.getD k 0 := take_valB hk
    rw [t, Int.pow_add]
    generalize (18446744073709551616 : Int) ^ o = P
    generalize (18446744073709551616 : Int) ^ k = Q
    generalize num (ys.take k) = V
    generalize ys.getD k 0 = y
    grind
theorem TakI.win {ds ys us : List Int} {o : Nat} {x d : Int} (h : TakI ds ys o x ys.length d us) (hom : o + ys.length ≤ ds.length) : Na.win us o ys.length - 18446744073709551616 ^ ys.length * d = Na.win ds o ys.length - x * num ys := by
  have e := h.2.2.2.2.2
  rw [List.take_of_length_le (Nat.le_refl _)] at e
  have := win_eq (us := us) (ts := ds) (o := o) (m := ys.length) (c := -d) (P := -(x * num ys)) h.2.1 hom h.2.2.2.2.1 h.2.2.2.1 (by rw [Int.mul_neg, Int.mul_neg]; omega)
  rw [Int.mul_neg] at this
  omega
end Na

set_option maxHeartbeats 1600000 in
set_option maxRecDepth 100000 in
theorem addTimes_in {g cap N o m M dcap base : Nat} {a : Option Addr} {cap2 : Nat} {ds ys : List Int} {x : Int} {w : World} (hown : Own .u64 w base 47 (.slice (some ⟨g, 0, none⟩) N cap) ds) (hN : N = ds.length) (hd : Ws ds)
    (hr : RowAt .u64 w a m ys) (hoff : 0 < m → Off a g) (hy : Ws ys) (hx : U x) (hM : m ≤ M) (ho : o + M ≤ N) (hN' : N ≤ 12000000) :
    Calls Try.prog 77 #[.slice (some ⟨g, o, none⟩) M dcap, .slice a m cap2, .int .u64 x] w fun e w' => ∃ d us, e = .returned (.int .u64 d) ∧ Own .u64 w' base 47 (.slice (some ⟨g, 0, none⟩) N cap) us ∧ TimI ds ys o x m d us ∧ In g (g + 1) w w' := by
  have HL : Hid (ys.length = m) := hr.1
  have HN : Hid (N = ds.length) := hN
  have hst := timI_start (ys := ys) (o := o) (x := x) hd
  have hii := In.refl g (g + 1) w
  clear hN
  go_enter Try.func77, Try.ntmps77
  go_wp2
  go_loopw [7, 8, 9, 10, 11, 14] (fun c _ _ _ _ k wr => ∃ (j : Nat) (D : Int) (us : List Int), k = .int .i64 j ∧ c = .int .u64 D ∧ j ≤ m ∧ Own .u64 wr base 47 (.slice (some ⟨g, 0, none⟩) N cap) us ∧ TimI ds ys o x j D us ∧ In g (g + 1) w wr) (fun _ _ _ _ _ k _ => m - (intOf k).toNat)
  case atStart => exact ⟨0, 0, ds, rfl, rfl, by omega, hown, hst, hii⟩
  case round =>
    obtain ⟨j, D, us, rfl, rfl, hj, hou, hinv, hnx⟩ := hrel
    clear hown hst hii
    by_cases hlt : j < m
    · obtain ⟨b, off, rfl, hbB, hc⟩ := (hr.inn hnx hoff).at (by omega)
      have hcx := hc j hlt
      have hlu : N = us.length := by rw [hinv.2.1]; exact HN.out
      have gy : U (ys.getD j 0) := hy.getAnyB j
      have gu : U (us.getD (o + j) 0) := hinv.1.getAnyB (o + j)
      have gd := hinv.2.2.1
      have hstep := timI_step hinv hy hx (by rw [HL.out]; exact hlt) (by omega)
      have hlo := tim_lo (ys.getD j 0) x (us.getD (o + j) 0) D
      have hhi := tim_hi gy hx gu gd
      generalize ys.getD j 0 = y at *
      clear hc hr hinv hoff
      go_wp2_with fail
      refine (mul_any gy hx _).mono ?_
      rintro e w1 ⟨_, _, rfl, hg1, rfl, rfl⟩
      have hou1 := hou.later hg1.2
      have hce := hou1.cellAt hlu (j := o + j) (by omega)
      have hfz := hou1.frozenAt hlu (o + j)
      have hO := hou1.set hlu (o + j) (timLo y x (us.getD (o + j) 0) D)
      have hnx1 := hnx.later hg1.2
      have um1 := U_mulLo y x
      have um2 := U_mulHi gy hx
      generalize us.getD (o + j) 0 = u at *
      have ua1 := U_addLo (mulLo y x) u 0
      have hlo' : Hid (addLo (addLo (mulLo y x) u 0) D 0 = timLo y x u D) := hlo
      have hhi' : Hid (IntKind.u64.wrap (IntKind.u64.wrap (mulHi y x + addHi (mulLo y x) u 0) + addHi (addLo (mulLo y x) u 0) D 0) = timHi y x u D) := hhi
      have HLU : Hid (N = us.length) := hlu
      have hjN : o + j < N := by omega
      clear hou hou1 hnx hg1 hlo hhi hcx hlu
      go_wp2_with fail
      refine (add_any um1 gu U_zero _).mono ?_
      rintro e w2 ⟨_, _, rfl, rfl, rfl, rfl⟩
      go_wp2_with fail
      refine (add_any ua1 gd U_zero _).mono ?_
      rintro e w2 ⟨_, _, rfl, rfl, rfl, rfl⟩
      rw [hlo'.out]
      go_wp2
      go_roundw
      case rel => exact ⟨j + 1, _, _, by go_num, by rw [hhi'.out], by omega, hO, hstep, hnx1.set1 _ _⟩
      case measure => simp [intOf]; omega
    · have hj2 : j = m := by omega
      subst hj2
      clear hr hoff
      go_wp2
      go_ret
      exact ⟨D, us, rfl, hou, hinv, hnx⟩

set_option maxHeartbeats 1600000 in
set_option maxRecDepth 100000 in
theorem takeTimes_in {g cap N o m M dcap base : Nat} {a : Option Addr} {cap2 : Nat} {ds ys : List Int} {x : Int} {w : World} (hown : Own .u64 w base 47 (.slice (some ⟨g, 0, none⟩) N cap) ds) (hN : N = ds.length) (hd : Ws ds)
    (hr : RowAt .u64 w a m ys) (hoff : 0 < m → Off a g) (hy : Ws ys) (hx : U x) (hM : m ≤ M) (ho : o + M ≤ N) (hN' : N ≤ 12000000) :
    Calls Try.prog 98 #[.slice (some ⟨g, o, none⟩) M dcap, .slice a m cap2, .int .u64 x] w fun e w' => ∃ d us, e = .returned (.int .u64 d) ∧ Own .u64 w' base 47 (.slice (some ⟨g, 0, none⟩) N cap) us ∧ TakI ds ys o x m d us ∧ In g (g + 1) w w' := by
  have HL : Hid (ys.length = m) := hr.1
  have HN : Hid (N = ds.length) := hN
  have hst := takI_start (ys := ys) (o := o) (x := x) hd
  have hii := In.refl g (g + 1) w
  clear hN
  go_enter Try.func98, Try.ntmps98
  go_wp2
  go_loopw [7, 8, 9, 10, 11, 12, 15] (fun c _ _ _ _ _ k wr => ∃ (j : Nat) (D : Int) (us : List Int), k = .int .i64 j ∧ c = .int .u64 D ∧ j ≤ m ∧ Own .u64 wr base 47 (.slice (some ⟨g, 0, none⟩) N cap) us ∧ TakI ds ys o x j D us ∧ In g (g + 1) w wr) (fun _ _ _ _ _ _ k _ => m - (intOf k).toNat)
  case atStart => exact ⟨0, 0, ds, rfl, rfl, by omega, hown, hst, hii⟩
  case round =>
    obtain ⟨j, D, us, rfl, rfl, hj, hou, hinv, hnx⟩ := hrel
    clear hown hst hii
    by_cases hlt : j < m
    · obtain ⟨b, off, rfl, hbB, hc⟩ := (hr.inn hnx hoff).at (by omega)
      have hcx := hc j hlt
      have hlu : N = us.length := by rw [hinv.2.1]; exact HN.out
      have gy : U (ys.getD j 0) := hy.getAnyB j
      have gu : U (us.getD (o + j) 0) := hinv.1.getAnyB (o + j)
      have gd := hinv.2.2.1
      have hstep := takI_step hinv hy hx (by rw [HL.out]; exact hlt) (by omega)
      have hlo := tak_lo (ys.getD j 0) x (us.getD (o + j) 0) D
      have hhi := tak_hi gy hx gu gd
      generalize ys.getD j 0 = y at *
      clear hc hr hinv hoff
      go_wp2_with fail
      refine (mul_any gy hx _).mono ?_
      rintro e w1 ⟨_, _, rfl, hg1, rfl, rfl⟩
      have hou1 := hou.later hg1.2
      have hce := hou1.cellAt hlu (j := o + j) (by omega)
      have hfz := hou1.frozenAt hlu (o + j)
      have hO := hou1.set hlu (o + j) (takLo y x (us.getD (o + j) 0) D)
      have hnx1 := hnx.later hg1.2
      have um1 := U_mulLo y x
      have um2 := U_mulHi gy hx
      generalize us.getD (o + j) 0 = u at *
      have ua1 := U_addLo (mulLo y x) D 0
      have hlo' : Hid (subLo u (addLo (mulLo y x) D 0) 0 = takLo y x u D) := hlo
      have hhi' : Hid (IntKind.u64.wrap (IntKind.u64.wrap (mulHi y x + addHi (mulLo y x) D 0) + subHi u (addLo (mulLo y x) D 0) 0) = takHi y x u D) := hhi
      have HLU : Hid (N = us.length) := hlu
      have hjN : o + j < N := by omega
      clear hou hou1 hnx hg1 hlo hhi hcx hlu
      go_wp2_with fail
      refine (add_any um1 gd U_zero _).mono ?_
      rintro e w2 ⟨_, _, rfl, rfl, rfl, rfl⟩
      go_wp2_with fail
      refine (sub_any gu ua1 U_zero _).mono ?_
      rintro e w2 ⟨_, _, rfl, rfl, rfl, rfl⟩
      rw [hlo'.out]
      go_wp2
      go_roundw
      case rel => exact ⟨j + 1, _, _, by go_num, by rw [hhi'.out], by omega, hO, hstep, hnx1.set1 _ _⟩
      case measure => simp [intOf]; omega
    · have hj2 : j = m := by omega
      subst hj2
      clear hr hoff
      go_wp2
      go_ret
      exact ⟨D, us, rfl, hou, hinv, hnx⟩


/-- into a list that the call has made -/
theorem addTimes_any {g cap N o m dcap : Nat} {a : Option Addr} {cap2 : Nat} {ds ys : List Int} {x : Int} {w0 w : World} (hown : Own .u64 w w0.heap.size 47 (.slice (some ⟨g, 0, none⟩) N cap) ds) (hN : N = ds.length) (hd : Ws ds)
    (hr : RowAt .u64 w0 a m ys) (hb : Below w0.heap.size w0 w) (hy : Ws ys) (hx : U x) (ho : o + m ≤ N) (hN' : N ≤ 12000000) :
    Calls Try.prog 77 #[.slice (some ⟨g, o, none⟩) m dcap, .slice a m cap2, .int .u64 x] w fun e w' => ∃ d us, e = .returned (.int .u64 d) ∧ Own .u64 w' w0.heap.size 47 (.slice (some ⟨g, 0, none⟩) N cap) us ∧ TimI ds ys o x m d us ∧ Below w0.heap.size w0 w' := by
  have hg := hown.base_le
  refine (addTimes_in (M := m) hown hN hd (hr.later hb) (fun h => hr.off h hg) hy hx (Nat.le_refl _) ho hN').mono ?_
  rintro e w' ⟨d, us, rfl, h1, h2, h3⟩
  exact ⟨d, us, rfl, h1, h2, below_inn hb h3 hg (Nat.le_refl _)⟩
end Go.Proofs.Ytbdljmboilapeab
