/- plumbref02: digits of base 65536. -/
import Derived.Test.YtbdljmboilapeabLawNat
import Derived.Test.YtbdljmboilapeabNatArith
namespace Go.Proofs.Ytbdljmboilapeab
open Go.ChangeShapes Go.WideShapes Go.ChangeAt Go.RowKit
open Na
set_option linter.unusedVariables false

namespace Na
theorem take_strip {xs : List Int} {m : Nat} (hm : m ≤ xs.length) (hz : strip xs = strip (xs.take m)) (hl : m = 0 ∨ xs.getD (m - 1) 0 ≠ 0) : strip xs = xs.take m := by
  rw [hz]
  rcases hl with h | h
  · subst h; rfl
  · by_cases e : m = 0
    · subst e; rfl
    · have hs : xs.take m = xs.take (m - 1) ++ [xs.getD (m - 1) 0] := by
        have := take_next (xs := xs) (k := m - 1) (by omega)
        rw [Nat.sub_add_cancel (by omega)] at this
        exact this
      rw [hs]; exact strip_end _ _ h
theorem val_drop {B : Int} {xs : List Int} {i : Nat} (h : i < xs.length) : val B (xs.drop i) = xs.getD i 0 + B * val B (xs.drop (i + 1)) := by
  rw [List.drop_eq_getElem_cons h, val_cons]
  simp [List.getD_eq_getElem?_getD, List.getElem?_eq_getElem h]
def OutInv (xs : List Int) (i : Nat) (es : List Int) : Prop := Dg 65536 es ∧ es.length = 4 * i ∧ val 65536 es + 65536 ^ (4 * i) * val 18446744073709551616 (xs.drop i) = val 18446744073709551616 xs
def DigInv (xs : List Int) (i j : Nat) (W : Int) (es : List Int) : Prop := Dg 65536 es ∧ es.length = 4 * i + j ∧ 0 ≤ W ∧ W < 65536 ^ (4 - j) ∧
  val 65536 es + 65536 ^ (4 * i + j) * (W + 65536 ^ (4 - j) * val 18446744073709551616 (xs.drop (i + 1))) = val 18446744073709551616 xs
theorem dig_start (xs : List Int) : OutInv xs 0 [] := ⟨Dg.nil _, rfl, by simp [val]⟩
theorem dig_enter {xs es : List Int} {i : Nat} (h : OutInv xs i es) (hi : i < xs.length) (hx : Dg 18446744073709551616 xs) : DigInv xs i 0 (xs.getD i 0) es := by
  obtain ⟨h1, h2, h3⟩ := h
  have g := hx.get hi
  refine ⟨h1, h2, g.1, g.2, ?_⟩
  rw [val_drop hi] at h3
  exact h3
theorem dig_round {xs es : List Int} {i j : Nat} {W : Int} (h : DigInv xs i j W es) (hj : j < 4) : DigInv xs i (j + 1) (W / 65536) (es ++ [W % 65536]) := by
  obtain ⟨h1, h2, h3, h4, h5⟩ := h
  have e : (65536 : Int) ^ (4 - j) = 65536 ^ (4 - (j + 1)) * 65536 := by
    have : 4 - j = (4 - (j + 1)) + 1 := by omega
    rw [this, Int.pow_succ]
  refine ⟨h1.append (Dg.one (by omega)), by rw [List.length_append, h2]; simp; omega, by omega, ?_, ?_⟩
  · rw [e] at h4
    exact Int.ediv_lt_of_lt_mul (by omega) h4
  · rw [val_append, h2, ← h5, e]
    have e2 : (65536 : Int) ^ (4 * i + (j + 1)) = 65536 ^ (4 * i + j) * 65536 := by rw [← Nat.add_assoc, Int.pow_succ]
    have e3 : W = W % 65536 + 65536 * (W / 65536) := by omega
    rw [e2]
    have e4 : val 65536 [W % 65536] = W % 65536 := by simp [val]
    rw [e4]
    generalize val 18446744073709551616 (xs.drop (i + 1)) = V
    generalize (65536 : Int) ^ (4 * i + j) = P
    generalize (65536 : Int) ^ (4 - (j + 1)) = Q
    generalize W % 65536 = r at *
    generalize W / 65536 = q at *
    subst e3
    grind
theorem dig_bd {xs es : List Int} {i j : Nat} {W : Int} (h : DigInv xs i j W es) : W < 18446744073709551616 := by
  obtain ⟨h1, h2, h3, h4, h5⟩ := h
  have hj : 4 - j = 0 ∨ 4 - j = 1 ∨ 4 - j = 2 ∨ 4 - j = 3 ∨ 4 - j = 4 := by omega
  rcases hj with e | e | e | e | e <;> rw [e] at h4 <;> simp at h4 <;> omega
theorem dig_leave {xs es : List Int} {i : Nat} {W : Int} (h : DigInv xs i 4 W es) : OutInv xs (i + 1) es := by
  obtain ⟨h1, h2, h3, h4, h5⟩ := h
  have w0 : W = 0 := by simp at h4; omega
  subst w0
  refine ⟨h1, by omega, ?_⟩
  have e : 4 * (i + 1) = 4 * i + 4 := by omega
  rw [e]
  simpa using h5
theorem dig_done {xs es : List Int} {n : Nat} (h : OutInv xs n es) (hn : xs.length = n) : strip es = dig 65536 (val 18446744073709551616 xs).toNat := by
  obtain ⟨h1, h2, h3⟩ := h
  rw [List.drop_of_length_le (by omega), val_nil] at h3
  have e : val 65536 es = val 18446744073709551616 xs := by omega
  rw [← e]
  exact strip_dig (B := 65536) (by omega) h1
end Na
theorem refCut_any {a : Option Addr} {n cap : Nat} {xs : List Int} {w : World} (hrow : RowAt .i64 w a n xs) (hn : n * 8 ≤ 140737488351232) (hcap : n ≤ cap) (hcap' : cap ≤ maxLen) :
    Calls Try.prog 90 #[.slice a n cap] w fun e w' => (∃ m : Nat, e = .returned (.slice a m cap) ∧ m ≤ n ∧ strip xs = xs.take m) ∧ w = w' := by
  have hlen := hrow.1
  unfold maxLen at hcap'
  go_enter Try.func90, Try.ntmps90
  go_wp2
  go_loop [3] (fun i => ∃ m : Nat, m ≤ n ∧ i = .int .i64 m ∧ Hid (strip xs = strip (xs.take m))) (fun i => (intOf i).toNat)
  case atStart => exact ⟨n, Nat.le_refl _, rfl, (by rw [List.take_of_length_le (by omega)] : strip xs = strip (xs.take n))⟩
  case round =>
    obtain ⟨m, hm, rfl, hs⟩ := hrel
    by_cases h0 : m = 0
    · subst h0
      have HF : Hid (strip xs = xs.take 0) := take_strip (Nat.zero_le _) hs.out (Or.inl rfl)
      go_wp2
      go_ret
      exact ⟨⟨0, rfl, Nat.zero_le _, HF.out⟩, rfl⟩
    · obtain ⟨b, off, rfl, hbB, hc⟩ := hrow.at (by omega)
      have hcx := hc (m - 1) (by omega)
      have hl : Hid (xs.take m = xs.take (m - 1) ++ [xs.getD (m - 1) 0]) := by
        have := take_next (xs := xs) (k := m - 1) (by omega)
        rw [Nat.sub_add_cancel (by omega)] at this
        exact this
      have HF := fun h => take_strip (xs := xs) (m := m) (by omega) hs.out (Or.inr h)
      obtain ⟨j, rfl⟩ : ∃ j, m = j + 1 := ⟨m - 1, by omega⟩
      simp only [Nat.add_sub_cancel] at hcx hl HF
      have hgo : xs.getD j 0 = 0 → strip xs = strip (xs.take j) := fun h => by rw [hs.out, hl.out, h, strip_zero_end]
      generalize xs.getD j 0 = x at *
      clear hc hrow hl hs
      by_cases hx : x = 0
      · have t : (x == 0) = true := by simp [hx]
        have HG : Hid (strip xs = strip (xs.take j)) := hgo hx
        clear HF hgo hx h0
        go_wp2
        go_round
        case rel => exact ⟨j, by omega, by go_num, HG⟩
        case measure => simp [intOf]
      · have t : (x == 0) = false := by simp [hx]
        have HF' : Hid (strip xs = xs.take (j + 1)) := HF hx
        clear HF hgo hx h0
        go_wp2
        go_ret
        exact ⟨⟨j + 1, rfl, by omega, HF'.out⟩, rfl⟩
theorem Own.cut {k : IntKind} {w : World} {base : Nat} {e : TypeId} {a : Option Addr} {cap : Nat} {xs : List Int} (h : Own k w base e (.slice a xs.length cap) xs) {m : Nat} (hm : m ≤ xs.length) : Own k w base e (.slice a m cap) (xs.take m) := by
  obtain ⟨h1, h2⟩ := h
  have hl : (xs.take m).length = m := by rw [List.length_take]; omega
  unfold Own
  rw [hl]
  refine ⟨by rw [List.length_map, hl]; omega, ?_⟩
  rcases h2 with ⟨hv, h0⟩ | ⟨g, c, cur, hv, hb, hg, hn, hc, hs, ht⟩
  · have m0 : m = 0 := by omega
    simp only [Value.slice.injEq] at hv
    obtain ⟨ha, hz, hc⟩ := hv
    subst m0 ha hc
    exact Or.inl ⟨rfl, rfl⟩
  · simp only [Value.slice.injEq] at hv
    obtain ⟨ha, hz, hc'⟩ := hv
    subst ha hc'
    refine Or.inr ⟨g, cap, cur, rfl, hb, hg, by omega, hc, hs, ?_⟩
    rw [List.map_take, ← ht, List.take_take]
    simp only [Nat.mul_one]
    rw [Nat.min_eq_left hm]

theorem own_cap {k : IntKind} {w : World} {base : Nat} {e : TypeId} {a : Option Addr} {n cap : Nat} {xs : List Int} (h : Own k w base e (.slice a n cap) xs) : cap ≤ maxLen := by
  obtain ⟨h1, h2⟩ := h
  rcases h2 with ⟨hv, h0⟩ | ⟨g, c, cur, hv, hb, hg, hn, hc, hs, ht⟩
  · simp only [Value.slice.injEq] at hv; unfold maxLen; omega
  · simp only [Value.slice.injEq] at hv; omega
set_option maxHeartbeats 1600000 in
set_option maxRecDepth 100000 in
theorem digits_any {a : Option Addr} {n cap : Nat} {xs : List Int} {w : World} (hrow : RowAt .u64 w a n xs) (hx : Dg 18446744073709551616 xs) (hn : n ≤ 1000000) :
    Calls Try.prog 62 #[.slice a n cap] w fun e w' => ∃ v, e = .returned v ∧ Own .i64 w' w.heap.size 3 v (dig 65536 (val 18446744073709551616 xs).toNat) ∧ Below w.heap.size w w' := by
  obtain ⟨i_i64, hi_i64, hz0_i64, hz1_i64, hz2_i64⟩ := info_parts info_int
  have hlen := hrow.1
  go_enter Try.func62, Try.ntmps62
  go_wp2
  go_loopw [3, 4, 5, 6] (fun d i _ _ wr => ∃ (k : Nat) (es : List Int), k ≤ n ∧ i = .int .i64 k ∧ Own .i64 wr w.heap.size 3 d es ∧ OutInv xs k es ∧ Below w.heap.size w wr) (fun _ i _ _ _ => n - (intOf i).toNat)
  case atStart => exact ⟨0, [], Nat.zero_le _, rfl, own_nil _ _ _ _, dig_start xs, Below.refl _ _⟩
  case round =>
    obtain ⟨i, es, hk, rfl, hown, hinv, hnx⟩ := hrel
    by_cases hlt : i < n
    · obtain ⟨b, off, rfl, hbB, hc⟩ := hrow.at (by omega)
      have hcx := (hnx.cell (p := ⟨b, off + i, none⟩) hbB).trans (hc i hlt)
      have hin := dig_enter hinv (by omega) hx
      generalize xs.getD i 0 = x at *
      clear hc hinv
      go_wp2
      go_loopw [3, 5, 6] (fun d v k w2 => ∃ (j : Nat) (W : Int) (fs : List Int), j ≤ 4 ∧ k = .int .i64 j ∧ v = .int .u64 W ∧ Own .i64 w2 w.heap.size 3 d fs ∧ DigInv xs i j W fs ∧ Below w.heap.size w w2) (fun _ _ k _ => 4 - (intOf k).toNat)
      case atStart => exact ⟨0, x, es, by omega, rfl, rfl, hown, hin, hnx⟩
      case round =>
        obtain ⟨j, W, fs, hj, rfl, rfl, hown2, hin2, hnx2⟩ := hrel
        clear hown hin hnx hcx
        have hsz := hnx2.size
        have hfl := hin2.2.1
        have hW := hin2.2.2.1
        by_cases hjlt : j < 4
        · have hnext := dig_round hin2 hjlt
          have hm1 : W % 65536 ≤ 65535 := by omega
          have hm0 : 0 ≤ W % 65536 := by omega
          have HQ : Hid (IntKind.u64.wrap (W.tdiv 65536) = W / 65536) := by
            show _ = _
            rw [Int.tdiv_eq_ediv_of_nonneg hW, IntKind.wrap_u64]
            have := dig_bd hin2
            omega
          clear hin2
          go_wp2_with (at_builtin; refine wpList_append_own _ rfl _ _ 71 rfl w.heap.size 3 i_i64 (.int .i64 0) 1 8 Try.underlying71 hi_i64 hz0_i64 hz1_i64 hz2_i64 rfl (by decide) _ _ _ rfl (hown2.row.alloc _) ⟨wr.heap.size, 0, none⟩ 1 1 [.int .i64 (W % 65536)] rfl rfl one_new one_cell (by unfold maxLen; omega) (by omega) (by simp; omega) ?_)
          intro v' w1 hown' hgrow _
          have hb' := grow_below hsz hown2.row hnx2 hgrow
          have ho' := own_next hown' (by omega)
          clear hown' hgrow hown2 hnx2
          go_wp2
          go_roundw
          case rel => exact ⟨j + 1, _, _, by omega, by go_num, rfl, ho', by rw [HQ.out]; exact hnext, hb'⟩
          case measure => simp [intOf]; omega
        · have e4 : j = 4 := by omega
          subst e4
          have hout := dig_leave hin2
          clear hin2
          go_wp2
          go_roundw
          case rel => exact ⟨i + 1, fs, by omega, by go_num, hown2, hout, hnx2⟩
          case measure => simp [intOf]; omega
    · have en : i = n := by omega
      subst en
      have hd := dig_done hinv hlen
      have hel := hinv.2.1
      have he8 : es.length * 8 ≤ 140737488351232 := by omega
      clear hel
      obtain ⟨a2, cap2, rfl, hcap2, hrow2⟩ := hown.read
      have hcm : cap2 ≤ maxLen := own_cap hown
      have hlast := fun (m : Nat) (h : m ≤ es.length) => hown.cut h
      have HD : Hid (strip es = dig 65536 (val 18446744073709551616 xs).toNat) := hd
      clear hd hinv hrow
      go_wp2_with (go_at_call 90; refine (refCut_any hrow2 he8 hcap2 hcm).mono ?_; rintro e w' ⟨⟨m, rfl, hm, hst⟩, rfl⟩)
      go_ret
      exact ⟨_, rfl, by rw [← HD.out, hst]; exact hlast m hm, hnx⟩
end Go.Proofs.Ytbdljmboilapeab
