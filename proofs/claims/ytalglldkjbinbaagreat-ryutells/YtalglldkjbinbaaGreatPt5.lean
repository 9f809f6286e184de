import Derived.BigRegion
import Derived.Below
import Derived.BigQuiet
import Derived.ChangeOld
import Derived.Deep.DeepCutAuto
import Derived.Deep.QuietTactic
import Derived.Deep.RegionWith
import Derived.Laws.BitsAllLaws
import Derived.Laws.CopyRow
import Derived.Laws.IdiomCopy
import Derived.Laws.IdiomRangeMap
import Derived.OpenShut
import Derived.OwnWalk
import Derived.ProofKit
import Derived.ShutString
import Derived.WalkKit
import Derived.WalkLawsBesides
import Derived.WalkSpells
import Derived.Test.YtalglldkjbinbaaGreatPt3
/- plumbref03: Norm, at, Word; plumblaw03: lent, kept. -/
namespace Go.Proofs.YtalglldkjbinbaaGreat
open Go.ChangeShapes Go.WideShapes Go.ChangeAt Go.RowKit
open Na Ar
set_option linter.unusedVariables false
set_option maxHeartbeats 1600000 in
set_option maxRecDepth 100000 in
theorem ref3Norm_any {a : Option Addr} {n cap : Nat} {xs : List Int} {w : World} (hrow : RowAt .u64 w a n xs) (hx : Ws xs) (hn : n ≤ 12000000) :
    Calls Tryz.prog 58 #[.slice a n cap] w fun e w' => ∃ v, e = .returned v ∧ Own .u64 w' w.heap.size 22 v (words (num xs)) ∧ Below w.heap.size w w' := by
  obtain ⟨i_u64, hi_u64, hz0_u64, hz1_u64, hz2_u64⟩ := info_parts info_u64
  have hlen := hrow.1
  have HW : Hid (strip xs = words (num xs)) := words_strip hx
  go_enter Tryz.func58, Tryz.ntmps58
  go_wp2
  go_loop [3] (fun i => ∃ m : Nat, m ≤ n ∧ i = .int .i64 m ∧ Hid (strip xs = strip (xs.take m))) (fun i => (intOf i).toNat)
  case atStart => exact ⟨n, Nat.le_refl _, rfl, (by rw [List.take_of_length_le (by omega)] : strip xs = strip (xs.take n))⟩
  case round =>
    obtain ⟨m, hm, rfl, hs⟩ := hrel
    by_cases hgo : ∃ j, m = j + 1 ∧ xs.getD j 0 = 0
    · obtain ⟨j, rfl, hx0⟩ := hgo
      obtain ⟨b, off, rfl, hbB, hc⟩ := hrow.at (by omega)
      have hcx := hc j (by omega)
      have hl : xs.take (j + 1) = xs.take j ++ [xs.getD j 0] := take_next (by omega)
      have HG : Hid (strip xs = strip (xs.take j)) := by show _ = _; rw [hs.out, hl, hx0, strip_zero_end]
      have t : (xs.getD j 0 == 0) = true := beq_of hx0
      generalize xs.getD j 0 = x at *
      clear hc hrow hl hs hx0
      go_wp2
      go_round
      case rel => exact ⟨j, by omega, by go_num, HG⟩
      case measure => simp [intOf]
    · have HF : Hid (strip xs = xs.take m) := by
        by_cases h0 : m = 0
        · exact take_strip (by omega) hs.out (Or.inl h0)
        · obtain ⟨j, rfl⟩ : ∃ j, m = j + 1 := ⟨m - 1, by omega⟩
          refine take_strip (by omega) hs.out (Or.inr ?_)
          intro h
          exact hgo ⟨j, rfl, by simpa using h⟩
      have hlast : m = 0 ∨ ∃ j, m = j + 1 ∧ xs.getD j 0 ≠ 0 := by
        by_cases h0 : m = 0
        · exact Or.inl h0
        · exact Or.inr ⟨m - 1, by omega, fun h => hgo ⟨m - 1, by omega, h⟩⟩
      clear hgo hs
      rcases hlast with h0 | ⟨j, hj, hne⟩
      · have t0 : ¬ (0 : Int) < (m : Int) := by omega
        clear h0
        go_wp2
        go_loopw [4, 5] (fun v i wr => ∃ k : Nat, k ≤ m ∧ i = .int .i64 k ∧ Own .u64 wr w.heap.size 22 v (xs.take k) ∧ Below w.heap.size w wr) (fun _ i _ => m - (intOf i).toNat)
        case atStart => exact ⟨0, Nat.zero_le _, rfl, own_nil _ _ _ _, Below.refl _ _⟩
        case round =>
          obtain ⟨k, hk, rfl, hown, hnx⟩ := hrel
          have hsz := hnx.size
          by_cases hlt : k < m
          · exact absurd hlt (by omega)
          · have e : k = m := by omega
            have i1 : ¬ (k : Int) < (m : Int) := by omega
            have HE : Hid (words (num xs) = xs.take k) := by show _ = _; rw [← HW.out, HF.out, e]
            clear e
            go_wp2
            go_ret
            exact ⟨_, rfl, by rw [HE.out]; exact hown, hnx⟩
      · have t0 : (0 : Int) < (m : Int) := by omega
        obtain ⟨b0, off0, hab, hbB0, hc0⟩ := hrow.at (by omega)
        have hcx0 := hc0 j (by omega)
        have hjm : ((m : Int) - 1).toNat = j := by omega
        have t1 : (xs.getD j 0 == 0) = false := beq_no hne
        generalize xs.getD j 0 = x0 at *
        subst hab
        clear hc0 hne hj
        go_wp2
        go_loopw [4, 5] (fun v i wr => ∃ k : Nat, k ≤ m ∧ i = .int .i64 k ∧ Own .u64 wr w.heap.size 22 v (xs.take k) ∧ Below w.heap.size w wr) (fun _ i _ => m - (intOf i).toNat)
        case atStart => exact ⟨0, Nat.zero_le _, rfl, own_nil _ _ _ _, Below.refl _ _⟩
        case round =>
          obtain ⟨k, hk, rfl, hown, hnx⟩ := hrel
          have hsz := hnx.size
          by_cases hlt : k < m
          · have i1 : (k : Int) < (m : Int) := by omega
            obtain ⟨b, off, hab2, hbB, hc⟩ := hrow.at (by omega)
            simp only [Option.some.injEq, Addr.mk.injEq] at hab2
            obtain ⟨rfl, rfl, _⟩ := hab2
            have hcx := (hnx.cell (p := ⟨b0, off0 + k, none⟩) hbB).trans (hc k (by omega))
            have hlk : (xs.take k).length = k := by rw [List.length_take]; omega
            have htk : Hid (xs.take (k + 1) = xs.take k ++ [xs.getD k 0]) := take_next (by omega)
            generalize xs.getD k 0 = x at *
            generalize xs.take k = ys at *
            clear hc hrow
            go_wp2_with (at_builtin; refine wpList_append_own _ rfl _ _ 29 rfl w.heap.size 22 i_u64 (.int .u64 0) 1 8 Tryz.underlying29 hi_u64 hz0_u64 hz1_u64 hz2_u64 rfl (by decide) _ _ _ rfl (hown.row.alloc _) ⟨wr.heap.size, 0, none⟩ 1 1 [.int .u64 x] rfl rfl one_new one_cell (by unfold maxLen; omega) (by omega) (by simp; omega) ?_)
            intro v' w1 hown' hgrow _
            have hb' := grow_below hsz hown.row hnx hgrow
            have ho' := own_next hown' (by omega)
            rw [← htk.out] at ho'
            clear hown' hgrow hown hnx hcx
            go_wp2
            go_roundw
            case rel => exact ⟨k + 1, by omega, by go_num, ho', hb'⟩
            case measure => simp [intOf]; omega
          · have e : k = m := by omega
            have i1 : ¬ (k : Int) < (m : Int) := by omega
            have HE : Hid (words (num xs) = xs.take k) := by show _ = _; rw [← HW.out, HF.out, e]
            clear e
            go_wp2
            go_ret
            exact ⟨_, rfl, by rw [HE.out]; exact hown, hnx⟩
end Go.Proofs.YtalglldkjbinbaaGreat

/- plumbref03: Bits. -/
namespace Go.Proofs.YtalglldkjbinbaaGreat
open Go.ChangeShapes Go.WideShapes Go.ChangeAt Go.RowKit
open Na Ar
set_option linter.unusedVariables false
namespace Na
theorem lenW_half {v : Int} (h : U v) (h0 : v ≠ 0) : lenW v = lenW (v / 2) + 1 := by
  obtain ⟨k, hk, e, h1, h2⟩ := lenW_pos h h0
  rw [e]
  cases k with
  | zero =>
    have : v / 2 = 0 := by simp at h1 h2; omega
    rw [this, lenW_zero]; rfl
  | succ k =>
    have e1 : (2 : Int) ^ (k + 1) = 2 * 2 ^ k := by rw [Int.pow_succ, Int.mul_comm]
    have e2 : (2 : Int) ^ (k + 1 + 1) = 2 * 2 ^ (k + 1) := by rw [Int.pow_succ, Int.mul_comm]
    rw [lenW_eq (x := v / 2) (k := k) (by omega) (by omega)]
    omega
theorem take_zero_end {xs : List Int} {j : Nat} (hj : j < xs.length) (h : xs.getD j 0 = 0) : num (xs.take (j + 1)) = num (xs.take j) := by
  have t : num (xs.take (j + 1)) = num (xs.take j) + 18446744073709551616 ^ j * xs.getD j 0 := take_valB hj
  rw [t, h, Int.mul_zero, Int.add_zero]
theorem bits_at {xs : List Int} {j : Nat} (hx : Ws xs) (hj : j < xs.length) (h : xs.getD j 0 ≠ 0) : bitsN (num (xs.take (j + 1))) = 64 * (j : Int) + lenW (xs.getD j 0) := by
  have g := hx.getAnyB j
  obtain ⟨k, hk, e, h1, h2⟩ := lenW_pos (x := xs.getD j 0) g h
  rw [take_next hj, bits_word (hx.take j) h1 h2, List.length_take, Nat.min_eq_left (by omega), e]
  omega
end Na
set_option maxHeartbeats 1600000 in
set_option maxRecDepth 100000 in
theorem ref3Bits_any {a : Option Addr} {n cap : Nat} {xs : List Int} {w : World} (hrow : RowAt .u64 w a n xs) (hx : Ws xs) (hn : n ≤ 12000000) :
    Calls Tryz.prog 60 #[.slice a n cap] w fun e w' => e = .returned (.int .i64 (bitsN (num xs))) ∧ w = w' := by
  have hlen := hrow.1
  go_enter Tryz.func60, Tryz.ntmps60
  go_wp2
  go_loop [3, 4, 5] (fun i _ _ => ∃ (k : Nat) (I : Int), i = .int .i64 I ∧ I = (k : Int) - 1 ∧ k ≤ n ∧ Hid (num xs = num (xs.take k))) (fun i _ _ => (intOf i + 1).toNat)
  case atStart => exact ⟨n, _, rfl, rfl, Nat.le_refl _, (by rw [List.take_of_length_le (by omega)] : num xs = num (xs.take n))⟩
  case round =>
    obtain ⟨k, I, rfl, hI, hk, hs⟩ := hrel
    cases k with
    | zero =>
      have HZ : Hid (bitsN (num xs) = 0) := by
        show _ = _
        rw [hs.out, List.take_zero]; rfl
      have hneg : I < 0 := by omega
      clear hI
      go_wp2
      go_ret
      exact ⟨by rw [HZ.out]; rfl, rfl⟩
    | succ j =>
      have hI' : I = (j : Int) := by omega
      clear hI
      subst hI'
      obtain ⟨b, off, rfl, hbB, hc⟩ := hrow.at (by omega)
      have hcx := hc j (by omega)
      have gx : U (xs.getD j 0) := hx.getAnyB j
      by_cases h0 : xs.getD j 0 = 0
      · have HZ : Hid (num xs = num (xs.take j)) := by show _ = _; rw [hs.out, take_zero_end (by omega) h0]
        have t0 : ¬ 0 < xs.getD j 0 := by omega
        generalize xs.getD j 0 = x at *
        clear hc hrow h0
        go_wp2
        go_round
        case rel => exact ⟨j, _, rfl, by omega, by omega, HZ⟩
        case measure => simp [intOf]
      · have HB : Hid (bitsN (num xs) = 64 * (j : Int) + lenW (xs.getD j 0)) := by show _ = _; rw [hs.out, bits_at hx (by omega) h0]
        have t0 : 0 < xs.getD j 0 := by unfold U at gx; omega
        have hlb := lenW_bd gx
        generalize xs.getD j 0 = x at *
        clear hc hrow h0
        go_wp2
        go_loop [4, 5] (fun c v => ∃ (C V : Int), c = .int .i64 C ∧ v = .int .u64 V ∧ U V ∧ C + lenW V = 64 * (j : Int) + lenW x ∧ 64 * (j : Int) ≤ C) (fun _ v => (intOf v).toNat)
        case atStart => exact ⟨_, x, rfl, rfl, gx, rfl, Int.le_refl _⟩
        case round =>
          obtain ⟨C, V, rfl, rfl, hV, hCV, hC0⟩ := hrel
          have hVb := lenW_bd hV
          by_cases hz : V = 0
          · subst hz
            rw [lenW_zero, Int.add_zero] at hCV
            have HE : Hid (C = bitsN (num xs)) := by show _ = _; rw [HB.out]; exact hCV
            clear hCV
            go_wp2
            go_ret
            exact ⟨by rw [← HE.out]; rfl, rfl⟩
          · have hl := lenW_half hV hz
            have hVp : 0 < V := by unfold U at hV; omega
            have hV2 : U (V / 2) := by unfold U at *; omega
            have hN : C + 1 + lenW (V / 2) = 64 * (j : Int) + lenW x := by omega
            have hC9 : C ≤ 1000000000 := by omega
            have HN : Hid (C + 1 + lenW (V / 2) = 64 * (j : Int) + lenW x) := hN
            unfold U at hV
            clear hl hN hCV
            go_wp2
            go_round
            case rel => exact ⟨C + 1, V / 2, rfl, rfl, hV2, HN.out, by omega⟩
            case measure => simp [intOf]; omega
end Go.Proofs.YtalglldkjbinbaaGreat

/- plumbref03: at, Cmp. -/
namespace Go.Proofs.YtalglldkjbinbaaGreat
open Go.ChangeShapes Go.WideShapes Go.ChangeAt Go.RowKit
open Na Ar
set_option linter.unusedVariables false
namespace Na
/-- filled up by zeros -/
def pad (xs : List Int) (N : Nat) : List Int := xs ++ List.replicate (N - xs.length) 0
theorem pad_length {xs : List Int} {N : Nat} (h : xs.length ≤ N) : (pad xs N).length = N := by unfold pad; simp; omega
theorem pad_num (xs : List Int) (N : Nat) : num (pad xs N) = num xs := by
  unfold pad num
  rw [val_append, val_zeros, Int.mul_zero, Int.add_zero]
theorem pad_ws {xs : List Int} (h : Ws xs) (N : Nat) : Ws (pad xs N) := h.append (Dg_zeros (by omega) _)
theorem pad_get (xs : List Int) (N i : Nat) : (pad xs N).getD i 0 = xs.getD i 0 := by
  unfold pad
  by_cases h : i < xs.length
  · simp [List.getD_eq_getElem?_getD, List.getElem?_append_left h]
  · rw [getD_out (xs := xs) (by omega), List.getD_eq_getElem?_getD, List.getElem?_append_right (by omega), List.getElem?_replicate]
    split <;> rfl
theorem pad_drop {xs ys : List Int} {N j : Nat} (h1 : xs.length ≤ N) (h2 : ys.length ≤ N) (h : ∀ t, j ≤ t → xs.getD t 0 = ys.getD t 0) : (pad xs N).drop j = (pad ys N).drop j := by
  apply List.ext_getElem?
  intro i
  rw [List.getElem?_drop, List.getElem?_drop]
  by_cases hi : j + i < N
  · have a := pad_get xs N (j + i)
    have b := pad_get ys N (j + i)
    rw [List.getD_eq_getElem?_getD, List.getElem?_eq_getElem (by rw [pad_length h1]; exact hi)] at a
    rw [List.getD_eq_getElem?_getD, List.getElem?_eq_getElem (by rw [pad_length h2]; exact hi)] at b
    rw [List.getElem?_eq_getElem (by rw [pad_length h1]; exact hi), List.getElem?_eq_getElem (by rw [pad_length h2]; exact hi)]
    simp only [Option.getD_some] at a b
    rw [a, b, h (j + i) (by omega)]
  · rw [List.getElem?_eq_none (by rw [pad_length h1]; omega), List.getElem?_eq_none (by rw [pad_length h2]; omega)]
theorem pad_lt {xs ys : List Int} {N j : Nat} (hx : Ws xs) (hy : Ws ys) (h1 : xs.length ≤ N) (h2 : ys.length ≤ N) (hj : j < N) (h : ∀ t, j + 1 ≤ t → xs.getD t 0 = ys.getD t 0) (hl : xs.getD j 0 < ys.getD j 0) : num xs < num ys := by
  rw [← pad_num xs N, ← pad_num ys N]
  exact word_lt (pad_ws hx N) (pad_ws hy N) (by rw [pad_length h1]; exact hj) (by rw [pad_length h2]; exact hj) (pad_drop h1 h2 h) (by rw [pad_get, pad_get]; exact hl)
theorem pad_eq {xs ys : List Int} (N : Nat) (h1 : xs.length ≤ N) (h2 : ys.length ≤ N) (h : ∀ t, xs.getD t 0 = ys.getD t 0) : num xs = num ys := by
  rw [← pad_num xs N, ← pad_num ys N]
  have := pad_drop (j := 0) h1 h2 (fun t _ => h t)
  rw [List.drop_zero, List.drop_zero] at this
  rw [this]
end Na
theorem ref3At_any {a : Option Addr} {n c1 : Nat} {xs : List Int} {w : World} (hr : RowAt .u64 w a n xs) (hn : n ≤ 12000000) (i : Nat) (hi : i ≤ 12000000) :
    Calls Tryz.prog 62 #[.slice a n c1, .int .i64 (i : Int)] w fun e w' => e = .returned (.int .u64 (xs.getD i 0)) ∧ w = w' := by
  by_cases h : i < n
  · obtain ⟨b, off, rfl, _, hc⟩ := hr.at (by omega)
    have hcx := hc i h
    generalize xs.getD i 0 = x at *
    have h2 : (i : Int) < (n : Int) := by omega
    clear hc hr
    go_enter Tryz.func62, Tryz.ntmps62
    go_wp2
    go_ret
    exact ⟨rfl, rfl⟩
  · have he : xs.getD i 0 = 0 := getD_out (by have := hr.1; omega)
    generalize xs.getD i 0 = x at he ⊢
    have HE : Hid (x = 0) := he
    clear he
    have h2 : ¬ (i : Int) < (n : Int) := by omega
    clear hr
    go_enter Tryz.func62, Tryz.ntmps62
    go_wp2
    go_ret
    exact ⟨ret_int HE.out.symm, rfl⟩
set_option maxHeartbeats 1600000 in
set_option maxRecDepth 100000 in
theorem ref3Cmp_any {a b : Option Addr} {n m c1 c2 : Nat} {xs ys : List Int} {w : World} (hr1 : RowAt .u64 w a n xs) (hr2 : RowAt .u64 w b m ys) (hx : Ws xs) (hy : Ws ys) (hn : n ≤ 12000000) (hm : m ≤ 12000000) :
    Calls Tryz.prog 57 #[.slice a n c1, .slice b m c2] w fun e w' => e = .returned (.int .i64 (ordN (num xs) (num ys))) ∧ w = w' := by
  have l1 := hr1.1
  have l2 := hr2.1
  go_enter Tryz.func57, Tryz.ntmps57
  by_cases hmn : (n : Int) < (m : Int)
  · have hmn' : n < m := by omega
    go_wp2
    go_loop [6] (fun i => ∃ (k : Nat) (I : Int), i = .int .i64 I ∧ I = (k : Int) - 1 ∧ k ≤ m ∧ Hid (∀ t, k ≤ t → xs.getD t 0 = ys.getD t 0)) (fun i => (intOf i + 1).toNat)
    case atStart => exact ⟨m, _, rfl, rfl, Nat.le_refl _, fun t ht => by rw [getD_out (by omega), getD_out (by omega)]⟩
    case round =>
      obtain ⟨k, I, rfl, hI, hk, hs⟩ := hrel
      cases k with
      | zero =>
        have HZ : Hid (ordN (num xs) (num ys) = 0) := ordN_eq (pad_eq m (by omega) (by omega) (fun t => hs.out t (Nat.zero_le _)))
        have hneg : I < 0 := by omega
        clear hI
        go_wp2
        go_ret
        exact ⟨by rw [HZ.out]; rfl, rfl⟩
      | succ j =>
        have hI' : I = (j : Int) := by omega
        clear hI
        subst hI'
        have ca := ref3At_any (c1 := c1) hr1 hn j (by omega)
        have cb := ref3At_any (c1 := c2) hr2 hm j (by omega)
        have hl := fun h => pad_lt hx hy (N := m) (j := j) (by omega) (by omega) (by omega) hs.out h
        have hg := fun h => pad_lt hy hx (N := m) (j := j) (by omega) (by omega) (by omega) (fun t ht => (hs.out t ht).symm) h
        have hq : xs.getD j 0 = ys.getD j 0 → ∀ t, j ≤ t → xs.getD t 0 = ys.getD t 0 := fun h t ht => by
          by_cases e : t = j
          · rw [e]; exact h
          · exact hs.out t (by omega)
        have HQ : Hid (xs.getD j 0 = ys.getD j 0 → ∀ t, j ≤ t → xs.getD t 0 = ys.getD t 0) := hq
        generalize hxe : xs.getD j 0 = x at *
        generalize hye : ys.getD j 0 = y at *
        clear hxe hye hq
        by_cases h1 : x < y
        · have HO : Hid (ordN (num xs) (num ys) = -1) := ordN_lt (hl h1)
          clear hl hg
          go_wp2_with fail
          refine ca.mono ?_
          rintro e w' ⟨rfl, rfl⟩
          go_wp2_with fail
          refine cb.mono ?_
          rintro e w' ⟨rfl, rfl⟩
          go_wp2
          go_ret
          exact ⟨by rw [HO.out]; rfl, rfl⟩
        · by_cases h2 : y < x
          · have HO : Hid (ordN (num xs) (num ys) = 1) := ordN_gt (hg h2)
            clear hl hg
            go_wp2_with fail
            refine ca.mono ?_
            rintro e w' ⟨rfl, rfl⟩
            go_wp2_with fail
            refine cb.mono ?_
            rintro e w' ⟨rfl, rfl⟩
            go_wp2_with fail
            refine ca.mono ?_
            rintro e w' ⟨rfl, rfl⟩
            go_wp2_with fail
            refine cb.mono ?_
            rintro e w' ⟨rfl, rfl⟩
            go_wp2
            go_ret
            exact ⟨by rw [HO.out]; rfl, rfl⟩
          · have hxy : x = y := by omega
            have HN : Hid (∀ t, j ≤ t → xs.getD t 0 = ys.getD t 0) := HQ.out hxy
            clear hl hg hxy
            go_wp2_with fail
            refine ca.mono ?_
            rintro e w' ⟨rfl, rfl⟩
            go_wp2_with fail
            refine cb.mono ?_
            rintro e w' ⟨rfl, rfl⟩
            go_wp2_with fail
            refine ca.mono ?_
            rintro e w' ⟨rfl, rfl⟩
            go_wp2_with fail
            refine cb.mono ?_
            rintro e w' ⟨rfl, rfl⟩
            go_wp2
            go_round
            case rel => exact ⟨j, _, rfl, by omega, by omega, HN⟩
            case measure => simp [intOf]
  · have hmn' : m ≤ n := by omega
    go_wp2
    go_loop [6] (fun i => ∃ (k : Nat) (I : Int), i = .int .i64 I ∧ I = (k : Int) - 1 ∧ k ≤ n ∧ Hid (∀ t, k ≤ t → xs.getD t 0 = ys.getD t 0)) (fun i => (intOf i + 1).toNat)
    case atStart => exact ⟨n, _, rfl, rfl, Nat.le_refl _, fun t ht => by rw [getD_out (by omega), getD_out (by omega)]⟩
    case round =>
      obtain ⟨k, I, rfl, hI, hk, hs⟩ := hrel
      cases k with
      | zero =>
        have HZ : Hid (ordN (num xs) (num ys) = 0) := ordN_eq (pad_eq n (by omega) (by omega) (fun t => hs.out t (Nat.zero_le _)))
        have hneg : I < 0 := by omega
        clear hI
        go_wp2
        go_ret
        exact ⟨by rw [HZ.out]; rfl, rfl⟩
      | succ j =>
        have hI' : I = (j : Int) := by omega
        clear hI
        subst hI'
        have ca := ref3At_any (c1 := c1) hr1 hn j (by omega)
        have cb := ref3At_any (c1 := c2) hr2 hm j (by omega)
        have hl := fun h => pad_lt hx hy (N := n) (j := j) (by omega) (by omega) (by omega) hs.out h
        have hg := fun h => pad_lt hy hx (N := n) (j := j) (by omega) (by omega) (by omega) (fun t ht => (hs.out t ht).symm) h
        have hq : xs.getD j 0 = ys.getD j 0 → ∀ t, j ≤ t → xs.getD t 0 = ys.getD t 0 := fun h t ht => by
          by_cases e : t = j
          · rw [e]; exact h
          · exact hs.out t (by omega)
        have HQ : Hid (xs.getD j 0 = ys.getD j 0 → ∀ t, j ≤ t → xs.getD t 0 = ys.getD t 0) := hq
        generalize hxe : xs.getD j 0 = x at *
        generalize hye : ys.getD j 0 = y at *
        clear hxe hye hq
        by_cases h1 : x < y
        · have HO : Hid (ordN (num xs) (num ys) = -1) := ordN_lt (hl h1)
          clear hl hg
          go_wp2_with fail
          refine ca.mono ?_
          rintro e w' ⟨rfl, rfl⟩
          go_wp2_with fail
          refine cb.mono ?_
          rintro e w' ⟨rfl, rfl⟩
          go_wp2
          go_ret
          exact ⟨by rw [HO.out]; rfl, rfl⟩
        · by_cases h2 : y < x
          · have HO : Hid (ordN (num xs) (num ys) = 1) := ordN_gt (hg h2)
            clear hl hg
            go_wp2_with fail
            refine ca.mono ?_
            rintro e w' ⟨rfl, rfl⟩
            go_wp2_with fail
            refine cb.mono ?_
            rintro e w' ⟨rfl, rfl⟩
            go_wp2_with fail
            refine ca.mono ?_
            rintro e w' ⟨rfl, rfl⟩
            go_wp2_with fail
            refine cb.mono ?_
            rintro e w' ⟨rfl, rfl⟩
            go_wp2
            go_ret
            exact ⟨by rw [HO.out]; rfl, rfl⟩
          · have hxy : x = y := by omega
            have HN : Hid (∀ t, j ≤ t → xs.getD t 0 = ys.getD t 0) := HQ.out hxy
            clear hl hg hxy
            go_wp2_with fail
            refine ca.mono ?_
            rintro e w' ⟨rfl, rfl⟩
            go_wp2_with fail
            refine cb.mono ?_
            rintro e w' ⟨rfl, rfl⟩
            go_wp2_with fail
            refine ca.mono ?_
            rintro e w' ⟨rfl, rfl⟩
            go_wp2_with fail
            refine cb.mono ?_
            rintro e w' ⟨rfl, rfl⟩
            go_wp2
            go_round
            case rel => exact ⟨j, _, rfl, by omega, by omega, HN⟩
            case measure => simp [intOf]
end Go.Proofs.YtalglldkjbinbaaGreat

/- plumblaw03: lent, kept. -/
namespace Go.Proofs.YtalglldkjbinbaaGreat
open Go.ChangeShapes Go.WideShapes Go.ChangeAt Go.RowKit
open Na Ar
set_option linter.unusedVariables false
end Go.Proofs.YtalglldkjbinbaaGreat

/- plumbref03: Mul: halves of words. -/
namespace Go.Proofs.YtalglldkjbinbaaGreat
open Go.ChangeShapes Go.WideShapes Go.ChangeAt Go.RowKit
open Na Ar
set_option linter.unusedVariables false
theorem Own.stays {k : IntKind} {w w' : World} {base g n cap m : Nat} {e : TypeId} {xs : List Int} (h : Own k w base e (.slice (some ⟨g, 0, none⟩) n cap) xs) (hb : Below m w w') (hg : g < m) : Own k w' base e (.slice (some ⟨g, 0, none⟩) n cap) xs := by
  obtain ⟨h1, h2⟩ := h
  refine ⟨h1, ?_⟩
  rcases h2 with h2 | ⟨g2, c, cur, hv, hb2, hc, r⟩
  · exact Or.inl h2
  · refine Or.inr ⟨g2, c, cur, hv, hb2, ?_, r⟩
    simp only [Value.slice.injEq, Option.some.injEq, Addr.mk.injEq] at hv
    rw [hb.block g2 (by omega)]; exact hc
namespace Na
/-- each word by its halves -/
def halves : List Int → List Int
  | [] => []
  | x :: xs => x % 4294967296 :: x / 4294967296 :: halves xs
theorem halves_length (xs : List Int) : (halves xs).length = 2 * xs.length := by
  induction xs with
  | nil => rfl
  | cons x xs ih => simp [halves, ih]; omega
theorem halves_dg {xs : List Int} (h : Ws xs) : Dg 4294967296 (halves xs) := by
  induction xs with
  | nil => exact Dg.nil _
  | cons x xs ih =>
    have hx := h x (by simp)
    have hs : Ws xs := fun y hy => h y (by simp [hy])
    intro y hy
    simp only [halves, List.mem_cons] at hy
    rcases hy with rfl | rfl | hy
    · omega
    · omega
    · exact ih hs y hy
theorem halves_val (xs : List Int) : val 4294967296 (halves xs) = num xs := by
  induction xs with
  | nil => rfl
  | cons x xs ih =>
    have e : val 4294967296 (halves (x :: xs)) = x % 4294967296 + 4294967296 * (x / 4294967296 + 4294967296 * val 4294967296 (halves xs)) := rfl
    have e2 : num (x :: xs) = x + 18446744073709551616 * num xs := rfl
    rw [e, e2, ih]
    generalize num xs = N
    omega
theorem halves_get {xs : List Int} (h : Ws xs) (k : Nat) : (halves xs).getD k 0 = (if k % 2 = 0 then xs.getD (k / 2) 0 % 4294967296 else xs.getD (k / 2) 0 / 4294967296) := by
  induction xs generalizing k with
  | nil => simp [halves]
  | cons x xs ih =>
    have hs : Ws xs := fun y hy => h y (by simp [hy])
    match k with
    | 0 => rfl
    | 1 => rfl
    | k + 2 =>
      have e : (halves (x :: xs)).getD (k + 2) 0 = (halves xs).getD k 0 := rfl
      have e2 : (k + 2) / 2 = k / 2 + 1 := by omega
      have e3 : (k + 2) % 2 = k % 2 := by omega
      rw [e, ih hs, e2, e3]
      rfl
theorem put_half {us : List Int} {j : Nat} {c p lo hi : Int} (hj : j < us.length) (e : us.getD j 0 + p + c = lo + 4294967296 * hi) :
    val 4294967296 (us.set j lo) + 4294967296 ^ (j + 1) * hi = val 4294967296 us + 4294967296 ^ j * c + 4294967296 ^ j * p := by
  rw [val_set _ hj, Int.pow_succ]
  generalize val 4294967296 us = V
  generalize (4294967296 : Int) ^ j = P
  generalize us.getD j 0 = u at *
  have : lo = u + p + c - 4294967296 * hi := by omega
  subst this
  grind
def hfLo (x y u d : Int) : Int := (x * y + u + d) % 4294967296
def hfHi (x y u d : Int) : Int := (x * y + u + d) / 4294967296
theorem hf_bd {x y u d : Int} (hx : 0 ≤ x ∧ x < 4294967296) (hy : 0 ≤ y ∧ y < 4294967296) (hu : 0 ≤ u ∧ u < 4294967296) (hd : 0 ≤ d ∧ d < 4294967296) : (0 ≤ x * y + u + d ∧ x * y + u + d < 18446744073709551616) ∧ 0 ≤ x * y ∧ (0 ≤ hfHi x y u d ∧ hfHi x y u d < 4294967296) := by
  have m0 : 0 ≤ x * y := Int.mul_nonneg hx.1 hy.1
  have m1 : x * y ≤ 4294967295 * 4294967295 := Int.mul_le_mul (by omega) (by omega) hy.1 (by omega)
  unfold hfHi
  generalize x * y = z at *
  omega
def HimI (ds ys : List Int) (o : Nat) (x : Int) (k : Nat) (d : Int) (us : List Int) : Prop := Dg 4294967296 us ∧ us.length = ds.length ∧ (0 ≤ d ∧ d < 4294967296) ∧ us.drop (o + ys.length) = ds.drop (o + ys.length) ∧
  val 4294967296 us + 4294967296 ^ (o + k) * d = val 4294967296 ds + 4294967296 ^ o * (x * val 4294967296 (ys.take k))
theorem himI_start {ds ys : List Int} {o : Nat} {x : Int} (h : Dg 4294967296 ds) : HimI ds ys o x 0 0 ds := ⟨h, rfl, by omega, rfl, by simp [val]⟩
theorem himI_step {ds ys us : List Int} {o k : Nat} {x d : Int} (h : HimI ds ys o x k d us) (hy : Dg 4294967296 ys) (hx : 0 ≤ x ∧ x < 4294967296) (hk : k < ys.length) (ho : o + k < us.length) :
    HimI ds ys o x (k + 1) (hfHi x (ys.getD k 0) (us.getD (o + k) 0) d) (us.set (o + k) (hfLo x (ys.getD k 0) (us.getD (o + k) 0) d)) := by
  obtain ⟨h1, h2, h3, h4, h5⟩ := h
  have gu := h1.get ho
  have gy := hy.get hk
  have bd := hf_bd hx ⟨gy.1, gy.2⟩ ⟨gu.1, gu.2⟩ h3
  refine ⟨h1.set _ (by unfold hfLo; omega), by rw [List.length_set]; exact h2, bd.2.2, ?_, ?_⟩
  · rw [List.drop_set_of_lt (by omega)]; exact h4
  · have e : us.getD (o + k) 0 + x * ys.getD k 0 + d = hfLo x (ys.getD k 0) (us.getD (o + k) 0) d + 4294967296 * hfHi x (ys.getD k 0) (us.getD (o + k) 0) d := by
      unfold hfLo hfHi
      generalize x * ys.getD k 0 = z
      omega
    have p := put_half (j := o + k) (c := d) (p := x * ys.getD k 0) ho e
    rw [← Nat.add_assoc, p, h5, take_valB hk, Int.pow_add]
    generalize (4294967296 : Int) ^ o = P
    generalize (4294967296 : Int) ^ k = Q
    generalize val 4294967296 (ys.take k) = V
    generalize ys.getD k 0 = y
    grind
/-- behind i halves of the first -/
def HomI (xs ys : List Int) (i : Nat) (ds : List Int) : Prop := Dg 4294967296 ds ∧ ds.length = xs.length + ys.length + 1 ∧ (∀ j, i + ys.length ≤ j → ds.getD j 0 = 0) ∧ val 4294967296 ds = val 4294967296 (xs.take i) * val 4294967296 ys
theorem homI_start (xs ys : List Int) : HomI xs ys 0 (List.replicate (xs.length + ys.length + 1) 0) :=
  ⟨Dg_zeros (by omega) _, by simp, fun j _ => by rw [List.getD_eq_getElem?_getD, List.getElem?_replicate]; split <;> rfl, by rw [val_zeros]; simp [val]⟩
theorem himI_above {ds ys us : List Int} {o : Nat} {x d : Int} {k : Nat} (h : HimI ds ys o x k d us) {j : Nat} (hj : o + ys.length ≤ j) : us.getD j 0 = ds.getD j 0 := by
  have e := h.2.2.2.1
  have e2 : (us.drop (o + ys.length)).getD (j - (o + ys.length)) 0 = (ds.drop (o + ys.length)).getD (j - (o + ys.length)) 0 := by rw [e]
  simp only [List.getD_eq_getElem?_getD, List.getElem?_drop] at e2 ⊢
  have e3 : o + ys.length + (j - (o + ys.length)) = j := by omega
  rw [e3] at e2
  exact e2
theorem homI_step {xs ys ds us : List Int} {i : Nat} {d : Int} (h : HomI xs ys i ds) (hi : i < xs.length) (hin : HimI ds ys i (xs.getD i 0) ys.length d us) :
    us.getD (i + ys.length) 0 = 0 ∧ HomI xs ys (i + 1) (us.set (i + ys.length) d) := by
  obtain ⟨h1, h2, h3, h4⟩ := h
  have z : us.getD (i + ys.length) 0 = 0 := by rw [himI_above hin (Nat.le_refl _)]; exact h3 _ (Nat.le_refl _)
  have ab := fun j (q : i + ys.length ≤ j) => himI_above hin q
  obtain ⟨g1, g2, g3, g4, g5⟩ := hin
  refine ⟨z, g1.set _ g3, by rw [List.length_set, g2]; exact h2, fun j hj => ?_, ?_⟩
  · have e : (us.set (i + ys.length) d).getD j 0 = us.getD j 0 := by
      simp only [List.getD_eq_getElem?_getD]
      rw [List.getElem?_set_ne (by omega)]
    rw [e, ab j (by omega)]
    exact h3 j (by omega)
  · rw [val_set _ (by omega), z, take_valB hi]
    rw [List.take_length, h4] at g5
    have e : (4294967296 : Int) ^ (i + ys.length) * (d - 0) = 4294967296 ^ (i + ys.length) * d := by simp
    rw [e, g5]
    generalize (4294967296 : Int) ^ i = P
    generalize val 4294967296 (xs.take i) = V
    generalize val 4294967296 ys = Y
    generalize xs.getD i 0 = x
    grind
end Na
end Go.Proofs.YtalglldkjbinbaaGreat

/- plumbref03: DivMod, bit by bit: what holds on the way. -/
namespace Go.Proofs.YtalglldkjbinbaaGreat
open Go.ChangeShapes Go.WideShapes Go.ChangeAt Go.RowKit
open Na Ar
set_option linter.unusedVariables false
namespace Na
theorem getD_num {xs : List Int} (h : Ws xs) (j : Nat) : xs.getD j 0 = num xs / 18446744073709551616 ^ j % 18446744073709551616 := by
  by_cases hj : j < xs.length
  · rw [← num_drop h (Nat.le_of_lt hj)]
    have e : num (xs.drop j) = xs.getD j 0 + 18446744073709551616 * num (xs.drop (j + 1)) := val_drop hj
    have g : U (xs.getD j 0) := h.get hj
    unfold U at g
    rw [e, Int.add_mul_emod_self_left, Int.emod_eq_of_lt g.1 g.2]
  · have e : xs.getD j 0 = 0 := by rw [List.getD_eq_getElem?_getD, List.getElem?_eq_none (by omega)]; rfl
    have l : num xs < 18446744073709551616 ^ xs.length := val_lt (by omega) h
    have m : (18446744073709551616 : Int) ^ xs.length ≤ 18446744073709551616 ^ j := wpow_mono (by omega)
    rw [e, Int.ediv_eq_zero_of_lt (num_nonneg h) (by omega)]
    rfl
theorem bit_word {A : Int} {i : Nat} : A / 18446744073709551616 ^ (i / 64) % 18446744073709551616 / 2 ^ (i % 64) % 2 = A / 2 ^ i % 2 := by
  rw [← div_shift A i]
  generalize A / 18446744073709551616 ^ (i / 64) = Y
  have s := pow_split (show i % 64 ≤ 64 by omega)
  have hk : i % 64 < 64 := Nat.mod_lt _ (by omega)
  generalize i % 64 = k at *
  have p := p2pos k
  have d := Int.mul_ediv_add_emod Y 18446744073709551616
  have e : (2 : Int) ^ (64 - k) = 2 * 2 ^ (63 - k) := by rw [show 64 - k = (63 - k) + 1 by omega, Int.pow_succ]; omega
  have f : Y = Y % 18446744073709551616 + 2 ^ k * (2 * (2 ^ (63 - k) * (Y / 18446744073709551616))) := by
    have : (2 : Int) ^ k * (2 * (2 ^ (63 - k) * (Y / 18446744073709551616))) = 18446744073709551616 * (Y / 18446744073709551616) := by
      rw [← s, e]; grind
    rw [this]; omega
  generalize Y % 18446744073709551616 = y at *
  rw [f, Int.add_mul_ediv_left _ _ (by omega), Int.add_mul_emod_self_left]
/-- the rest doubled and a bit behind it: k words done, c carried -/
def DblI (ds : List Int) (c0 : Int) (k : Nat) (c : Int) (us : List Int) : Prop := Ws us ∧ us.length = ds.length ∧ (c = 0 ∨ c = 1) ∧ us.drop k = ds.drop k ∧
  num us + 18446744073709551616 ^ k * c = num ds + num (ds.take k) + c0
theorem dblI_start {ds : List Int} {c0 : Int} (h : Ws ds) (hc : c0 = 0 ∨ c0 = 1) : DblI ds c0 0 c0 ds := ⟨h, rfl, hc, rfl, by simp [num, val]⟩
def dblW (v c : Int) : Int := v * 2 % 18446744073709551616 + c
def dblC (v : Int) : Int := v / 9223372036854775808
theorem dblC_01 {v : Int} (h : U v) : dblC v = 0 ∨ dblC v = 1 := by unfold U at h; unfold dblC; omega
theorem dblI_step {ds us : List Int} {c0 c : Int} {k : Nat} (h : DblI ds c0 k c us) (hk : k < us.length) : DblI ds c0 (k + 1) (dblC (us.getD k 0)) (us.set k (dblW (us.getD k 0) c)) := by
  obtain ⟨h1, h2, h3, h4, h5⟩ := h
  have gu : U (us.getD k 0) := h1.get hk
  have ed : us.getD k 0 = ds.getD k 0 := getD_drop h4
  refine ⟨h1.set _ (by unfold dblW; unfold U at gu; omega), by rw [List.length_set]; exact h2, dblC_01 gu, ?_, ?_⟩
  · rw [List.drop_set_of_lt (by omega)]
    have := congrArg (List.drop 1) h4
    rw [List.drop_drop, List.drop_drop] at this
    exact this
  · have e : us.getD k 0 + us.getD k 0 + c = dblW (us.getD k 0) c + 18446744073709551616 * dblC (us.getD k 0) := by
      unfold dblW dblC; unfold U at gu; omega
    have p := put_word (j := k) (c := c) (p := us.getD k 0) hk e
    have t : num (ds.take (k + 1)) = num (ds.take k) + 18446744073709551616 ^ k * ds.getD k 0 := take_valB (by omega)
    rw [p, h5, t, ed]
    omega
theorem dblI_done {ds us : List Int} {c0 c : Int} (h : DblI ds c0 ds.length c us) (hb : 2 * num ds + c0 < 18446744073709551616 ^ ds.length) : Ws us ∧ us.length = ds.length ∧ num us = 2 * num ds + c0 := by
  obtain ⟨h1, h2, h3, h4, h5⟩ := h
  rw [List.take_of_length_le (Nat.le_refl _)] at h5
  have n0 := num_nonneg h1
  refine ⟨h1, h2, ?_⟩
  rcases h3 with rfl | rfl
  · omega
  · omega
/-- the divisor taken away: k words done, b borrowed -/
def SbI (ds vs : List Int) (k : Nat) (b : Int) (us : List Int) : Prop := Ws us ∧ us.length = ds.length ∧ (b = 0 ∨ b = 1) ∧ us.drop k = ds.drop k ∧
  num us + num (vs.take k) = num ds + 18446744073709551616 ^ k * b
theorem sbI_start {ds vs : List Int} (h : Ws ds) : SbI ds vs 0 0 ds := ⟨h, rfl, Or.inl rfl, rfl, by simp [num, val]⟩
def sbW (w v b : Int) : Int := (w - v - b) % 18446744073709551616
def sbB (w v b : Int) : Int := if w < v ∨ (w = v ∧ b = 1) then 1 else 0
theorem sbB_01 (w v b : Int) : sbB w v b = 0 ∨ sbB w v b = 1 := by unfold sbB; split <;> simp
theorem sb_eq {w v b : Int} (hw : U w) (hv : U v) (hb : b = 0 ∨ b = 1) : w - v - b = sbW w v b - 18446744073709551616 * sbB w v b := by
  unfold U at *
  unfold sbW sbB
  split <;> omega
theorem sbI_step {ds vs us : List Int} {b : Int} {k : Nat} (h : SbI ds vs k b us) (hv : Ws vs) (hk : k < us.length) (hkv : k < vs.length) : SbI ds vs (k + 1) (sbB (us.getD k 0) (vs.getD k 0) b) (us.set k (sbW (us.getD k 0) (vs.getD k 0) b)) := by
  obtain ⟨h1, h2, h3, h4, h5⟩ := h
  have gu : U (us.getD k 0) := h1.get hk
  have gv : U (vs.getD k 0) := hv.get hkv
  have e := sb_eq gu gv h3
  refine ⟨h1.set _ (by unfold sbW; omega), by rw [List.length_set]; exact h2, sbB_01 _ _ _, ?_, ?_⟩
  · rw [List.drop_set_of_lt (by omega)]
    have := congrArg (List.drop 1) h4
    rw [List.drop_drop, List.drop_drop] at this
    exact this
  · have t : num (vs.take (k + 1)) = num (vs.take k) + 18446744073709551616 ^ k * vs.getD k 0 := take_valB hkv
    have s : num (us.set k (sbW (us.getD k 0) (vs.getD k 0) b)) = num us + 18446744073709551616 ^ k * (sbW (us.getD k 0) (vs.getD k 0) b - us.getD k 0) := val_set _ hk
    rw [s, t, Int.pow_succ]
    generalize sbB (us.getD k 0) (vs.getD k 0) b = b' at *
    generalize sbW (us.getD k 0) (vs.getD k 0) b = lo at *
    generalize us.getD k 0 = w at *
    generalize vs.getD k 0 = v at *
    generalize (18446744073709551616 : Int) ^ k = P at *
    have e2 : lo = w - v - b + 18446744073709551616 * b' := by omega
    subst e2
    grind
theorem sbI_done {ds vs us : List Int} {b : Int} (h : SbI ds vs ds.length b us) (hl : vs.length = ds.length) (hle : num vs ≤ num ds) : Ws us ∧ us.length = ds.length ∧ num us = num ds - num vs := by
  obtain ⟨h1, h2, h3, h4, h5⟩ := h
  rw [List.take_of_length_le (by omega)] at h5
  have l : num us < 18446744073709551616 ^ us.length := val_lt (by omega) h1
  rw [h2] at l
  refine ⟨h1, h2, ?_⟩
  rcases h3 with rfl | rfl
  · omega
  · omega
theorem two_div (X : Int) (i : Nat) : X / 2 ^ i = 2 * (X / 2 ^ (i + 1)) + X / 2 ^ i % 2 := by
  have : X / 2 ^ (i + 1) = X / 2 ^ i / 2 := by rw [Int.pow_succ, Int.ediv_ediv_of_nonneg (Int.le_of_lt (p2pos i))]
  rw [this]; omega
/-- the bits from i on are divided -/
def DvO (X D : Int) (i : Nat) (q r : List Int) : Prop := Ws q ∧ Ws r ∧ num r = X / 2 ^ i % D ∧ num q = X / 2 ^ i / D * 2 ^ i
theorem dv_small {Y D c : Int} (hD : 0 < D) (hc : c = 0 ∨ c = 1) (h : 2 * (Y % D) + c < D) : (2 * Y + c) % D = 2 * (Y % D) + c ∧ (2 * Y + c) / D = 2 * (Y / D) := by
  have m0 := Int.emod_nonneg Y (show D ≠ 0 by omega)
  have d := Int.mul_ediv_add_emod Y D
  generalize Y % D = r at *
  generalize Y / D = q at *
  have e : 2 * Y + c = (2 * r + c) + D * (2 * q) := by rw [← d]; grind
  rw [e, Int.add_mul_emod_self_left, Int.add_mul_ediv_left _ _ (by omega), Int.emod_eq_of_lt (by omega) h, Int.ediv_eq_zero_of_lt (by omega) h]
  omega
theorem dv_great {Y D c : Int} (hD : 0 < D) (hc : c = 0 ∨ c = 1) (h : D ≤ 2 * (Y % D) + c) : (2 * Y + c) % D = 2 * (Y % D) + c - D ∧ (2 * Y + c) / D = 2 * (Y / D) + 1 := by
  have m0 := Int.emod_nonneg Y (show D ≠ 0 by omega)
  have m1 := Int.emod_lt_of_pos Y hD
  have d := Int.mul_ediv_add_emod Y D
  generalize Y % D = r at *
  generalize Y / D = q at *
  have e : 2 * Y + c = (2 * r + c - D) + D * (2 * q + 1) := by rw [← d]; grind
  rw [e, Int.add_mul_emod_self_left, Int.add_mul_ediv_left _ _ (by omega), Int.emod_eq_of_lt (by omega) (by omega), Int.ediv_eq_zero_of_lt (by omega) (by omega)]
  omega
theorem dvO_start {X D : Int} {n m l : Nat} (h0 : 0 ≤ X) (hX : X < 2 ^ n) : DvO X D n (List.replicate m 0) (List.replicate l 0) := by
  have e : X / 2 ^ n = 0 := Int.ediv_eq_zero_of_lt h0 hX
  refine ⟨Dg_zeros (by omega) _, Dg_zeros (by omega) _, ?_, ?_⟩
  · rw [e]; show val _ _ = _; rw [val_zeros]; simp
  · rw [e]; show val _ _ = _; rw [val_zeros]; simp
theorem dvO_less {X D : Int} {i : Nat} {q r us : List Int} (hD : 0 < D) (h : DvO X D (i + 1) q r) (hu : Ws us) (hn : num us = 2 * num r + X / 2 ^ i % 2) (hl : num us < D) : DvO X D i q us := by
  obtain ⟨h1, h2, h3, h4⟩ := h
  have hc : X / 2 ^ i % 2 = 0 ∨ X / 2 ^ i % 2 = 1 := by omega
  have t := two_div X i
  rw [h3] at hn
  have s := dv_small hD hc (by rw [← hn]; exact hl)
  rw [← t] at s
  refine ⟨h1, hu, by rw [hn, s.1], ?_⟩
  rw [h4, s.2, Int.pow_succ]; grind
theorem dvO_more {X D : Int} {i : Nat} {q r us q' r' : List Int} (hD : 0 < D) (h : DvO X D (i + 1) q r) (hn : num us = 2 * num r + X / 2 ^ i % 2) (hl : D ≤ num us) (hr : Ws r') (hrn : num r' = num us - D) (hq : Ws q') (hqn : num q' = num q + 2 ^ i) : DvO X D i q' r' := by
  obtain ⟨h1, h2, h3, h4⟩ := h
  have hc : X / 2 ^ i % 2 = 0 ∨ X / 2 ^ i % 2 = 1 := by omega
  have t := two_div X i
  rw [h3] at hn
  have s := dv_great hD hc (by rw [← hn]; exact hl)
  rw [← t] at s
  refine ⟨hq, hr, by rw [hrn, hn, s.1], ?_⟩
  rw [hqn, h4, s.2, Int.pow_succ]; grind
/-- the word into which bit i goes has none below that one, nor it -/
theorem dvO_free {X D : Int} {i : Nat} {q r : List Int} (h : DvO X D (i + 1) q r) : ∃ z, 0 ≤ z ∧ q.getD (i / 64) 0 = z * 2 ^ (i % 64 + 1) := by
  obtain ⟨h1, h2, h3, h4⟩ := h
  have g := getD_num h1 (i / 64)
  have gn : 0 ≤ num q / 18446744073709551616 ^ (i / 64) % 18446744073709551616 := Int.emod_nonneg _ (by omega)
  rw [h4] at g gn
  rw [g]
  generalize X / 2 ^ (i + 1) / D = Z at *
  have e1 : (2 : Int) ^ (i + 1) = 18446744073709551616 ^ (i / 64) * 2 ^ (i % 64 + 1) := by
    have : (18446744073709551616 : Int) ^ (i / 64) = 2 ^ (64 * (i / 64)) := by rw [Int.pow_mul]; rfl
    rw [this, ← Int.pow_add]; congr 1; omega
  have pp : 0 < (18446744073709551616 : Int) ^ (i / 64) := Int.pow_pos (by omega)
  have e2 : Z * 2 ^ (i + 1) / 18446744073709551616 ^ (i / 64) = Z * 2 ^ (i % 64 + 1) := by
    rw [e1]
    have : Z * (18446744073709551616 ^ (i / 64) * 2 ^ (i % 64 + 1)) = 18446744073709551616 ^ (i / 64) * (Z * 2 ^ (i % 64 + 1)) := by grind
    rw [this, Int.mul_ediv_cancel_left _ (by omega)]
  rw [e2] at gn ⊢
  have s := pow_split (show i % 64 + 1 ≤ 64 by omega)
  have p := p2pos (i % 64 + 1)
  generalize (2 : Int) ^ (i % 64 + 1) = P at *
  generalize (2 : Int) ^ (64 - (i % 64 + 1)) = Q at *
  have e3 : Z * P % 18446744073709551616 = Z % Q * P := by
    rw [← s, Int.mul_comm Z, Int.mul_comm Q, Int.mul_emod_mul_of_pos _ _ p, Int.mul_comm]
  rw [e3] at gn ⊢
  refine ⟨Z % Q, ?_, rfl⟩
  have q0 : Q ≠ 0 := by intro h; rw [h] at s; omega
  exact Int.emod_nonneg _ q0
theorem or_bit {W z : Int} {k : Nat} (hk : k < 64) (hW : U W) (h : W = z * 2 ^ (k + 1)) : bits .or .u64 W (2 ^ k) = W + 2 ^ k ∧ W + 2 ^ k < 18446744073709551616 := by
  have p := p2pos k
  have lt : (2 : Int) ^ k < 2 ^ (k + 1) := by rw [Int.pow_succ]; omega
  have o := or_parts (x := z) (y := 2 ^ k) (show k + 1 ≤ 64 by omega) (by omega) lt
  have w1 : IntKind.u64.wrap (z * 2 ^ (k + 1)) = W := by rw [wrapU, ← h]; unfold U at hW; exact Int.emod_eq_of_lt hW.1 hW.2
  have w2 : z * 2 ^ (k + 1) % 18446744073709551616 = W := by rw [← h]; unfold U at hW; exact Int.emod_eq_of_lt hW.1 hW.2
  rw [w1, w2] at o
  refine ⟨o, ?_⟩
  have s := pow_split (show k + 1 ≤ 64 by omega)
  unfold U at hW
  have pq := p2pos (64 - (k + 1))
  rw [Int.pow_succ] at h s
  generalize (2 : Int) ^ k = P at *
  generalize (2 : Int) ^ (64 - (k + 1)) = Q at *
  have hz : z < Q := by
    by_cases g : z < Q
    · exact g
    · have : Q * (P * 2) ≤ z * (P * 2) := Int.mul_le_mul_of_nonneg_right (by omega) (by omega)
      rw [s] at this
      omega
  have : (z + 1) * (P * 2) ≤ Q * (P * 2) := Int.mul_le_mul_of_nonneg_right (by omega) (by omega)
  rw [s, Int.add_mul] at this
  omega
theorem q_bit {q : List Int} {i : Nat} (h : Ws q) (hi : i / 64 < q.length) (hlt : q.getD (i / 64) 0 + 2 ^ (i % 64) < 18446744073709551616) : Ws (q.set (i / 64) (q.getD (i / 64) 0 + 2 ^ (i % 64))) ∧ num (q.set (i / 64) (q.getD (i / 64) 0 + 2 ^ (i % 64))) = num q + 2 ^ i := by
  have g : U (q.getD (i / 64) 0) := h.get hi
  have p := p2pos (i % 64)
  unfold U at g
  refine ⟨h.set _ (by omega), ?_⟩
  have s : num (q.set (i / 64) (q.getD (i / 64) 0 + 2 ^ (i % 64))) = num q + 18446744073709551616 ^ (i / 64) * (q.getD (i / 64) 0 + 2 ^ (i % 64) - q.getD (i / 64) 0) := val_set _ hi
  rw [s]
  have : (18446744073709551616 : Int) ^ (i / 64) = 2 ^ (64 * (i / 64)) := by rw [Int.pow_mul]; rfl
  have e : q.getD (i / 64) 0 + 2 ^ (i % 64) - q.getD (i / 64) 0 = 2 ^ (i % 64) := by omega
  rw [e, this, ← Int.pow_add]
  congr 2; omega
end Na
end Go.Proofs.YtalglldkjbinbaaGreat

/- plumbref03.Bit, DivMod. -/
namespace Go.Proofs.YtalglldkjbinbaaGreat
open Go.ChangeShapes Go.WideShapes Go.ChangeAt Go.RowKit
open Na Ar
set_option linter.unusedVariables false
theorem or_1bit {x t : Int} (ht : t = 0 ∨ t = 1) : bits .or .u64 (IntKind.u64.wrap (x * 2)) t = x * 2 % 18446744073709551616 + t := by
  have h := or_parts (x := x) (y := t) (k := 1) (by omega) (by omega) (by rw [Int.pow_one]; omega)
  rw [Int.pow_one] at h
  exact h
theorem wrap_p2 {k : Nat} (h : k < 64) : IntKind.u64.wrap (2 ^ k) = 2 ^ k := by
  rw [wrapU]
  have s := pow_split (show k ≤ 64 by omega)
  have p := p2pos k
  have q : (2 : Int) ^ (64 - k) = 2 * 2 ^ (63 - k) := by rw [show 64 - k = (63 - k) + 1 by omega, Int.pow_succ]; omega
  have r := p2pos (63 - k)
  refine Int.emod_eq_of_lt (by omega) ?_
  rw [q] at s
  have := Int.mul_le_mul_of_nonneg_right (show (2 : Int) ≤ 2 * 2 ^ (63 - k) by omega) (Int.le_of_lt p)
  omega
set_option maxHeartbeats 1600000 in
theorem ref3Bit_any {a : Option Addr} {n c1 : Nat} {xs : List Int} {w : World} (hr : RowAt .u64 w a n xs) (hx : Ws xs) (hn : n ≤ 12000000) (i : Nat) (hi : i ≤ 700000000) :
    Calls Tryz.prog 61 #[.slice a n c1, .int .i64 (i : Int)] w fun e w' => e = .returned (.int .u64 (num xs / 2 ^ i % 2)) ∧ w = w' := by
  have ca := ref3At_any (c1 := c1) hr hn (i / 64) (by omega)
  have hq : ((i / 64 : Nat) : Int) = (i : Int) / 64 := by omega
  rw [hq] at ca
  have g := getD_num hx (i / 64)
  have u : U (xs.getD (i / 64) 0) := hx.getAnyB (i / 64)
  have hb := bit_word (A := num xs) (i := i)
  rw [← g] at hb
  generalize xs.getD (i / 64) 0 = x at *
  have hu : U (x / 2 ^ (i % 64)) := U_div_pow (x := x) u _
  have HE : Hid (bits .and .u64 (x / 2 ^ (i % 64)) 1 = num xs / 2 ^ i % 2) := by show _ = _; rw [and_one hu]; exact hb
  clear hb g hq hu
  go_enter Tryz.func61, Tryz.ntmps61
  go_wp2_with fail
  refine ca.mono ?_
  rintro e w' ⟨rfl, rfl⟩
  go_wp2
  go_ret
  exact ⟨ret_int HE.out, rfl⟩
set_option maxHeartbeats 1600000 in
theorem ref3DivZero_any {a b : Option Addr} {n m c1 c2 : Nat} {xs ys : List Int} {w : World} (hr2 : RowAt .u64 w b m ys) (hy : Ws ys) (hm : m ≤ 12000000) (hD : num ys = 0) :
    Calls Tryz.prog 41 #[.slice a n c1, .slice b m c2] w fun e w' => e = .returned (.tuple #[.slice none 0 0, .slice none 0 0, .int .i64 30]) ∧ Below w.heap.size w w' := by
  have hc := ref3Norm_any (cap := c2) hr2 hy hm
  have hw : words (num ys) = [] := by rw [hD]; exact dig_zero _
  rw [hw] at hc
  clear hr2
  go_enter Tryz.func41, Tryz.ntmps41
  go_wp2_with fail
  refine hc.mono ?_
  rintro e w1 ⟨v, rfl, hv, hb1⟩
  obtain ⟨va, vc, rfl, hvr⟩ := hv.readsC
  clear hv hc
  go_wp2
  go_ret3
  exact ⟨rfl, hb1⟩
set_option maxHeartbeats 6400000 in
set_option maxRecDepth 100000 in
theorem ref3Div_any {a b : Option Addr} {n m c1 c2 : Nat} {xs ys : List Int} {w : World} (hr1 : RowAt .u64 w a n xs) (hr2 : RowAt .u64 w b m ys) (hx : Ws xs) (hy : Ws ys) (hn : n ≤ 3000000) (hm : m ≤ 3000000) (hD : 0 < num ys) :
    Calls Tryz.prog 41 #[.slice a n c1, .slice b m c2] w fun e w' => ∃ a1 n1 d1 a2 n2 d2, e = .returned (.tuple #[.slice a1 n1 d1, .slice a2 n2 d2, .int .i64 0]) ∧ RowC w' a1 n1 d1 (words (num xs / num ys)) ∧ RowC w' a2 n2 d2 (words (num xs % num ys)) ∧ Below w.heap.size w w' := by
  obtain ⟨i_u64, hi_u64, hz0_u64, hz1_u64, hz2_u64⟩ := info_parts info_u64
  have hyl := words_len hy
  rw [hr2.1] at hyl
  have hX0 := num_nonneg hx
  have hXb := bits_le hX0 (k := n) (by have := val_lt (B := 18446744073709551616) (by omega) hx; rw [hr1.1] at this; exact this)
  obtain ⟨N, hN⟩ : ∃ N : Nat, bitsN (num xs) = (N : Int) := ⟨(bitsN (num xs)).toNat, by have := bits_nonneg (num xs); omega⟩
  have hXN : num xs < 2 ^ N := by
    by_cases g : num xs = 0
    · rw [g]; exact p2pos _
    · obtain ⟨b', e1, e2, e3⟩ := bits_some (show 0 < num xs by omega)
      have : N = b' + 1 := by omega
      rw [this]; exact e3
  rw [hN] at hXb
  have dD := Dg_words (num ys)
  have nD := num_words (show 0 ≤ num ys by omega)
  have wD0 : (words (num ys)).length ≠ 0 := by
    intro h
    have := List.eq_nil_of_length_eq_zero h
    rw [this] at nD
    have z : num [] = 0 := rfl
    omega
  have hDB : num ys < 18446744073709551616 ^ (words (num ys)).length := by
    have := val_lt (B := 18446744073709551616) (by omega) dD
    rw [val_words (by omega)] at this
    exact this
  have hst := fun p q => dvO_start (X := num xs) (D := num ys) (n := N) (m := p) (l := q) hX0 hXN
  go_enter Tryz.func41, Tryz.ntmps41
  go_wp2_with fail
  refine (ref3Norm_any hr2 hy (by omega)).mono ?_
  rintro e w1 ⟨v, rfl, hv, hb1⟩
  obtain ⟨da, dc, rfl, hdr⟩ := hv.readsC
  clear hr2 hv
  have hx1 := hr1.later hb1
  clear hr1
  have hbits := ref3Bits_any (cap := c1) hx1 hx (by omega)
  rw [hN] at hbits
  have HX : Hid (num xs < 2 ^ N) := hXN
  clear hN hXN
  have hdl : (words (num ys)).length ≤ 3000000 := by omega
  generalize hvs : words (num ys) = vs at *
  clear hvs
  generalize hDd : num ys = D at *
  have HDD : Hid (num ys = D) := hDd
  generalize hld : vs.length = ld at *
  have HLD : Hid (vs.length = ld) := hld
  clear hDd hld hyl
  have t0 : ((ld : Int) == 0) = false := by simp; omega
  go_wp2_with fail
  refine hbits.mono ?_
  rintro e w' ⟨rfl, rfl⟩
  clear hbits
  go_wp2_with (at_make; refine wpList_make_full _ rfl _ _ 29 rfl w1.heap.size 22 i_u64 (.int .u64 0) 1 Tryz.underlying29 hi_u64 hz0_u64 hz1_u64 .i64 .i64 _ _ (N / 64 + 1) rfl rfl (by omega) (by omega) (by rw [hz2_u64]; omega) (by unfold maxLen; omega) (Nat.le_refl _) ?_)
  intro w2 hmade hgr
  have hoq := own_zeros hmade
  have hb2 : Below w1.heap.size w1 w2 := (Below.refl _ _).grown hgr (Nat.le_refl _) (fun k hk => by cases hk)
  clear hmade hgr
  go_wp2_with (at_make; refine wpList_make_full _ rfl _ _ 29 rfl w2.heap.size 22 i_u64 (.int .u64 0) 1 Tryz.underlying29 hi_u64 hz0_u64 hz1_u64 .i64 .i64 _ _ (ld + 1) rfl rfl (by omega) (by omega) (by rw [hz2_u64]; omega) (by unfold maxLen; omega) (Nat.le_refl _) ?_)
  intro w3 hmade hgr
  have hor := own_zeros hmade
  have hb3 : Below w2.heap.size w2 w3 := (Below.refl _ _).grown hgr (Nat.le_refl _) (fun k hk => by cases hk)
  have hoq3 := hoq.stays hb3 hoq.lt
  have hB3 := hb2.trans (hb3.mono hb2.size)
  have hsz2 := hb2.size
  have hlt := hoq.lt
  obtain ⟨gq, hgq⟩ : ∃ g, g = w1.heap.size := ⟨_, rfl⟩
  obtain ⟨gr, hgr2⟩ : ∃ g, g = w2.heap.size := ⟨_, rfl⟩
  rw [← hgq] at hoq3 hlt ⊢
  rw [← hgr2] at hor hlt ⊢
  have hne : gq ≠ gr := by omega
  have hgw : w1.heap.size ≤ gq := by omega
  have hgw2 : w1.heap.size ≤ gr := by omega
  replace hoq3 := hoq3.rebase hgw
  replace hor := hor.rebase hgw2
  have hs0 := hst (N / 64 + 1) (ld + 1)
  clear hmade hgr hgq hgr2 hst hoq hlt hsz2 hb3 hb2
  go_wp2
  go_loopw [11, 12, 13, 14, 15, 16, 17, 18] (fun i _ _ _ _ _ _ _ wr => ∃ (k : Nat) (I : Int) (q r : List Int), i = .int .i64 I ∧ I = (k : Int) - 1 ∧ k ≤ N ∧ q.length = N / 64 + 1 ∧ r.length = ld + 1 ∧ Own .u64 wr w1.heap.size 22 (.slice (some ⟨gq, 0, none⟩) (N / 64 + 1) (N / 64 + 1)) q ∧ Own .u64 wr w1.heap.size 22 (.slice (some ⟨gr, 0, none⟩) (ld + 1) (ld + 1)) r ∧ DvO (num xs) D k q r ∧ Below w1.heap.size w1 wr) (fun i _ _ _ _ _ _ _ _ => (intOf i + 1).toNat)
  case atStart => exact ⟨N, _, _, _, rfl, rfl, Nat.le_refl _, by simp, by simp, hoq3, hor, hs0, hB3⟩
  case round =>
    obtain ⟨k, I, q, r, rfl, hI, hk, hql, hrl, hoq, hor', hinv, hnx⟩ := hrel
    clear hoq3 hor hs0 hB3
    cases k with
    | zero =>
      obtain ⟨z1, z2, z3, z4⟩ := hinv
      have e0 : num xs / 2 ^ 0 = num xs := by simp
      rw [e0] at z3 z4
      have e1 : (2 : Int) ^ 0 = 1 := by simp
      rw [e1, Int.mul_one] at z4
      have hneg : I < 0 := by omega
      have rq := hoq.rowC hql.symm
      have rr := hor'.rowC hrl.symm
      have cq := ref3Norm_any (cap := N / 64 + 1) rq.1 z1 (by omega)
      rw [z4] at cq
      clear hI e0 e1 hoq hor' hx1 hdr
      go_wp2_with fail
      refine cq.mono ?_
      rintro e w5 ⟨v5, rfl, hv5, hb5⟩
      obtain ⟨qa, qc, rfl, hqr⟩ := hv5.readsC
      have rr5 := rr.later hb5
      have cr := ref3Norm_any (cap := ld + 1) rr5.1 z2 (by omega)
      rw [z3] at cr
      clear cq hv5 rq rr rr5
      go_wp2_with fail
      refine cr.mono ?_
      rintro e w6 ⟨v6, rfl, hv6, hb6⟩
      obtain ⟨ra, rc, rfl, hrr⟩ := hv6.readsC
      have hqr6 := hqr.later hb6
      have hB6 := (hnx.trans (hb5.mono hnx.size)).trans (hb6.mono (Nat.le_trans hnx.size hb5.size))
      clear cr hv6 hqr
      go_wp2
      go_ret3
      exact ⟨_, _, _, _, _, _, rfl, by rw [HDD.out]; exact hqr6, by rw [HDD.out]; exact hrr, hb1.trans (hB6.mono hb1.size)⟩
    | succ i =>
      have hI' : I = (i : Int) := by omega
      clear hI
      subst hI'
      have hxr := hx1.later hnx
      have hbit := ref3Bit_any (c1 := c1) hxr hx (by omega) i (by omega)
      have hC : num xs / 2 ^ i % 2 = 0 ∨ num xs / 2 ^ i % 2 = 1 := by omega
      obtain ⟨C, hCe⟩ : ∃ C, C = num xs / 2 ^ i % 2 := ⟨_, rfl⟩
      rw [← hCe] at hbit hC
      have HC : Hid (C = num xs / 2 ^ i % 2) := hCe
      have hds := dblI_start (c0 := C) hinv.2.1 hC
      have hrb : 2 * num r + C < 18446744073709551616 ^ r.length := by
        have m1 := Int.emod_lt_of_pos (num xs / 2 ^ (i + 1)) hD
        have e := hinv.2.2.1
        rw [hrl, Int.pow_succ]
        omega
      clear hCe
      go_wp2_with fail
      refine hbit.mono ?_
      rintro e w' ⟨rfl, rfl⟩
      clear hbit hxr
      go_wp2
      go_loopw [12, 13, 14] (fun c j _ w4 => ∃ (t : Nat) (c' : Int) (us : List Int), j = .int .i64 t ∧ c = .int .u64 c' ∧ t ≤ ld + 1 ∧ DblI r C t c' us ∧ Own .u64 w4 w1.heap.size 22 (.slice (some ⟨gq, 0, none⟩) (N / 64 + 1) (N / 64 + 1)) q ∧ Own .u64 w4 w1.heap.size 22 (.slice (some ⟨gr, 0, none⟩) (ld + 1) (ld + 1)) us ∧ Below w1.heap.size w1 w4) (fun _ j _ _ => ld + 1 - (intOf j).toNat)
      case atStart => exact ⟨0, C, r, rfl, rfl, by omega, hds, hoq, hor', hnx⟩
      case round =>
        obtain ⟨t, c', us, rfl, rfl, ht, hd, hq4, hr4, hn4⟩ := hrel
        have hul : ld + 1 = us.length := by rw [hd.2.1, hrl]
        clear hoq hor' hnx hds
        by_cases htl : t < ld + 1
        · have hce := hr4.cellAt hul (j := t) htl
          have hfz := hr4.frozenAt hul t
          have gu : U (us.getD t 0) := hd.1.getAnyB t
          have hstep := dblI_step hd (by omega)
          have hset := hr4.set hul t (dblW (us.getD t 0) c')
          have hqo := hq4.inn ((In.refl gr (gr + 1) _).set1 t (.int .u64 (dblW (us.getD t 0) c'))) hne
          have hor1 : bits .or .u64 (IntKind.u64.wrap (us.getD t 0 * 2)) c' = dblW (us.getD t 0) c' := or_1bit hd.2.2.1
          generalize us.getD t 0 = v at *
          unfold U at gu
          clear hd hr4 hq4 hul
          go_wp2
          go_roundw
          case rel => exact ⟨t + 1, _, _, by go_num, rfl, by omega, hstep, hqo, hset, hn4.setCell hgw2 _⟩
          case measure => simp [intOf]; omega
        · have e : t = r.length := by omega
          rw [e] at hd
          obtain ⟨wu, lu, nu⟩ := dblI_done hd hrb
          have NU : Hid (num us = 2 * num r + num xs / 2 ^ i % 2) := by show _ = _; rw [nu, HC.out]
          have rr := hr4.rowC hul
          have rd := hdr.later hn4
          have cc := ref3Cmp_any (c1 := ld + 1) (c2 := dc) rr.1 rd.1 wu dD (by omega) (by omega)
          rw [nD] at cc
          have HUL : Hid (ld + 1 = us.length) := hul
          clear hd e nu hrb rr rd hul
          by_cases hge : D ≤ num us
          · obtain ⟨K, hK, hK0⟩ : ∃ K, ordN (num us) D = K ∧ 0 ≤ K := by
              by_cases q1 : num us = D
              · exact ⟨0, ordN_eq q1, by omega⟩
              · exact ⟨1, ordN_gt (by omega), by omega⟩
            rw [hK] at cc
            have hss := sbI_start (vs := pad vs (ld + 1)) wu
            have pw := pad_ws dD (ld + 1)
            have pl := pad_length (xs := vs) (N := ld + 1) (by rw [HLD.out]; omega)
            have pn := pad_num vs (ld + 1)
            rw [nD] at pn
            have HGE : Hid (D ≤ num us) := hge
            clear hK hge
            go_wp2_with fail
            refine cc.mono ?_
            rintro e w' ⟨rfl, rfl⟩
            clear cc
            go_wp2
            go_loopw [15, 16, 17, 18] (fun b j _ _ w5 => ∃ (s : Nat) (b' : Int) (ss : List Int), j = .int .i64 s ∧ b = .int .u64 b' ∧ s ≤ ld + 1 ∧ SbI us (pad vs (ld + 1)) s b' ss ∧ Own .u64 w5 w1.heap.size 22 (.slice (some ⟨gq, 0, none⟩) (N / 64 + 1) (N / 64 + 1)) q ∧ Own .u64 w5 w1.heap.size 22 (.slice (some ⟨gr, 0, none⟩) (ld + 1) (ld + 1)) ss ∧ Below w1.heap.size w1 w5) (fun _ j _ _ _ => ld + 1 - (intOf j).toNat)
            case atStart => exact ⟨0, 0, us, rfl, rfl, by omega, hss, hq4, hr4, hn4⟩
            case round =>
              obtain ⟨s, b', ss, rfl, rfl, hs, hsb, hq5, hr5, hn5⟩ := hrel
              have hsl : ld + 1 = ss.length := by rw [hsb.2.1]; exact HUL.out
              clear hq4 hr4 hn4 hss
              by_cases hsl2 : s < ld + 1
              · have rd := hdr.later hn5
                have ca := ref3At_any (c1 := dc) rd.1 (by omega) s (by omega)
                have hce := hr5.cellAt hsl (j := s) hsl2
                have hfz := hr5.frozenAt hsl s
                have gw : U (ss.getD s 0) := hsb.1.getAnyB s
                have gv : U (vs.getD s 0) := dD.getAnyB s
                have hstep := sbI_step hsb pw (by omega) (by omega)
                rw [pad_get] at hstep
                have hb01 := hsb.2.2.1
                have hset := hr5.set hsl s (sbW (ss.getD s 0) (vs.getD s 0) b')
                have hqo := hq5.inn ((In.refl gr (gr + 1) _).set1 s (.int .u64 (sbW (ss.getD s 0) (vs.getD s 0) b'))) hne
                generalize ss.getD s 0 = x at *
                generalize vs.getD s 0 = y at *
                have hwr : IntKind.u64.wrap (IntKind.u64.wrap (x - y) - b') = sbW x y b' := by
                  rw [wrapU, wrapU]; unfold sbW; omega
                clear hsb hr5 hq5 hsl rd
                by_cases hlt : x < y
                · have hB : sbB x y b' = 1 := by unfold sbB; rw [if_pos (Or.inl hlt)]
                  rw [hB] at hstep
                  clear hB gw gv hb01
                  go_wp2_with fail
                  refine ca.mono ?_
                  rintro e w' ⟨rfl, rfl⟩
                  clear ca
                  go_wp2
                  go_roundw
                  case rel => exact ⟨s + 1, _, _, by go_num, rfl, by omega, hstep, hqo, hset, hn5.setCell hgw2 _⟩
                  case measure => simp [intOf]; omega
                · by_cases heq : x = y
                  · have teq : (x == y) = true := beq_of heq
                    rcases hb01 with hb0 | hb1'
                    · have hB : sbB x y b' = 0 := by unfold sbB; rw [if_neg (by omega)]
                      rw [hB] at hstep
                      have tb : (b' == 1) = false := beq_no (by omega)
                      clear hB gw gv hb0 heq
                      go_wp2_with fail
                      refine ca.mono ?_
                      rintro e w' ⟨rfl, rfl⟩
                      clear ca
                      go_wp2
                      go_roundw
                      case rel => exact ⟨s + 1, _, _, by go_num, rfl, by omega, hstep, hqo, hset, hn5.setCell hgw2 _⟩
                      case measure => simp [intOf]; omega
                    · have hB : sbB x y b' = 1 := by unfold sbB; rw [if_pos (Or.inr ⟨heq, hb1'⟩)]
                      rw [hB] at hstep
                      have tb : (b' == 1) = true := beq_of hb1'
                      clear hB gw gv hb1' heq
                      go_wp2_with fail
                      refine ca.mono ?_
                      rintro e w' ⟨rfl, rfl⟩
                      clear ca
                      go_wp2
                      go_roundw
                      case rel => exact ⟨s + 1, _, _, by go_num, rfl, by omega, hstep, hqo, hset, hn5.setCell hgw2 _⟩
                      case measure => simp [intOf]; omega
                  · have teq : (x == y) = false := beq_no heq
                    have hB : sbB x y b' = 0 := by unfold sbB; rw [if_neg (by omega)]
                    rw [hB] at hstep
                    clear hB gw gv hb01 heq
                    go_wp2_with fail
                    refine ca.mono ?_
                    rintro e w' ⟨rfl, rfl⟩
                    clear ca
                    go_wp2
                    go_roundw
                    case rel => exact ⟨s + 1, _, _, by go_num, rfl, by omega, hstep, hqo, hset, hn5.setCell hgw2 _⟩
                    case measure => simp [intOf]; omega
              · have e : s = us.length := by rw [← HUL.out]; omega
                rw [e] at hsb
                obtain ⟨ws, ls, ns⟩ := sbI_done hsb (by rw [pl]; exact HUL.out) (by rw [pn]; exact HGE.out)
                rw [pn] at ns
                obtain ⟨z, hz0, hzf⟩ := dvO_free hinv
                have hil : i / 64 < q.length := by omega
                have gq' : U (q.getD (i / 64) 0) := hinv.1.getAnyB (i / 64)
                obtain ⟨hor2, hlt2⟩ := or_bit (show i % 64 < 64 by omega) gq' hzf
                have hor3 : bits .or .u64 (q.getD (i / 64) 0) (IntKind.u64.wrap (2 ^ (i % 64))) = q.getD (i / 64) 0 + 2 ^ (i % 64) := by rw [wrap_p2 (by omega)]; exact hor2
                clear hor2
                obtain ⟨wq, nq⟩ := q_bit hinv.1 hil hlt2
                have hmore := dvO_more hD hinv NU.out HGE.out ws ns wq nq
                have hce := hq5.cellAt hql.symm (j := i / 64) (by omega)
                have hfz := hq5.frozenAt hql.symm (i / 64)
                have hset := Own.set (w := wr) hq5 hql.symm (i / 64) (q.getD (i / 64) 0 + 2 ^ (i % 64))
                have hro := Own.inn (w := wr) hr5 ((In.refl gq (gq + 1) _).set1 (i / 64) (.int .u64 (q.getD (i / 64) 0 + 2 ^ (i % 64)))) (Ne.symm hne)
                have HQL : Hid ((q.set (i / 64) (q.getD (i / 64) 0 + 2 ^ (i % 64))).length = N / 64 + 1) := by show _ = _; rw [List.length_set]; exact hql
                have HSL : Hid (ss.length = ld + 1) := hsl.symm
                have hi64 : ((i : Int) / 64).toNat = i / 64 := by omega
                generalize hWq : q.getD (i / 64) 0 = Wq at *
                clear hsb hq5 hr5 hinv NU HGE hWq hzf hlt2 wq nq ns pn pw pl hsl e hql hrl
                go_wp2
                go_region
                go_wp2
                go_roundw
                case rel => exact ⟨i, _, _, ss, rfl, rfl, by omega, HQL.out, HSL.out, hset, hro, hmore, (hn5.setCell hgw _).drew⟩
                case measure => simp [intOf]
          · have hK : ordN (num us) D = -1 := ordN_lt (by omega)
            rw [hK] at cc
            have hless := dvO_less hD hinv wu NU.out (by omega)
            have HU' : Hid (us.length = ld + 1) := HUL.out.symm
            clear hK hinv
            go_wp2_with fail
            refine cc.mono ?_
            rintro e w' ⟨rfl, rfl⟩
            clear cc
            go_wp2
            go_roundw
            case rel => exact ⟨i, _, q, us, rfl, rfl, by omega, hql, HU'.out, hq4, hr4, hless, hn4⟩
            case measure => simp [intOf]
end Go.Proofs.YtalglldkjbinbaaGreat

/- plumbref03: Add, Sub, Shl: what holds on the way. -/
namespace Go.Proofs.YtalglldkjbinbaaGreat
open Go.ChangeShapes Go.WideShapes Go.ChangeAt Go.RowKit
open Na Ar
set_option linter.unusedVariables false
namespace Na
theorem num_snoc (zs : List Int) (x : Int) : num (zs ++ [x]) = num zs + 18446744073709551616 ^ zs.length * x := by
  show val _ _ = _
  rw [val_append]; simp [val]; rfl
theorem Ws.snoc {zs : List Int} {x : Int} (h : Ws zs) (hx : U x) : Ws (zs ++ [x]) := h.append (Dg.one hx)
def SlI (xs : List Int) (t k : Nat) (c : Int) (zs : List Int) : Prop := Ws zs ∧ zs.length = k ∧ (0 ≤ c ∧ c < 2 ^ t) ∧
  num zs + 18446744073709551616 ^ k * c = num (xs.take k) * 2 ^ t
theorem slI_start (xs : List Int) (t : Nat) : SlI xs t 0 0 [] := ⟨Dg.nil _, rfl, ⟨Int.le_refl _, p2pos t⟩, by simp [num, val]⟩
def slW (x c : Int) (t : Nat) : Int := x * 2 ^ t % 18446744073709551616 + c
def slC (x : Int) (t : Nat) : Int := x / 2 ^ (64 - t)
theorem sl_eq {x c : Int} {t : Nat} (hx : U x) (ht : t ≤ 64) (hc : 0 ≤ c ∧ c < 2 ^ t) : x * 2 ^ t + c = slW x c t + 18446744073709551616 * slC x t ∧ U (slW x c t) ∧ (0 ≤ slC x t ∧ slC x t < 2 ^ t) := by
  have s := pow_split ht
  have p := p2pos t
  have q := p2pos (64 - t)
  have d := Int.mul_ediv_add_emod x (2 ^ (64 - t))
  have m0 := Int.emod_nonneg x (show (2 : Int) ^ (64 - t) ≠ 0 by omega)
  have m1 := Int.emod_lt_of_pos x q
  have c0 : 0 ≤ x / 2 ^ (64 - t) := Int.ediv_nonneg hx.1 (by omega)
  have c1 : x / 2 ^ (64 - t) < 2 ^ t := by
    refine Int.ediv_lt_of_lt_mul q ?_
    rw [Int.mul_comm, s]; exact hx.2
  unfold slW slC
  generalize x / 2 ^ (64 - t) = h at *
  generalize x % 2 ^ (64 - t) = l at *
  generalize (2 : Int) ^ (64 - t) = Q at *
  generalize (2 : Int) ^ t = P at *
  have e1 : x * P = l * P + 18446744073709551616 * h := by rw [← d, ← s]; grind
  have b1 : l * P + P ≤ 18446744073709551616 := by
    have : (l + 1) * P ≤ Q * P := Int.mul_le_mul_of_nonneg_right (by omega) (by omega)
    rw [s, Int.add_mul] at this
    omega
  have b0 : 0 ≤ l * P := Int.mul_nonneg m0 (by omega)
  have e2 : x * P % 18446744073709551616 = l * P := by rw [e1, Int.add_mul_emod_self_left, Int.emod_eq_of_lt (by omega) (by omega)]
  rw [e2]
  refine ⟨by omega, ?_, c0, c1⟩
  unfold U
  omega
theorem slI_step {xs zs : List Int} {t k : Nat} {c : Int} (h : SlI xs t k c zs) (hx : Ws xs) (ht : t ≤ 64) (h1 : k < xs.length) : SlI xs t (k + 1) (slC (xs.getD k 0) t) (zs ++ [slW (xs.getD k 0) c t]) := by
  obtain ⟨g1, g2, g3, g4⟩ := h
  have ux : U (xs.getD k 0) := hx.get h1
  obtain ⟨e, u, b⟩ := sl_eq ux ht g3
  refine ⟨g1.snoc u, by simp [g2], b, ?_⟩
  have t1 : num (xs.take (k + 1)) = num (xs.take k) + 18446744073709551616 ^ k * xs.getD k 0 := take_valB h1
  rw [num_snoc, g2, t1, Int.pow_succ]
  generalize slW (xs.getD k 0) c t = lo at *
  generalize slC (xs.getD k 0) t = hi at *
  generalize xs.getD k 0 = x at *
  generalize (18446744073709551616 : Int) ^ k = P at *
  generalize (2 : Int) ^ t = T at *
  have e2 : lo = x * T + c - 18446744073709551616 * hi := by omega
  subst e2
  grind
theorem slI_done {xs zs : List Int} {t : Nat} {c : Int} (h : SlI xs t xs.length c zs) (ht : t ≤ 64) : Ws (zs ++ [c]) ∧ num (zs ++ [c]) = num xs * 2 ^ t := by
  obtain ⟨g1, g2, g3, g4⟩ := h
  have s := pow_split ht
  have q := p2pos (64 - t)
  refine ⟨g1.snoc ?_, ?_⟩
  · unfold U
    have : (2 : Int) ^ t ≤ 18446744073709551616 := by
      rw [← s]
      have := Int.mul_le_mul_of_nonneg_right (show (1 : Int) ≤ 2 ^ (64 - t) by omega) (Int.le_of_lt (p2pos t))
      omega
    omega
  · rw [num_snoc, g2, g4, List.take_of_length_le (Nat.le_refl _)]
end Na
end Go.Proofs.YtalglldkjbinbaaGreat

/- plumbref03: Shl by any number. -/
namespace Go.Proofs.YtalglldkjbinbaaGreat
open Go.ChangeShapes Go.WideShapes Go.ChangeAt Go.RowKit
open Na Ar
set_option linter.unusedVariables false
namespace Na
theorem rep_snoc (k : Nat) : List.replicate k (0 : Int) ++ [0] = List.replicate (k + 1) 0 := by rw [List.replicate_succ']
theorem shl_done {xs zs : List Int} {t : Nat} {c : Int} (h : SlI xs (t % 64) xs.length c zs) : Ws (List.replicate (t / 64) 0 ++ zs ++ [c]) ∧ num (List.replicate (t / 64) 0 ++ zs ++ [c]) = num xs * 2 ^ t := by
  obtain ⟨a, b⟩ := slI_done h (by omega)
  rw [List.append_assoc]
  refine ⟨(Dg_zeros (by omega) _).append a, ?_⟩
  have e : num (List.replicate (t / 64) 0 ++ (zs ++ [c])) = 18446744073709551616 ^ (t / 64) * num (zs ++ [c]) := by
    unfold num
    rw [val_append, val_zeros]; simp
  rw [e, b]
  have p : (2 : Int) ^ t = 18446744073709551616 ^ (t / 64) * 2 ^ (t % 64) := by
    have e1 : (18446744073709551616 : Int) = 2 ^ 64 := rfl
    rw [e1, ← Int.pow_mul, ← Int.pow_add]
    congr 1; omega
  rw [p]; exact Int.mul_left_comm _ _ _
end Na
set_option maxHeartbeats 3200000 in
set_option maxRecDepth 100000 in
theorem ref3Shl_any {a : Option Addr} {n c1 : Nat} {xs : List Int} {w : World} (hr1 : RowAt .u64 w a n xs) (hx : Ws xs) (hn : n ≤ 3000000) (t : Nat) (ht : t ≤ 200000000) :
    Calls Tryz.prog 38 #[.slice a n c1, .int .i64 (t : Int)] w fun e w' => ∃ v, e = .returned v ∧ Own .u64 w' w.heap.size 22 v (words (num xs * 2 ^ t)) ∧ Below w.heap.size w w' := by
  obtain ⟨i_u64, hi_u64, hz0_u64, hz1_u64, hz2_u64⟩ := info_parts info_u64
  have LX : Hid (xs.length = n) := hr1.1
  have hq : t / 64 ≤ 3125000 := by omega
  have hr : t % 64 < 64 := by omega
  have HD := @Na.shl_done xs
  go_enter Tryz.func38, Tryz.ntmps38
  go_wp2
  go_loopw [5, 6] (fun v i w4 => ∃ (k : Nat) (L : List Int), i = .int .i64 k ∧ k ≤ t / 64 ∧ Own .u64 w4 w.heap.size 22 v L ∧ L.length = k ∧ Hid (L = List.replicate k 0) ∧ Below w.heap.size w w4) (fun _ i _ => t / 64 - (intOf i).toNat)
  case atStart => exact ⟨0, [], rfl, Nat.zero_le _, own_nil _ _ _ _, rfl, rfl, Below.refl _ _⟩
  case round =>
    obtain ⟨q, L, rfl, hk, hown, hLl, HL, hnx⟩ := hrel
    have hsz := hnx.size
    by_cases hlt : q < t / 64
    · go_wp2_with (at_builtin; refine wpList_append_own _ rfl _ _ 29 rfl w.heap.size 22 i_u64 (.int .u64 0) 1 8 Tryz.underlying29 hi_u64 hz0_u64 hz1_u64 hz2_u64 rfl (by decide) _ _ _ rfl (hown.row.alloc _) ⟨wr.heap.size, 0, none⟩ 1 1 [.int .u64 0] rfl rfl one_new one_cell (by unfold maxLen; omega) (by omega) (by simp; omega) ?_)
      intro v' w1 hown' hgrow _
      have hb' := grow_below hsz hown.row hnx hgrow
      have ho' := own_next hown' (by omega)
      clear hown' hgrow hown hnx
      go_wp2
      go_roundw
      case rel => exact ⟨q + 1, L ++ [0], by go_num, by omega, ho', by simp [hLl], by show _ = _; rw [HL.out]; exact rep_snoc q, hb'⟩
      case measure => simp [intOf]; omega
    · have HK : Hid (q = t / 64) := by show _ = _; omega
      have hq3 : q ≤ 3125000 := by omega
      go_wp2
      go_loopw [5, 8, 9] (fun v c i w4 => ∃ (k : Nat) (C : Int) (zs L : List Int), i = .int .i64 k ∧ c = .int .u64 C ∧ k ≤ n ∧ Own .u64 w4 w.heap.size 22 v L ∧ Hid (L = List.replicate q 0 ++ zs) ∧ SlI xs (t % 64) k C zs ∧ Below w.heap.size w w4) (fun _ _ i _ => n - (intOf i).toNat)
      case atStart => exact ⟨0, 0, [], L, rfl, rfl, Nat.zero_le _, hown, by show _ = _; rw [HL.out, List.append_nil], slI_start _ _, hnx⟩
      case round =>
        clear hown HL hLl hsz hnx hlt hk
        obtain ⟨k, C, zs, L, rfl, rfl, hk, hown, HL, hinv, hnx⟩ := hrel
        have hsz := hnx.size
        have hzl := hinv.2.1
        have hC := hinv.2.2.1
        have hLl : L.length = q + k := by rw [HL.out]; simp [hzl]
        by_cases hlt : k < n
        · obtain ⟨b0, o0, rfl, hb0, hc0⟩ := hr1.at (by omega)
          have hcx := fun (w5 : World) (h : Below w.heap.size w w5) => (h.cell (p := ⟨b0, o0 + k, none⟩) hb0).trans (hc0 k hlt)
          have hcx0 := hcx _ hnx
          have ux : U (xs.getD k 0) := hx.getAnyB k
          have hstep := slI_step hinv hx (by omega) (by rw [LX.out]; exact hlt)
          generalize xs.getD k 0 = x at *
          have hor : bits .or .u64 (IntKind.u64.wrap (x * 2 ^ (t % 64))) C = slW x C (t % 64) := or_parts (k := t % 64) (by omega) hC.1 hC.2
          have HA : Hid (L ++ [slW x C (t % 64)] = List.replicate q 0 ++ (zs ++ [slW x C (t % 64)])) := by show _ = _; rw [HL.out, List.append_assoc]
          clear hinv hc0 hC HL HD
          by_cases hr0 : t % 64 = 0
          · have hcc : slC x (t % 64) = 0 := by
              unfold slC; rw [hr0]
              have h64 : (2 : Int) ^ (64 - 0) = 18446744073709551616 := rfl
              rw [h64]; unfold U at ux; omega
            rw [hcc] at hstep
            have hor' : bits .or .u64 (IntKind.u64.wrap x) C = slW x C (t % 64) := by
              have := hor
              rw [hr0, Int.pow_zero, Int.mul_one] at this
              rw [this, hr0]
            clear hcc ux hor
            generalize slW x C (t % 64) = y at *
            go_wp2_with (at_builtin; refine wpList_append_own _ rfl _ _ 29 rfl w.heap.size 22 i_u64 (.int .u64 0) 1 8 Tryz.underlying29 hi_u64 hz0_u64 hz1_u64 hz2_u64 rfl (by decide) _ _ _ rfl (hown.row.alloc _) ⟨wr.heap.size, 0, none⟩ 1 1 [.int .u64 y] rfl rfl one_new one_cell (by unfold maxLen; omega) (by omega) (by simp; omega) ?_)
            intro v' w1 hown' hgrow _
            have hb' := grow_below hsz hown.row hnx hgrow
            have ho' := own_next hown' (by omega)
            have hcx1 := hcx _ hb'
            clear hown' hgrow hown hnx hcx hcx0
            go_wp2
            go_roundw
            case rel => exact ⟨k + 1, _, _, _, by go_num, rfl, by omega, ho', HA, hstep, hb'⟩
            case measure => simp [intOf]; omega
          · have hcc : slC x (t % 64) = x / 2 ^ (64 - t % 64) := rfl
            rw [hcc] at hstep
            clear hcc ux
            generalize slW x C (t % 64) = y at *
            have t1 : decide ((t : Int) % 64 > 0) = true := by simp; omega
            have t2 : decide (0 < (t : Int) % 64) = true := by simp; omega
            go_wp2_with (at_builtin; refine wpList_append_own _ rfl _ _ 29 rfl w.heap.size 22 i_u64 (.int .u64 0) 1 8 Tryz.underlying29 hi_u64 hz0_u64 hz1_u64 hz2_u64 rfl (by decide) _ _ _ rfl (hown.row.alloc _) ⟨wr.heap.size, 0, none⟩ 1 1 [.int .u64 y] rfl rfl one_new one_cell (by unfold maxLen; omega) (by omega) (by simp; omega) ?_)
            intro v' w1 hown' hgrow _
            have hb' := grow_below hsz hown.row hnx hgrow
            have ho' := own_next hown' (by omega)
            have hcx1 := hcx _ hb'
            clear hown' hgrow hown hnx hcx hcx0
            go_wp2
            go_roundw
            case rel => exact ⟨k + 1, _, _, _, by go_num, rfl, by omega, ho', HA, hstep, hb'⟩
            case measure => simp [intOf]; omega
        · have ek : k = xs.length := by rw [LX.out]; omega
          rw [ek] at hinv
          obtain ⟨hws, hnum⟩ := HD hinv
          rw [← HK.out, ← HL.out] at hws hnum
          have HN : Hid (num (L ++ [C]) = num xs * 2 ^ t) := hnum
          clear hinv hnum ek hC hr1 HD
          go_wp2_with (at_builtin; refine wpList_append_own _ rfl _ _ 29 rfl w.heap.size 22 i_u64 (.int .u64 0) 1 8 Tryz.underlying29 hi_u64 hz0_u64 hz1_u64 hz2_u64 rfl (by decide) _ _ _ rfl (hown.row.alloc _) ⟨wr.heap.size, 0, none⟩ 1 1 [.int .u64 C] rfl rfl one_new one_cell (by unfold maxLen; omega) (by omega) (by simp; omega) ?_)
          intro v' w1 hown' hgrow _
          have hb' := grow_below hsz hown.row hnx hgrow
          have ho' := own_next hown' (by omega)
          obtain ⟨va, vc, rfl, hvr⟩ := ho'.readsC
          have hl5 : (L ++ [C]).length = q + k + 1 := by simp [hLl]
          rw [hl5] at hvr ⊢
          have cn := ref3Norm_any (cap := vc) hvr.1 hws (by omega)
          rw [HN.out] at cn
          clear hown' hgrow hown hnx ho' hvr hl5
          go_wp2_with fail
          refine cn.mono ?_
          rintro e w2 ⟨o, rfl, ho, hb2⟩
          have ho2 := ho.wider hb'.size
          have hB := hb'.trans (hb2.mono hb'.size)
          clear cn ho
          go_wp2
          go_ret
          exact ⟨_, rfl, ho2, hB⟩
end Go.Proofs.YtalglldkjbinbaaGreat

