/- plumbref03: at, Cmp. -/
import Derived.Test.YthjfjpdgjhidfabGreatRef3Bits
namespace Go.Proofs.YthjfjpdgjhidfabGreat
open Go.ChangeShapes Go.WideShapes Go.ChangeAt Go.RowKit
open Na Ar
set_option linter.unusedVariables false
namespace Na
/-- filled up by zeros -/
def pad (xs : List Int) (N : Nat) : List Int := xs ++ List.replicate (N - xs.length) 0
theorem pad_length {xs : List Int} {N : Nat} (h : xs.length ≤ N) : (pad xs N).length = N := by unfold pad; simp; omega
theorem pad_num (xs : List Int) (N : Nat) : num (pad xs N) = num xs := by
  unfold pad num
  rw [val_append, val_zeros, Int.mul_zero, Int.add_zero]
theorem pad_ws {xs : List Int} (h : Ws xs) (N : Nat) : Ws (pad xs N) := h.append (Dg_zeros (by omega) _)
theorem pad_get (xs : List Int) (N i : Nat) : (pad xs N).getD i 0 = xs.getD i 0 := by
  unfold pad
  by_cases h : i < xs.length
  · simp [List.getD_eq_getElem?_getD, List.getElem?_append_left h]
  · rw [getD_out (xs := xs) (by omega), List.getD_eq_getElem?_getD, List.getElem?_append_right (by omega), List.getElem?_replicate]
    split <;> rfl
theorem pad_drop {xs ys : List Int} {N j : Nat} (h1 : xs.length ≤ N) (h2 : ys.length ≤ N) (h : ∀ t, j ≤ t → xs.getD t 0 = ys.getD t 0) : (pad xs N).drop j = (pad ys N).drop j := by
  apply List.ext_getElem?
  intro i
  rw [List.getElem?_drop, List.getElem?_drop]
  by_cases hi : j + i < N
  · have a := pad_get xs N (j + i)
    have b := pad_get ys N (j + i)
    rw [List.getD_eq_getElem?_getD, List.getElem?_eq_getElem (by rw [pad_length h1]; exact hi)] at a
    rw [List.getD_eq_getElem?_getD, List.getElem?_eq_getElem (by rw [pad_length h2]; exact hi)] at b
    rw [List.getElem?_eq_getElem (by rw [pad_length h1]; exact hi), List.getElem?_eq_getElem (by rw [pad_length h2]; exact hi)]
    simp only [Option.getD_some] at a b
    rw [a, b, h (j + i) (by omega)]
  · rw [List.getElem?_eq_none (by rw [pad_length h1]; omega), List.getElem?_eq_none (by rw [pad_length h2]; omega)]
theorem pad_lt {xs ys : List Int} {N j : Nat} (hx : Ws xs) (hy : Ws ys) (h1 : xs.length ≤ N) (h2 : ys.length ≤ N) (hj : j < N) (h : ∀ t, j + 1 ≤ t → xs.getD t 0 = ys.getD t 0) (hl : xs.getD j 0 < ys.getD j 0) : num xs < num ys := by
  rw [← pad_num xs N, ← pad_num ys N]
  exact word_lt (pad_ws hx N) (pad_ws hy N) (by rw [pad_length h1]; exact hj) (by rw [pad_length h2]; exact hj) (pad_drop h1 h2 h) (by rw [pad_get, pad_get]; exact hl)
theorem pad_eq {xs ys : List Int} (N : Nat) (h1 : xs.length ≤ N) (h2 : ys.length ≤ N) (h : ∀ t, xs.getD t 0 = ys.getD t 0) : num xs = num ys := by
  rw [← pad_num xs N, ← pad_num ys N]
  have := pad_drop (j := 0) h1 h2 (fun t _ => h t)
  rw [List.drop_zero, List.drop_zero] at this
  rw [this]
end Na
theorem ref3At_any {a : Option Addr} {n c1 : Nat} {xs : List Int} {w : World} (hr : RowAt .u64 w a n xs) (hn : n ≤ 12000000) (i : Nat) (hi : i ≤ 12000000) :
    Calls Tryz.prog 72 #[.slice a n c1, .int .i64 (i : Int)] w fun e w' => e = .returned (.int .u64 (xs.getD i 0)) ∧ w = w' := by
  by_cases h : i < n
  · obtain ⟨b, off, rfl, _, hc⟩ := hr.at (by omega)
    have hcx := hc i h
    generalize xs.getD i 0 = x at *
    have h2 : (i : Int) < (n : Int) := by omega
    clear hc hr
    go_enter Tryz.func72, Tryz.ntmps72
    go_wp2
    go_ret
    exact ⟨rfl, rfl⟩
  · have he : xs.getD i 0 = 0 := getD_out (by have := hr.1; omega)
    generalize xs.getD i 0 = x at he ⊢
    have HE : Hid (x = 0) := he
    clear he
    have h2 : ¬ (i : Int) < (n : Int) := by omega
    clear hr
    go_enter Tryz.func72, Tryz.ntmps72
    go_wp2
    go_ret
    exact ⟨ret_int HE.out.symm, rfl⟩
set_option maxHeartbeats 1600000 in
set_option maxRecDepth 100000 in
theorem ref3Cmp_any {a b : Option Addr} {n m c1 c2 : Nat} {xs ys : List Int} {w : World} (hr1 : RowAt .u64 w a n xs) (hr2 : RowAt .u64 w b m ys) (hx : Ws xs) (hy : Ws ys) (hn : n ≤ 12000000) (hm : m ≤ 12000000) :
    Calls Tryz.prog 71 #[.slice a n c1, .slice b m c2] w fun e w' => e = .returned (.int .i64 (ordN (num xs) (num ys))) ∧ w = w' := by
  have l1 := hr1.1
  have l2 := hr2.1
  go_enter Tryz.func71, Tryz.ntmps71
  by_cases hmn : (n : Int) < (m : Int)
  · have hmn' : n < m := by omega
    go_wp2
    go_loop [6] (fun i => ∃ (k : Nat) (I : Int), i = .int .i64 I ∧ I = (k : Int) - 1 ∧ k ≤ m ∧ Hid (∀ t, k ≤ t → xs.getD t 0 = ys.getD t 0)) (fun i => (intOf i + 1).toNat)
    case atStart => exact ⟨m, _, rfl, rfl, Nat.le_refl _, fun t ht => by rw [getD_out (by omega), getD_out (by omega)]⟩
    case round =>
      obtain ⟨k, I, rfl, hI, hk, hs⟩ := hrel
      cases k with
      | zero =>
        have HZ : Hid (ordN (num xs) (num ys) = 0) := ordN_eq (pad_eq m (by omega) (by omega) (fun t => hs.out t (Nat.zero_le _)))
        have hneg : I < 0 := by omega
        clear hI
        go_wp2
        go_ret
        exact ⟨by rw [HZ.out]; rfl, rfl⟩
      | succ j =>
        have hI' : I = (j : Int) := by omega
        clear hI
        subst hI'
        have ca := ref3At_any (c1 := c1) hr1 hn j (by omega)
        have cb := ref3At_any (c1 := c2) hr2 hm j (by omega)
        have hl := fun h => pad_lt hx hy (N := m) (j := j) (by omega) (by omega) (by omega) hs.out h
        have hg := fun h => pad_lt hy hx (N := m) (j := j) (by omega) (by omega) (by omega) (fun t ht => (hs.out t ht).symm) h
        have hq : xs.getD j 0 = ys.getD j 0 → ∀ t, j ≤ t → xs.getD t 0 = ys.getD t 0 := fun h t ht => by
          by_cases e : t = j
          · rw [e]; exact h
          · exact hs.out t (by omega)
        have HQ : Hid (xs.getD j 0 = ys.getD j 0 → ∀ t, j ≤ t → xs.getD t 0 = ys.getD t 0) := hq
        generalize hxe : xs.getD j 0 = x at *
        generalize hye : ys.getD j 0 = y at *
        clear hxe hye hq
        by_cases h1 : x < y
        · have HO : Hid (ordN (num xs) (num ys) = -1) := ordN_lt (hl h1)
          clear hl hg
          go_wp2_with fail
          refine ca.mono ?_
          rintro e w' ⟨rfl, rfl⟩
          go_wp2_with fail
          refine cb.mono ?_
          rintro e w' ⟨rfl, rfl⟩
          go_wp2
          go_ret
          exact ⟨by rw [HO.out]; rfl, rfl⟩
        · by_cases h2 : y < x
          · have HO : Hid (ordN (num xs) (num ys) = 1) := ordN_gt (hg h2)
            clear hl hg
            go_wp2_with fail
            refine ca.mono ?_
            rintro e w' ⟨rfl, rfl⟩
            go_wp2_with fail
            refine cb.mono ?_
            rintro e w' ⟨rfl, rfl⟩
            go_wp2_with fail
            refine ca.mono ?_
            rintro e w' ⟨rfl, rfl⟩
            go_wp2_with fail
            refine cb.mono ?_
            rintro e w' ⟨rfl, rfl⟩
            go_wp2
            go_ret
            exact ⟨by rw [HO.out]; rfl, rfl⟩
          · have hxy : x = y := by omega
            have HN : Hid (∀ t, j ≤ t → xs.getD t 0 = ys.getD t 0) := HQ.out hxy
            clear hl hg hxy
            go_wp2_with fail
            refine ca.mono ?_
            rintro e w' ⟨rfl, rfl⟩
            go_wp2_with fail
            refine cb.mono ?_
            rintro e w' ⟨rfl, rfl⟩
            go_wp2_with fail
            refine ca.mono ?_
            rintro e w' ⟨rfl, rfl⟩
            go_wp2_with fail
            refine cb.mono ?_
            rintro e w' ⟨rfl, rfl⟩
            go_wp2
            go_round
            case rel => exact ⟨j, _, rfl, by omega, by omega, HN⟩
            case measure => simp [intOf]
  · have hmn' : m ≤ n := by omega
    go_wp2
    go_loop [6] (fun i => ∃ (k : Nat) (I : Int), i = .int .i64 I ∧ I = (k : Int) - 1 ∧ k ≤ n ∧ Hid (∀ t, k ≤ t → xs.getD t 0 = ys.getD t 0)) (fun i => (intOf i + 1).toNat)
    case atStart => exact ⟨n, _, rfl, rfl, Nat.le_refl _, fun t ht => by rw [getD_out (by omega), getD_out (by omega)]⟩
    case round =>
      obtain ⟨k, I, rfl, hI, hk, hs⟩ := hrel
      cases k with
      | zero =>
        have HZ : Hid (ordN (num xs) (num ys) = 0) := ordN_eq (pad_eq n (by omega) (by omega) (fun t => hs.out t (Nat.zero_le _)))
        have hneg : I < 0 := by omega
        clear hI
        go_wp2
        go_ret
        exact ⟨by rw [HZ.out]; rfl, rfl⟩
      | succ j =>
        have hI' : I = (j : Int) := by omega
        clear hI
        subst hI'
        have ca := ref3At_any (c1 := c1) hr1 hn j (by omega)
        have cb := ref3At_any (c1 := c2) hr2 hm j (by omega)
        have hl := fun h => pad_lt hx hy (N := n) (j := j) (by omega) (by omega) (by omega) hs.out h
        have hg := fun h => pad_lt hy hx (N := n) (j := j) (by omega) (by omega) (by omega) (fun t ht => (hs.out t ht).symm) h
        have hq : xs.getD j 0 = ys.getD j 0 → ∀ t, j ≤ t → xs.getD t 0 = ys.getD t 0 := fun h t ht => by
          by_cases e : t = j
          · rw [e]; exact h
          · exact hs.out t (by omega)
        have HQ : Hid (xs.getD j 0 = ys.getD j 0 → ∀ t, j ≤ t → xs.getD t 0 = ys.getD t 0) := hq
        generalize hxe : xs.getD j 0 = x at *
        generalize hye : ys.getD j 0 = y at *
        clear hxe hye hq
        by_cases h1 : x < y
        · have HO : Hid (ordN (num xs) (num ys) = -1) := ordN_lt (hl h1)
          clear hl hg
          go_wp2_with fail
          refine ca.mono ?_
          rintro e w' ⟨rfl, rfl⟩
          go_wp2_with fail
          refine cb.mono ?_
          rintro e w' ⟨rfl, rfl⟩
          go_wp2
          go_ret
          exact ⟨by rw [HO.out]; rfl, rfl⟩
        · by_cases h2 : y < x
          · have HO : Hid (ordN (num xs) (num ys) = 1) := ordN_gt (hg h2)
            clear hl hg
            go_wp2_with fail
            refine ca.mono ?_
            rintro e w' ⟨rfl, rfl⟩
            go_wp2_with fail
            refine cb.mono ?_
            rintro e w' ⟨rfl, rfl⟩
            go_wp2_with fail
            refine ca.mono ?_
            rintro e w' ⟨rfl, rfl⟩
            go_wp2_with fail
            refine cb.mono ?_
            rintro e w' ⟨rfl, rfl⟩
            go_wp2
            go_ret
            exact ⟨by rw [HO.out]; rfl, rfl⟩
          · have hxy : x = y := by omega
            have HN : Hid (∀ t, j ≤ t → xs.getD t 0 = ys.getD t 0) := HQ.out hxy
            clear hl hg hxy
            go_wp2_with fail
            refine ca.mono ?_
            rintro e w' ⟨rfl, rfl⟩
            go_wp2_with fail
            refine cb.mono ?_
            rintro e w' ⟨rfl, rfl⟩
            go_wp2_with fail
            refine ca.mono ?_
            rintro e w' ⟨rfl, rfl⟩
            go_wp2_with fail
            refine cb.mono ?_
            rintro e w' ⟨rfl, rfl⟩
            go_wp2
            go_round
            case rel => exact ⟨j, _, rfl, by omega, by omega, HN⟩
            case measure => simp [intOf]
end Go.Proofs.YthjfjpdgjhidfabGreat
