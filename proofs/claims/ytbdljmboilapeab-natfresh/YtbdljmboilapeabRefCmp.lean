/- plumbref02: compare, Cmp. -/
import Derived.Test.YtbdljmboilapeabRefPlus
namespace Go.Proofs.Ytbdljmboilapeab
open Go.ChangeShapes Go.WideShapes Go.ChangeAt Go.RowKit
open Na
set_option linter.unusedVariables false

namespace Na
def ordN (a b : Int) : Int := if a < b then -1 else if b < a then 1 else 0
theorem ordN_lt {a b : Int} (h : a < b) : ordN a b = -1 := by unfold ordN; rw [if_pos h]
theorem ordN_gt {a b : Int} (h : b < a) : ordN a b = 1 := by unfold ordN; rw [if_neg (by omega), if_pos h]
theorem ordN_eq {a b : Int} (h : a = b) : ordN a b = 0 := by unfold ordN; rw [if_neg (by omega), if_neg (by omega)]
theorem dig_last {B : Nat} (hB : 2 ≤ B) (n : Nat) (h : n ≠ 0) : ∃ zs x, dig B n = zs ++ [x] ∧ x ≠ 0 := by
  induction n using Nat.strongRecOn with
  | _ n ih =>
    rw [dig_step hB h]
    by_cases e : n / B = 0
    · rw [e, dig_zero]
      refine ⟨[], _, rfl, ?_⟩
      have : n % B = n := Nat.mod_eq_of_lt ((Nat.div_eq_zero_iff_lt (by omega)).mp e)
      omega
    · obtain ⟨zs, x, hz, hx⟩ := ih (n / B) (Nat.div_lt_self (by omega) hB) e
      exact ⟨_ :: zs, x, by rw [hz]; rfl, hx⟩
theorem dig_ge {N : Int} (h : 0 < N) : (65536 : Int) ^ ((digs N).length - 1) ≤ N := by
  obtain ⟨zs, x, hz, hx⟩ := dig_last (B := 65536) (by omega) N.toNat (by omega)
  have hz' : digs N = zs ++ [x] := hz
  have dg := Dg_digs N
  have v := val_digs (N := N) (by omega)
  rw [hz'] at dg v ⊢
  have gx := dg x (List.mem_append_right _ (by simp))
  have gz : Dg 65536 zs := fun y hy => dg y (List.mem_append_left _ hy)
  have v0 := val_nonneg (B := 65536) (by omega) gz
  rw [val_append] at v
  have e : val 65536 [x] = x := by simp [val]
  rw [e] at v
  have l : (zs ++ [x]).length - 1 = zs.length := by simp
  rw [l]
  have p : 0 < (65536 : Int) ^ zs.length := Int.pow_pos (by omega)
  have m : (65536 : Int) ^ zs.length * 1 ≤ 65536 ^ zs.length * x := Int.mul_le_mul_of_nonneg_left (by omega) (by omega)
  omega
theorem len_lt {A B : Int} (hA : 0 ≤ A) (hB : 0 ≤ B) (h : (digs A).length < (digs B).length) : A < B := by
  have hb : 0 < B := by
    by_cases e : B = 0
    · subst e; simp [digs, dig_zero] at h
    · omega
  have g := dig_ge hb
  have l := val_lt (B := 65536) (by omega) (Dg_digs A)
  rw [val_digs hA] at l
  have m : (65536 : Int) ^ (digs A).length ≤ 65536 ^ ((digs B).length - 1) := by
    have c1 : ((65536 ^ (digs A).length : Nat) : Int) = (65536 : Int) ^ (digs A).length := by simp
    have c2 : ((65536 ^ ((digs B).length - 1) : Nat) : Int) = (65536 : Int) ^ ((digs B).length - 1) := by simp
    have : 65536 ^ (digs A).length ≤ 65536 ^ ((digs B).length - 1) := Nat.pow_le_pow_right (by omega) (by omega)
    omega
  omega
theorem val_at {xs : List Int} {i : Nat} (h : i < xs.length) : val 65536 xs = val 65536 (xs.take i) + 65536 ^ i * (xs.getD i 0 + 65536 * val 65536 (xs.drop (i + 1))) := by
  have e := congrArg (val 65536) (List.take_append_drop i xs).symm
  rw [val_append, List.length_take, Nat.min_eq_left (by omega), val_drop h] at e
  exact e
theorem digit_lt {xs ys : List Int} {i : Nat} (hx : Dg 65536 xs) (hy : Dg 65536 ys) (h1 : i < xs.length) (h2 : i < ys.length) (hd : xs.drop (i + 1) = ys.drop (i + 1)) (h : xs.getD i 0 < ys.getD i 0) : val 65536 xs < val 65536 ys := by
  rw [val_at h1, val_at h2, hd]
  have a := val_lt (B := 65536) (by omega) (hx.take i)
  rw [List.length_take, Nat.min_eq_left (by omega)] at a
  have b := val_nonneg (B := 65536) (by omega) (hy.take i)
  have p : 0 < (65536 : Int) ^ i := Int.pow_pos (by omega)
  generalize val 65536 (ys.drop (i + 1)) = V
  have m : (65536 : Int) ^ i * (xs.getD i 0 + 65536 * V + 1) ≤ 65536 ^ i * (ys.getD i 0 + 65536 * V) := Int.mul_le_mul_of_nonneg_left (by omega) (by omega)
  rw [Int.mul_add, Int.mul_one] at m
  omega
theorem drop_next {xs ys : List Int} {i : Nat} (h1 : i < xs.length) (h2 : i < ys.length) (hd : xs.drop (i + 1) = ys.drop (i + 1)) (h : xs.getD i 0 = ys.getD i 0) : xs.drop i = ys.drop i := by
  rw [List.drop_eq_getElem_cons h1, List.drop_eq_getElem_cons h2, hd]
  have e1 : xs.getD i 0 = xs[i] := by simp [List.getD_eq_getElem?_getD, List.getElem?_eq_getElem h1]
  have e2 : ys.getD i 0 = ys[i] := by simp [List.getD_eq_getElem?_getD, List.getElem?_eq_getElem h2]
  rw [← e1, ← e2, h]
end Na

theorem ret_i {k : IntKind} {a b : Int} (h : a = b) : Ending.returned (.int k a) = .returned (.int k b) := by rw [h]
set_option maxHeartbeats 1600000 in
set_option maxRecDepth 100000 in
theorem compare_any {a b : Option Addr} {n m c1 c2 : Nat} {A B : Int} {xs ys : List Int} {w : World} (hA : 0 ≤ A) (hB : 0 ≤ B) (ex : xs = digs A) (ey : ys = digs B) (hr1 : RowAt .i64 w a n xs) (hr2 : RowAt .i64 w b m ys) (hn : n ≤ 10000000) (hm : m ≤ 10000000) :
    Calls Try.prog 72 #[.slice a n c1, .slice b m c2] w fun e w' => e = .returned (.int .i64 (ordN A B)) ∧ Below w.heap.size w w' := by
  have hl1 := hr1.1
  have hl2 := hr2.1
  have hx : Dg 65536 xs := by rw [ex]; exact Dg_digs A
  have hy : Dg 65536 ys := by rw [ey]; exact Dg_digs B
  have vx : Hid (val 65536 xs = A) := by show _ = _; rw [ex]; exact val_digs hA
  have vy : Hid (val 65536 ys = B) := by show _ = _; rw [ey]; exact val_digs hB
  have lt1 : xs.length < ys.length → A < B := fun h => len_lt hA hB (by rw [← ex, ← ey]; exact h)
  have lt2 : ys.length < xs.length → B < A := fun h => len_lt hB hA (by rw [← ex, ← ey]; exact h)
  clear ex ey hA hB
  by_cases hnm : n = m
  · have t : ((n : Int) != (m : Int)) = false := by simp [hnm]
    have hnm1 : n ≤ m := by omega
    have hnm2 : m ≤ n := by omega
    clear hnm lt1 lt2
    go_enter Try.func72, Try.ntmps72
    go_wp2
    go_loopw [5] (fun i wr => ∃ (k : Nat) (I : Int), i = .int .i64 I ∧ I = (k : Int) - 1 ∧ k ≤ n ∧ Hid (xs.drop k = ys.drop k) ∧ Below w.heap.size w wr) (fun i _ => (intOf i + 1).toNat)
    case atStart => exact ⟨n, _, rfl, rfl, Nat.le_refl _, (by rw [List.drop_of_length_le (by omega), List.drop_of_length_le (by omega)] : xs.drop n = ys.drop n), Below.refl _ _⟩
    case round =>
      obtain ⟨k, I, rfl, hI, hk, hs, hnx⟩ := hrel
      cases k with
      | zero =>
        have hI' : I < 0 := by omega
        have HO : Hid (0 = ordN A B) := (ordN_eq (by
          have h := hs.out
          simp only [List.drop_zero] at h
          rw [← vx.out, ← vy.out, h])).symm
        clear hI
        go_wp2
        go_ret
        exact ⟨ret_i HO.out, hnx⟩
      | succ j =>
        have hI' : I = (j : Int) := by omega
        clear hI
        subst hI'
        obtain ⟨b1, o1, rfl, hb1, hc1⟩ := hr1.at (by omega)
        obtain ⟨b2, o2, rfl, hb2, hc2⟩ := hr2.at (by omega)
        have hx1 := (hnx.cell (p := ⟨b1, o1 + j, none⟩) hb1).trans (hc1 j (by omega))
        have hx2 := (hnx.cell (p := ⟨b2, o2 + j, none⟩) hb2).trans (hc2 j (by omega))
        have l1 := digit_lt hx hy (i := j) (by omega) (by omega) hs.out
        have l2 := digit_lt hy hx (i := j) (by omega) (by omega) hs.out.symm
        have l3 := drop_next (i := j) (by omega) (by omega) hs.out
        rw [vx.out, vy.out] at l1 l2
        generalize xs.getD j 0 = x at *
        generalize ys.getD j 0 = y at *
        have hj1 : j < n := by omega
        have hj2 : j < m := by omega
        clear hc1 hc2 hr1 hr2 hs
        by_cases e : x = y
        · have t2 : (x != y) = false := by simp [e]
          have HS : Hid (xs.drop j = ys.drop j) := l3 e
          clear l1 l2 l3 e
          go_wp2
          go_quiet (fail)
          go_wp2
          go_roundw
          case rel => exact ⟨j, _, rfl, rfl, by omega, HS, below_drewN hnx _⟩
          case measure => simp [intOf]
        · have t2 : (x != y) = true := by simp [e]
          by_cases e2 : x < y
          · have HO : Hid (-1 = ordN A B) := (ordN_lt (l1 e2)).symm
            clear l1 l2 l3 e
            go_wp2
            go_quiet (fail)
            go_wp2
            go_quiet (fail)
            go_wp2
            go_ret
            exact ⟨ret_i HO.out, below_drewN (below_drewN hnx _) _⟩
          · have HO : Hid (1 = ordN A B) := (ordN_gt (l2 (by omega))).symm
            clear l1 l2 l3 e
            go_wp2
            go_quiet (fail)
            go_wp2
            go_quiet (fail)
            go_wp2
            go_ret
            exact ⟨ret_i HO.out, below_drewN (below_drewN hnx _) _⟩
  · have t : ((n : Int) != (m : Int)) = true := by simp; omega
    by_cases h : n < m
    · have HO : Hid (-1 = ordN A B) := (ordN_lt (lt1 (by omega))).symm
      clear lt1 lt2 hnm
      go_enter Try.func72, Try.ntmps72
      go_wp2
      go_ret
      exact ⟨ret_i HO.out, Below.refl _ _⟩
    · have HO : Hid (1 = ordN A B) := (ordN_gt (lt2 (by omega))).symm
      clear lt1 lt2 hnm
      go_enter Try.func72, Try.ntmps72
      go_wp2
      go_ret
      exact ⟨ret_i HO.out, Below.refl _ _⟩
end Go.Proofs.Ytbdljmboilapeab
