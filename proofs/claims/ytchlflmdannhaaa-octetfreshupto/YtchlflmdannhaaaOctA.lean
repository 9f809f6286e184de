/- Layer 16, the law's own: same, lent, kept over bytes. -/
import Derived.Test.YtchlflmdannhaaaByRow
import Derived.Test.YtchlflmdannhaaaBaseA
import Derived.Test.YtchlflmdannhaaaOctMath
namespace Go.Proofs.Ytchlflmdannhaaa
open Go.ChangeShapes Go.WideShapes Go.ChangeAt Go.RowKit
open Ep Oc
set_option linter.unusedVariables false
namespace Ep
theorem takeD {xs : List UInt8} {k : Nat} (h : k < xs.length) : xs.take (k + 1) = xs.take k ++ [xs.getD k 0] := by
  rw [List.take_succ_eq_append_getElem h]
  simp [List.getD_eq_getElem?_getD, List.getElem?_eq_getElem h]
theorem same_take8 {xs ys : List UInt8} {k : Nat} (h : xs.take k = ys.take k) (hx : k < xs.length) (hy : k < ys.length) (he : xs.getD k 0 = ys.getD k 0) : xs.take (k + 1) = ys.take (k + 1) := by
  rw [takeD hx, takeD hy, h, he]
end Ep
theorem drewN_more (w : World) (a b : Nat) : (w.drewN a).drewN b = w.drewN (a + b) := by
  simp [World.drewN, Nat.add_assoc]
set_option maxHeartbeats 1600000 in
set_option maxRecDepth 100000 in
theorem same16_any {w : World} {a b : Option Addr} {n c m d : Nat} {xs ys : List UInt8} (hr1 : Rb w a n c xs) (hr2 : Rb w b m d ys) :
    Calls Try.prog 8 #[.slice a n c, .slice b m d] w fun e w' => e = .returned (.bool (decide (xs = ys))) ∧ ∃ k, w' = w.drewN k := by
  have hl1 := hr1.len
  have hl2 := hr2.len
  have hc1 := hr1.2
  have hc2 := hr2.2
  by_cases hnm : n = m
  · have t : ((n : Int) != (m : Int)) = false := by simp [hnm]
    have hnm' : n ≤ m := by omega
    have hmn' : m ≤ n := by omega
    have HL : Hid (xs.length = n) := hl1
    have HM : Hid (ys.length = m) := hl2
    clear hnm hl1 hl2
    go_enter Try.func8, Try.ntmps8
    go_wp2
    go_loopw [5] (fun i wr => ∃ k q : Nat, k ≤ n ∧ i = .int .i64 k ∧ Hid (xs.take k = ys.take k) ∧ wr = w.drewN q) (fun i _ => n - (intOf i).toNat)
    case atStart => exact ⟨0, 0, Nat.zero_le _, rfl, (by simp : xs.take 0 = ys.take 0), rfl⟩
    case round =>
      obtain ⟨k, q, hk, rfl, hs, rfl⟩ := hrel
      by_cases hlt : k < n
      · obtain ⟨b1, o1, rfl, hb1, hd1⟩ := hr1.cells (by omega)
        obtain ⟨b2, o2, rfl, hb2, hd2⟩ := hr2.cells (by omega)
        have hx1 := hd1 k hlt
        have hx2 := hd2 k (by omega)
        have hst := same_take8 hs.out (by rw [HL.out]; exact hlt) (by rw [HM.out]; omega)
        have hne : xs.getD k 0 ≠ ys.getD k 0 → ¬ xs = ys := fun h e => h (by rw [e])
        generalize xs.getD k 0 = x at *
        generalize ys.getD k 0 = y at *
        have hlt2 : k < m := by omega
        clear hd1 hd2 hr1 hr2
        by_cases e : x = y
        · have t2 : ((x.toNat : Int) != (y.toNat : Int)) = false := by simp [e]
          have HS : Hid (xs.take (k + 1) = ys.take (k + 1)) := hst e
          clear hst hne e hs
          go_wp2
          go_quiet (fail)
          go_wp2
          go_roundw
          case rel => exact ⟨k + 1, _, by omega, by go_num, HS, rfl⟩
          case measure => simp [intOf]; omega
        · have t2 : ((x.toNat : Int) != (y.toNat : Int)) = true := by
            rw [bne_iff_ne]
            exact fun h => e (UInt8.toNat_inj.1 (by omega))
          have HN : Hid (decide (xs = ys) = false) := decide_eq_false (hne e)
          clear hst hne e hs
          go_wp2
          go_quiet (fail)
          go_wp2
          go_ret
          exact ⟨ret_bool' HN.out.symm, _, drewN_more _ _ _⟩
      · have HE : Hid (decide (xs = ys) = true) := decide_eq_true (by
          have h := hs.out
          have h1 := HL.out
          have h2 := HM.out
          rw [List.take_of_length_le (by omega), List.take_of_length_le (by omega)] at h
          exact h)
        go_wp2
        go_ret
        exact ⟨ret_bool' HE.out.symm, _, rfl⟩
  · have t : ((n : Int) != (m : Int)) = true := by simp; omega
    have HN : Hid (decide (xs = ys) = false) := decide_eq_false (fun e => hnm (by rw [← hl1, ← hl2, e]))
    clear hnm
    go_enter Try.func8, Try.ntmps8
    go_wp2
    go_ret
    exact ⟨ret_bool' HN.out.symm, 0, rfl⟩
theorem same16_yes {w : World} {a b : Option Addr} {n c m d : Nat} {xs : List UInt8} (hr1 : Rb w a n c xs) (hr2 : Rb w b m d xs) :
    Calls Try.prog 8 #[.slice a n c, .slice b m d] w fun e w' => e = .returned (.bool true) ∧ ∃ k, w' = w.drewN k := by
  have h := same16_any hr1 hr2
  rwa [decide_eq_true rfl] at h
/-- a copy with two marks behind it -/
def Oc.lentL (l : List UInt8) : List UInt8 := l ++ [77, 88]
theorem Oc.lentL_len (l : List UInt8) : (lentL l).length = l.length + 2 := by unfold lentL; simp
theorem Oc.lentL_take (l : List UInt8) {n : Nat} (h : l.length = n) : (lentL l).take n = l := by unfold lentL; rw [List.take_append, List.take_of_length_le (by omega)]; simp [h]
set_option maxHeartbeats 1600000 in
set_option maxRecDepth 100000 in
theorem lent16_any {w : World} {a : Option Addr} {n c : Nat} {l : List UInt8} (h : Rb w a n c l) (hn : n ≤ 100000000) :
    Calls Try.prog 5 #[.slice a n c] w fun e w' => ∃ v, e = .returned v ∧ Ob w' w.heap.size v (lentL l) ∧ Below w.heap.size w w' := by
  have hl := h.len
  have HL : Hid (l.length = n) := hl
  clear hl
  go_enter Try.func5, Try.ntmps5
  go_wp2_with (at_builtin; refine wpList_app8 rfl _ _ rfl rfl (Ob.nil w w.heap.size) rfl h (by simp; omega) (Nat.le_refl _) ?_)
  intro v1 w1 hO hg hkp
  clear hkp
  have hb1 : Below w.heap.size w w1 := (Ob.nil w w.heap.size).below (Below.refl _ _) (Nat.le_refl _) hg
  clear hg h
  go_wp2_with (at_builtin; refine wpList_app8 rfl _ _ rfl rfl (hO.alloc _) rfl (rb_two w1 (x := 77) (y := 88) rfl rfl) (by rw [HL.out]; omega) (by simp; have := hb1.size; omega) ?_)
  intro v2 w2 hO2 hg2 hkp
  clear hkp
  have hb2 := (hO.alloc _).below (hb1.alloc hb1.size _) (Nat.le_refl _) hg2
  clear hg2 hO hb1
  go_wp2
  go_ret
  exact ⟨_, rfl, hO2, hb2⟩
set_option maxHeartbeats 1600000 in
set_option maxRecDepth 100000 in
theorem kept16_any {w : World} {a b : Option Addr} {n m c d : Nat} {l : List UInt8} (h1 : Rb w a m c (lentL l)) (h2 : Rb w b n d l) (hn : n ≤ 100000000) :
    Calls Try.prog 10 #[.slice a m c, .slice b n d] w fun e w' => e = .returned (.bool true) ∧ ∃ k, w' = w.drewN k := by
  have hl := h2.len
  have hm : m = n + 2 := by rw [← h1.len, lentL_len, hl]
  subst hm
  have hcc := h1.2
  have hdd := h2.2
  have hcut := h1.take (k := n) (c' := c) (by omega) (by omega) (by omega)
  rw [lentL_take l hl] at hcut
  have hs := same16_yes hcut h2
  obtain ⟨g, o, rfl, hg, hc⟩ := h1.cells (by omega)
  have k0 := hc n (by omega)
  have k1 := hc (n + 1) (by omega)
  have g0 : (lentL l).getD n 0 = 77 := by unfold lentL; simp [List.getD_eq_getElem?_getD, hl]
  have g1 : (lentL l).getD (n + 1) 0 = 88 := by unfold lentL; rw [List.getD_eq_getElem?_getD, List.getElem?_append_right (by omega)]; simp [hl]
  rw [g0] at k0
  rw [g1] at k1
  have i1 : ((n : Int) + 1).toNat = n + 1 := by omega
  have e0 : (((77 : UInt8).toNat : Nat) : Int) = 77 := rfl
  have e1 : (((88 : UInt8).toNat : Nat) : Int) = 88 := rfl
  rw [e0] at k0
  rw [e1] at k1
  clear hc h1 h2 hcut g0 g1 hl e0 e1
  go_enter Try.func10, Try.ntmps10
  go_wp2_with fail
  refine hs.mono ?_
  rintro e w2 ⟨rfl, q, rfl⟩
  clear hs
  go_wp2
  go_ret
  exact ⟨rfl, q, rfl⟩
end Go.Proofs.Ytchlflmdannhaaa
