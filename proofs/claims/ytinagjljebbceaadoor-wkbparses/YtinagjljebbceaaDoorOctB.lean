/- Layer 16: slices.Reverse of bytes, octet.lay, Put32, Put64. -/
import Derived.Test.YtinagjljebbceaaDoorOctA
import Derived.Test.YtinagjljebbceaaDoorBaseA
namespace Go.Proofs.YtinagjljebbceaaDoor
open Go.ChangeShapes Go.WideShapes Go.ChangeAt Go.RowKit
open Ep Oc
set_option linter.unusedVariables false
namespace Oc
/-- two bytes change places -/
def swp (l : List UInt8) (i j : Nat) : List UInt8 := (l.set i (l.getD j 0)).set j (l.getD i 0)
theorem swp_len (l : List UInt8) (i j : Nat) : (swp l i j).length = l.length := by unfold swp; simp
theorem swp_app (p t : List UInt8) (i j : Nat) : swp (p ++ t) (p.length + i) (p.length + j) = p ++ swp t i j := by
  unfold swp
  have hg : ∀ k, (p ++ t).getD (p.length + k) 0 = t.getD k 0 := fun k => by
    rw [List.getD_eq_getElem?_getD, List.getD_eq_getElem?_getD, List.getElem?_append_right (by omega), Nat.add_sub_cancel_left]
  rw [hg, hg, List.set_append_right _ _ (by omega), Nat.add_sub_cancel_left, List.set_append_right _ _ (by omega), Nat.add_sub_cancel_left]
/-- the outer q pairs turned -/
def rvk (t : List UInt8) : Nat → List UInt8
  | 0 => t
  | q + 1 => swp (rvk t q) q (t.length - 1 - q)
theorem rvk_len (t : List UInt8) : ∀ q, (rvk t q).length = t.length
  | 0 => rfl
  | q + 1 => by show (swp _ _ _).length = _; rw [swp_len, rvk_len t q]
theorem rvk_four {t : List UInt8} (h : t.length = 4) : rvk t 2 = t.reverse := by
  match t, h with
  | [a, b, c, d], _ => rfl
theorem rvk_eight {t : List UInt8} (h : t.length = 8) : rvk t 4 = t.reverse := by
  match t, h with
  | [a, b, c, d, e, f, g, h], _ => rfl
def bitsAt (n k : Nat) : Nat := 256 ^ (n - k) - 1
theorem bitsAt_next {n k : Nat} (h : k < n) : bitsAt n k / 256 = bitsAt n (k + 1) := by
  unfold bitsAt
  obtain ⟨m, rfl⟩ : ∃ m, n = k + m + 1 := ⟨n - k - 1, by omega⟩
  rw [show k + m + 1 - k = m + 1 by omega, show k + m + 1 - (k + 1) = m by omega, Nat.pow_succ]
  have := Nat.pow_pos (n := m) (show 0 < 256 by decide)
  omega
theorem bitsAt_pos {n k : Nat} (h : k < n) : 0 < bitsAt n k := by
  unfold bitsAt
  have : 256 ^ 1 ≤ 256 ^ (n - k) := Nat.pow_le_pow_right (by decide) (by omega)
  omega
theorem bitsAt_end (n : Nat) : bitsAt n n = 0 := by unfold bitsAt; rw [Nat.sub_self]
theorem bitsAt_le {n k : Nat} (h : k ≤ n) : bitsAt n k ≤ bitsAt n 0 := by
  unfold bitsAt
  have : 256 ^ (n - k) ≤ 256 ^ (n - 0) := Nat.pow_le_pow_right (by decide) (by omega)
  omega
theorem div_next (v k : Nat) : v / 256 ^ k / 256 = v / 256 ^ (k + 1) := by rw [Nat.div_div_eq_div_mul, Nat.pow_succ]
end Oc
theorem Ob.set {w : World} {base g n cap : Nat} {l : List UInt8} (h : Ob w base (.slice (some ⟨g, 0, none⟩) n cap) l) (hn : n = l.length) (j : Nat) (x : UInt8) {X : Int} (hX : X = (x.toNat : Int)) : Ob (w.setCell ⟨g, j, none⟩ (.int .u8 X)) base (.slice (some ⟨g, 0, none⟩) n cap) (l.set j x) := by
  subst hX
  have := Own.set h (by rw [nz_len]; exact hn) j (x.toNat : Int)
  unfold Ob
  rw [show nz (l.set j x) = (nz l).set j (x.toNat : Int) by unfold nz; rw [List.map_set]]
  exact this
theorem Ob.at {w : World} {base g n cap : Nat} {l : List UInt8} (h : Ob w base (.slice (some ⟨g, 0, none⟩) n cap) l) (hn : n = l.length) {j : Nat} (hj : j < n) : w.cell? ⟨g, j, none⟩ = some (.int .u8 ((l.getD j 0).toNat : Int)) := by
  rw [← nz_at]
  exact Own.cellAt h (by rw [nz_len]; exact hn) hj
theorem Ob.free {w : World} {base g n cap : Nat} {l : List UInt8} (h : Ob w base (.slice (some ⟨g, 0, none⟩) n cap) l) (hn : n = l.length) (j : Nat) : w.frozen? ⟨g, j, none⟩ = false := Own.frozenAt h (by rw [nz_len]; exact hn) j
theorem Ob.shape {w : World} {base : Nat} {v : Value} {l : List UInt8} (h : Ob w base v l) (hl : 0 < l.length) : ∃ g c, v = .slice (some ⟨g, 0, none⟩) l.length c ∧ l.length ≤ c ∧ c ≤ 9223372036854775807 ∧ base ≤ g ∧ g < w.heap.size := by
  rcases h.2 with ⟨hv, h0⟩ | ⟨g', cap, cur, hv, hb, hc, hn, hm, _⟩
  · rw [nz_len] at h0; omega
  · rw [nz_len] at hv hn
    refine ⟨g', cap, hv, hn, by unfold maxLen at hm; omega, hb, ?_⟩
    by_cases hlt : g' < w.heap.size
    · exact hlt
    · simp [Array.getElem?_eq_none (Nat.le_of_not_lt hlt)] at hc
set_option maxHeartbeats 3200000 in
set_option maxRecDepth 100000 in
theorem reverse8_any {w : World} {base g N cap o m c : Nat} {p t : List UInt8} (hO : Ob w base (.slice (some ⟨g, 0, none⟩) N cap) (p ++ t)) (hN : N = (p ++ t).length) (ho : p.length = o) (hm : t.length = m) (hm2 : m = 4 ∨ m = 8) (hN9 : N ≤ 1000000000) (hc : m ≤ c) :
    Calls Tryd.prog 114 #[.slice (some ⟨g, o, none⟩) m c] w fun e w' => e = .returned (.tuple #[]) ∧ Ob w' base (.slice (some ⟨g, 0, none⟩) N cap) (p ++ t.reverse) ∧ Below base w w' := by
  have HN : Hid (N = o + m) := by show _ = _; rw [hN, List.length_append, ho, hm]
  have HO : Hid (p.length = o) := ho
  have HM : Hid (t.length = m) := hm
  have HE : Hid (rvk t (m / 2) = t.reverse) := by
    show _ = _
    rcases hm2 with h | h
    · rw [h, rvk_four (by omega)]
    · rw [h, rvk_eight (by omega)]
  have hoN : o + m ≤ N := by rw [HN.out]; exact Nat.le_refl _
  have hbg : base ≤ g := Own.base_le hO
  have hm4 : 4 ≤ m := by omega
  have hm8 : m ≤ 8 := by omega
  have HP : Hid (m = 4 ∨ m = 8) := hm2
  clear hN ho hm hm2
  go_enter Tryd.func114, Tryd.ntmps114
  go_wp2
  go_loopw [2, 3] (fun i j wr => ∃ q : Nat, i = .int .i64 q ∧ j = .int .i64 ((m : Int) - 1 - q) ∧ 2 * q ≤ m ∧ Ob wr base (.slice (some ⟨g, 0, none⟩) N cap) (p ++ rvk t q) ∧ Below base w wr) (fun i _ _ => m - (intOf i).toNat)
  case atStart => exact ⟨0, rfl, by simp, by omega, hO, Below.refl _ _⟩
  case round =>
    obtain ⟨q, rfl, rfl, hq, hO1, hb1⟩ := hrel
    clear hO
    by_cases hlt : 2 * q + 1 < m
    · have hlen : N = (p ++ rvk t q).length := by rw [List.length_append, rvk_len, HO.out, HM.out]; exact HN.out
      obtain ⟨r, hr⟩ : ∃ r : Nat, (m : Int) - 1 - q = (r : Int) := ⟨m - 1 - q, by omega⟩
      have hr1 : q < r := by omega
      have hr2 : r < m := by omega
      have HR : Hid (r = t.length - 1 - q) := by show _ = _; rw [HM.out]; omega
      have HR2 : Hid ((m : Int) - 1 - ((q + 1 : Nat) : Int) = (r : Int) - 1) := by show _ = _; omega
      have c1 := hO1.at hlen (j := o + q) (by omega)
      have c2 := hO1.at hlen (j := o + r) (by omega)
      have f1 := hO1.free hlen (o + q)
      have f2 := hO1.free hlen (o + r)
      have hO2 := (hO1.set hlen (o + q) ((p ++ rvk t q).getD (o + r) 0) rfl).set (by rw [List.length_set]; exact hlen) (o + r) ((p ++ rvk t q).getD (o + q) 0) rfl
      have HS : Hid (((p ++ rvk t q).set (o + q) ((p ++ rvk t q).getD (o + r) 0)).set (o + r) ((p ++ rvk t q).getD (o + q) 0) = p ++ rvk t (q + 1)) := by
        show swp (p ++ rvk t q) (o + q) (o + r) = p ++ swp (rvk t q) q (t.length - 1 - q)
        rw [← HR.out, ← HO.out, swp_app]
      rw [HS.out] at hO2
      have hne1 : ¬ o + q = o + r := by omega
      have hne2 : ¬ o + r = o + q := by omega
      generalize ((p ++ rvk t q).getD (o + q) 0) = x at *
      generalize ((p ++ rvk t q).getD (o + r) 0) = y at *
      have hb2 : Below base w ((wr.setCell ⟨g, o + q, none⟩ (.int .u8 (y.toNat : Int))).setCell ⟨g, o + r, none⟩ (.int .u8 (x.toNat : Int))) := (hb1.setCell hbg _).setCell hbg _
      have hri : (r : Int).toNat = r := by omega
      have hr9 : (r : Int) ≤ 100 := by omega
      have hr0 : 0 ≤ (r : Int) := by omega
      have hqr : (q : Int) < (r : Int) := by omega
      have hq9 : (q : Int) ≤ 100 := by omega
      rw [hr]
      clear hO1 hlen HS hr HR hb1
      go_wp2
      go_region
      have hO3 := hO2.later (below_drewN (Below.refl _ _) 1)
      have hb3 := below_drewN hb2 1
      clear hO2 hb2
      generalize hW : ((wr.setCell ⟨g, o + q, none⟩ (.int .u8 (y.toNat : Int))).setCell ⟨g, o + r, none⟩ (.int .u8 (x.toNat : Int))).drew = w3
      have hO4 : Ob w3 base (.slice (some ⟨g, 0, none⟩) N cap) (p ++ rvk t (q + 1)) := by rw [← hW]; exact hO3
      have hb4 : Below base w w3 := by rw [← hW]; exact hb3
      clear hO3 hb3 hW
      go_wp2
      go_roundw
      case rel => exact ⟨q + 1, by go_num, by rw [HR2.out], by omega, hO4, hb4⟩
      case measure => simp [intOf]; omega
    · have HQ : Hid (q = m / 2) := by show _ = _; rcases HP.out with h | h <;> omega
      rw [HQ.out, HE.out] at hO1
      clear HQ
      have hnl : ¬ (q : Int) < (m : Int) - 1 - q := by omega
      go_wp2
      go_end0
      exact ⟨rfl, hO1, hb1⟩
set_option maxHeartbeats 3200000 in
set_option maxRecDepth 100000 in
theorem lay32_any {w : World} {a : Option Addr} {n c V : Nat} {l : List UInt8} {little : Bool} (h : Rb w a n c l) (hn : n ≤ 100000000) (hV : V < 256 ^ 4) :
    Calls Tryd.prog 92 #[.slice a n c, .int .u32 (V : Int), .bool little] w fun e w' => ∃ v, e = .returned v ∧ Ob w' w.heap.size v (l ++ ord 4 V little) ∧ Below w.heap.size w w' := by
  have HL : Hid (l.length = n) := h.len
  have hVM : V ≤ 4294967295 := Nat.le_of_lt_succ hV
  have hc9 := h.2
  have hx0 : bits BinOp.xor IntKind.u32 IntKind.u32.max 0 = 4294967295 := by decide
  go_enter Tryd.func92, Tryd.ntmps92
  go_wp2_with (at_make; refine wpList_make8 rfl _ _ rfl (n := 0) (k := n + 8) rfl rfl rfl (by omega) (by omega) (by omega) ?_)
  intro w1 hO1 hb1
  go_wp2_with (at_builtin; refine wpList_app8 rfl _ _ rfl rfl hO1 rfl (h.later hb1) (by simp; omega) hb1.size ?_)
  intro v2 w2 hO2 hg2 hkp
  clear hkp
  have hb2 := hO1.below hb1 (Nat.le_refl _) hg2
  clear hg2 hO1 hb1
  go_wp2
  go_loopw [1, 7, 8] (fun x o b wr => ∃ k : Nat, k ≤ 4 ∧ x = .int .u32 ((V / 256 ^ k : Nat) : Int) ∧ b = .int .u32 ((bitsAt 4 k : Nat) : Int) ∧ Ob wr w.heap.size o (l ++ le k V) ∧ Below w.heap.size w wr) (fun _ _ b _ => (intOf b).toNat)
  case atStart => exact ⟨0, by omega, by simp, rfl, by rw [show le 0 V = [] from rfl, List.append_nil]; exact hO2, hb2⟩
  case round =>
    obtain ⟨k, hk, rfl, rfl, hO3, hb3⟩ := hrel
    clear hO2 hb2
    have hble := bitsAt_le hk
    have hb0 : bitsAt 4 0 = 4294967295 := by decide
    rw [hb0] at hble
    by_cases hlt : k < 4
    · have hpos := bitsAt_pos hlt
      have HB : Hid (((bitsAt 4 k : Nat) : Int) / 256 = ((bitsAt 4 (k + 1) : Nat) : Int)) := by show _ = _; rw [← bitsAt_next hlt]; omega
      have HX : Hid (((V / 256 ^ k : Nat) : Int) / 256 = ((V / 256 ^ (k + 1) : Nat) : Int)) := by show _ = _; rw [← div_next]; omega
      have HA : Hid (l ++ le (k + 1) V = l ++ (le k V ++ [UInt8.ofNat (V / 256 ^ k % 256)])) := by show _ = _; rw [le_next]
      have hx9 : V / 256 ^ k ≤ 4294967295 := Nat.le_trans (Nat.div_le_self _ _) hVM
      have HN : Hid ((l ++ le k V).length ≤ n + 4) := by show _ ≤ _; rw [List.length_append, HL.out, le_len]; omega
      have hlt2 : bitsAt 4 (k + 1) < bitsAt 4 k := by rw [← bitsAt_next hlt]; omega
      generalize bitsAt 4 k = B at *
      generalize V / 256 ^ k = X at *
      have hX8 : Hid (((X : Int) % 256) = (((UInt8.ofNat (X % 256)).toNat : Nat) : Int)) := by show _ = _; rw [UInt8.toNat_ofNat', show (2 : Nat) ^ 8 = 256 from rfl]; omega
      have t1 : ((B : Int) != 0) = true := by simp; omega
      go_wp2_with (at_builtin; refine wpList_app8 rfl _ _ rfl rfl (hO3.alloc _) rfl (rb_one wr (x := UInt8.ofNat (X % 256)) hX8.out) (by have := HN.out; omega) (by simp; have := hb3.size; omega) ?_)
      intro v4 w4 hO4 hg4 hkp
      clear hkp
      have hb4 := (hO3.alloc _).below (hb3.alloc hb3.size _) (Nat.le_refl _) hg4
      rw [← HA.out] at hO4
      clear hg4 hO3 hb3
      go_wp2
      go_roundw
      case rel => exact ⟨k + 1, by omega, by rw [← HX.out], by rw [← HB.out], hO4, hb4⟩
      case measure => simp [intOf]; omega
    · have hkn : k = 4 := by omega
      subst hkn
      have t1 : (((bitsAt 4 4 : Nat) : Int) != 0) = false := by rw [bitsAt_end]; rfl
      have HN : Hid ((l ++ le 4 V).length = n + 4) := by show _ = _; rw [List.length_append, HL.out, le_len]
      have hnn := HN.out
      generalize bitsAt 4 4 = B at *
      generalize V / 256 ^ 4 = X at *
      obtain ⟨g4, c4, rfl, hc4, hc4', hg4, hg4'⟩ := hO3.shape (by omega)
      rw [hnn] at hO3 hc4
      rw [hnn]
      cases little
      · have hR := reverse8_any (o := n) (m := 4) (c := c4 - n) hO3 hnn.symm HL.out (le_len _ _) (by omega) (by omega) (by omega)
        clear hnn HN
        go_wp2_with fail
        refine hR.mono ?_
        rintro e w5 ⟨rfl, hO5, hb5⟩
        have hb6 := hb3.trans hb5
        clear hR hb5 hb3 hO3
        go_wp2
        go_ret
        exact ⟨_, rfl, hO5, hb6⟩
      · clear hnn HN
        go_wp2
        go_ret
        exact ⟨_, rfl, hO3, hb3⟩
set_option maxHeartbeats 1600000 in
theorem put32_any {w : World} {a : Option Addr} {n c V : Nat} {l : List UInt8} {little : Bool} (h : Rb w a n c l) (hn : n ≤ 100000000) (hV : V < 256 ^ 4) :
    Calls Tryd.prog 64 #[.slice a n c, .int .u32 (V : Int), .bool little] w fun e w' => ∃ v, e = .returned v ∧ Ob w' w.heap.size v (l ++ ord 4 V little) ∧ Below w.heap.size w w' := by
  have hL := lay32_any (little := little) h hn hV
  go_enter Tryd.func64, Tryd.ntmps64
  go_wp2_with fail
  refine hL.mono ?_
  rintro e w' ⟨v, rfl, hO, hb⟩
  clear hL
  go_wp2
  go_ret
  exact ⟨_, rfl, hO, hb⟩
set_option maxHeartbeats 3200000 in
set_option maxRecDepth 100000 in
theorem lay64_any {w : World} {a : Option Addr} {n c V : Nat} {l : List UInt8} {little : Bool} (h : Rb w a n c l) (hn : n ≤ 100000000) (hV : V < 256 ^ 8) :
    Calls Tryd.prog 123 #[.slice a n c, .int .u64 (V : Int), .bool little] w fun e w' => ∃ v, e = .returned v ∧ Ob w' w.heap.size v (l ++ ord 8 V little) ∧ Below w.heap.size w w' := by
  have HL : Hid (l.length = n) := h.len
  have hVM : V ≤ 18446744073709551615 := Nat.le_of_lt_succ hV
  have hc9 := h.2
  have hx0 : bits BinOp.xor IntKind.u64 IntKind.u64.max 0 = 18446744073709551615 := by decide
  go_enter Tryd.func123, Tryd.ntmps123
  go_wp2_with (at_make; refine wpList_make8 rfl _ _ rfl (n := 0) (k := n + 8) rfl rfl rfl (by omega) (by omega) (by omega) ?_)
  intro w1 hO1 hb1
  go_wp2_with (at_builtin; refine wpList_app8 rfl _ _ rfl rfl hO1 rfl (h.later hb1) (by simp; omega) hb1.size ?_)
  intro v2 w2 hO2 hg2 hkp
  clear hkp
  have hb2 := hO1.below hb1 (Nat.le_refl _) hg2
  clear hg2 hO1 hb1
  go_wp2
  go_loopw [1, 7, 8] (fun x o b wr => ∃ k : Nat, k ≤ 8 ∧ x = .int .u64 ((V / 256 ^ k : Nat) : Int) ∧ b = .int .u64 ((bitsAt 8 k : Nat) : Int) ∧ Ob wr w.heap.size o (l ++ le k V) ∧ Below w.heap.size w wr) (fun _ _ b _ => (intOf b).toNat)
  case atStart => exact ⟨0, by omega, by simp, rfl, by rw [show le 0 V = [] from rfl, List.append_nil]; exact hO2, hb2⟩
  case round =>
    obtain ⟨k, hk, rfl, rfl, hO3, hb3⟩ := hrel
    clear hO2 hb2
    have hble := bitsAt_le hk
    have hb0 : bitsAt 8 0 = 18446744073709551615 := by decide
    rw [hb0] at hble
    by_cases hlt : k < 8
    · have hpos := bitsAt_pos hlt
      have HB : Hid (((bitsAt 8 k : Nat) : Int) / 256 = ((bitsAt 8 (k + 1) : Nat) : Int)) := by show _ = _; rw [← bitsAt_next hlt]; omega
      have HX : Hid (((V / 256 ^ k : Nat) : Int) / 256 = ((V / 256 ^ (k + 1) : Nat) : Int)) := by show _ = _; rw [← div_next]; omega
      have HA : Hid (l ++ le (k + 1) V = l ++ (le k V ++ [UInt8.ofNat (V / 256 ^ k % 256)])) := by show _ = _; rw [le_next]
      have hx9 : V / 256 ^ k ≤ 18446744073709551615 := Nat.le_trans (Nat.div_le_self _ _) hVM
      have HN : Hid ((l ++ le k V).length ≤ n + 8) := by show _ ≤ _; rw [List.length_append, HL.out, le_len]; omega
      have hlt2 : bitsAt 8 (k + 1) < bitsAt 8 k := by rw [← bitsAt_next hlt]; omega
      generalize bitsAt 8 k = B at *
      generalize V / 256 ^ k = X at *
      have hX8 : Hid (((X : Int) % 256) = (((UInt8.ofNat (X % 256)).toNat : Nat) : Int)) := by show _ = _; rw [UInt8.toNat_ofNat', show (2 : Nat) ^ 8 = 256 from rfl]; omega
      have t1 : ((B : Int) != 0) = true := by simp; omega
      go_wp2_with (at_builtin; refine wpList_app8 rfl _ _ rfl rfl (hO3.alloc _) rfl (rb_one wr (x := UInt8.ofNat (X % 256)) hX8.out) (by have := HN.out; omega) (by simp; have := hb3.size; omega) ?_)
      intro v4 w4 hO4 hg4 hkp
      clear hkp
      have hb4 := (hO3.alloc _).below (hb3.alloc hb3.size _) (Nat.le_refl _) hg4
      rw [← HA.out] at hO4
      clear hg4 hO3 hb3
      go_wp2
      go_roundw
      case rel => exact ⟨k + 1, by omega, by rw [← HX.out], by rw [← HB.out], hO4, hb4⟩
      case measure => simp [intOf]; omega
    · have hkn : k = 8 := by omega
      subst hkn
      have t1 : (((bitsAt 8 8 : Nat) : Int) != 0) = false := by rw [bitsAt_end]; rfl
      have HN : Hid ((l ++ le 8 V).length = n + 8) := by show _ = _; rw [List.length_append, HL.out, le_len]
      have hnn := HN.out
      generalize bitsAt 8 8 = B at *
      generalize V / 256 ^ 8 = X at *
      obtain ⟨g4, c4, rfl, hc4, hc4', hg4, hg4'⟩ := hO3.shape (by omega)
      rw [hnn] at hO3 hc4
      rw [hnn]
      cases little
      · have hR := reverse8_any (o := n) (m := 8) (c := c4 - n) hO3 hnn.symm HL.out (le_len _ _) (by omega) (by omega) (by omega)
        clear hnn HN
        go_wp2_with fail
        refine hR.mono ?_
        rintro e w5 ⟨rfl, hO5, hb5⟩
        have hb6 := hb3.trans hb5
        clear hR hb5 hb3 hO3
        go_wp2
        go_ret
        exact ⟨_, rfl, hO5, hb6⟩
      · clear hnn HN
        go_wp2
        go_ret
        exact ⟨_, rfl, hO3, hb3⟩
set_option maxHeartbeats 1600000 in
theorem put64_any {w : World} {a : Option Addr} {n c V : Nat} {l : List UInt8} {little : Bool} (h : Rb w a n c l) (hn : n ≤ 100000000) (hV : V < 256 ^ 8) :
    Calls Tryd.prog 115 #[.slice a n c, .int .u64 (V : Int), .bool little] w fun e w' => ∃ v, e = .returned v ∧ Ob w' w.heap.size v (l ++ ord 8 V little) ∧ Below w.heap.size w w' := by
  have hL := lay64_any (little := little) h hn hV
  go_enter Tryd.func115, Tryd.ntmps115
  go_wp2_with fail
  refine hL.mono ?_
  rintro e w' ⟨v, rfl, hO, hb⟩
  clear hL
  go_wp2
  go_ret
  exact ⟨_, rfl, hO, hb⟩
end Go.Proofs.YtinagjljebbceaaDoor
