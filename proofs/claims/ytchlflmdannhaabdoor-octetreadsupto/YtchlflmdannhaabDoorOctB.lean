/- Layer 16: slices.Reverse of bytes, octet.lay, Put32, Put64. -/
import Derived.Test.YtchlflmdannhaabDoorOctA
import Derived.Test.YtchlflmdannhaabDoorBaseA
namespace Go.Proofs.YtchlflmdannhaabDoor
open Go.ChangeShapes Go.WideShapes Go.ChangeAt Go.RowKit
open Ep Oc
set_option linter.unusedVariables false
namespace Oc
/-- two bytes change places -/
def swp (l : List UInt8) (i j : Nat) : List UInt8 := (l.set i (l.getD j 0)).set j (l.getD i 0)
theorem swp_len (l : List UInt8) (i j : Nat) : (swp l i j).length = l.length := by unfold swp; simp
theorem swp_app (p t : List UInt8) (i j : Nat) : swp (p ++ t) (p.length + i) (p.length + j) = p ++ swp t i j := by
  unfold swp
  have hg : ∀ k, (p ++ t).getD (p.length + k) 0 = t.getD k 0 := fun k => by
    rw [List.getD_eq_getElem?_getD, List.getD_eq_getElem?_getD, List.getElem?_append_right (by omega), Nat.add_sub_cancel_left]
  rw [hg, hg, List.set_append_right _ _ (by omega), Nat.add_sub_cancel_left, List.set_append_right _ _ (by omega), Nat.add_sub_cancel_left]
/-- the outer q pairs turned -/
def rvk (t : List UInt8) : Nat → List UInt8
  | 0 => t
  | q + 1 => swp (rvk t q) q (t.length - 1 - q)
theorem rvk_len (t : List UInt8) : ∀ q, (rvk t q).length = t.length
  | 0 => rfl
  | q + 1 => by show (swp _ _ _).length = _; rw [swp_len, rvk_len t q]
theorem rvk_four {t : List UInt8} (h : t.length = 4) : rvk t 2 = t.reverse := by
  match t, h with
  | [a, b, c, d], _ => rfl
theorem rvk_eight {t : List UInt8} (h : t.length = 8) : rvk t 4 = t.reverse := by
  match t, h with
  | [a, b, c, d, e, f, g, h], _ => rfl
def bitsAt (n k : Nat) : Nat := 256 ^ (n - k) - 1
theorem bitsAt_next {n k : Nat} (h : k < n) : bitsAt n k / 256 = bitsAt n (k + 1) := by
  unfold bitsAt
  obtain ⟨m, rfl⟩ : ∃ m, n = k + m + 1 := ⟨n - k - 1, by omega⟩
  rw [show k + m + 1 - k = m + 1 by omega, show k + m + 1 - (k + 1) = m by omega, Nat.pow_succ]
  have := Nat.pow_pos (n := m) (show 0 < 256 by decide)
  omega
theorem bitsAt_pos {n k : Nat} (h : k < n) : 0 < bitsAt n k := by
  unfold bitsAt
  have : 256 ^ 1 ≤ 256 ^ (n - k) := Nat.pow_le_pow_right (by decide) (by omega)
  omega
theorem bitsAt_end (n : Nat) : bitsAt n n = 0 := by unfold bitsAt; rw [Nat.sub_self]
theorem bitsAt_le {n k : Nat} (h : k ≤ n) : bitsAt n k ≤ bitsAt n 0 := by
  unfold bitsAt
  have : 256 ^ (n - k) ≤ 256 ^ (n - 0) := Nat.pow_le_pow_right (by decide) (by omega)
  omega
theorem div_next (v k : Nat) : v / 256 ^ k / 256 = v / 256 ^ (k + 1) := by rw [Nat.div_div_eq_div_mul, Nat.pow_succ]
end Oc
theorem Ob.set {w : World} {base g n cap : Nat} {l : List UInt8} (h : Ob w base (.slice (some ⟨g, 0, none⟩) n cap) l) (hn : n = l.length) (j : Nat) (x : UInt8) {X : Int} (hX : X = (x.toNat : Int)) : Ob (w.setCell ⟨g, j, none⟩ (.int .u8 X)) base (.slice (some ⟨g, 0, none⟩) n cap) (l.set j x) := by
  subst hX
  have := Own.set h (by rw [nz_len]; exact hn) j (x.toNat : Int)
  unfold Ob
  rw [show nz (l.set j x) = (nz l).set j (x.toNat : Int) by unfold nz; rw [List.map_set]]
  exact this
theorem Ob.at {w : World} {base g n cap : Nat} {l : List UInt8} (h : Ob w base (.slice (some ⟨g, 0, none⟩) n cap) l) (hn : n = l.length) {j : Nat} (hj : j < n) : w.cell? ⟨g, j, none⟩ = some (.int .u8 ((l.getD j 0).toNat : Int)) := by
  rw [← nz_at]
  exact Own.cellAt h (by rw [nz_len]; exact hn) hj
theorem Ob.free {w : World} {base g n cap : Nat} {l : List UInt8} (h : Ob w base (.slice (some ⟨g, 0, none⟩) n cap) l) (hn : n = l.length) (j : Nat) : w.frozen? ⟨g, j, none⟩ = false := Own.frozenAt h (by rw [nz_len]; exact hn) j
theorem Ob.shape {w : World} {base : Nat} {v : Value} {l : List UInt8} (h : Ob w base v l) (hl : 0 < l.length) : ∃ g c, v = .slice (some ⟨g, 0, none⟩) l.length c ∧ l.length ≤ c ∧ c ≤ 9223372036854775807 ∧ base ≤ g ∧ g < w.heap.size := by
  rcases h.2 with ⟨hv, h0⟩ | ⟨g', cap, cur, hv, hb, hc, hn, hm, _⟩
  · rw [nz_len] at h0; omega
  · rw [nz_len] at hv hn
    refine ⟨g', cap, hv, hn, by unfold maxLen at hm; omega, hb, ?_⟩
    by_cases hlt : g' < w.heap.size
    · exact hlt
    · simp [Array.getElem?_eq_none (Nat.le_of_not_lt hlt)] at hc
end Go.Proofs.YtchlflmdannhaabDoor
