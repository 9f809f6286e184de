/- plumbref02.Mul: as by hand. -/
import Derived.Test.YtbdljmboilapeabRefWord
namespace Go.Proofs.Ytbdljmboilapeab
open Go.ChangeShapes Go.WideShapes Go.ChangeAt Go.RowKit
open Na
set_option linter.unusedVariables false

theorem Own.cellAt {k : IntKind} {w : World} {base g cap n : Nat} {e : TypeId} {xs : List Int} (h : Own k w base e (.slice (some ⟨g, 0, none⟩) n cap) xs) (hn : n = xs.length) {j : Nat} (hj : j < n) : w.cell? ⟨g, j, none⟩ = some (.int k (xs.getD j 0)) := by
  subst hn
  have := World.ownsRow.cellAt h.row j (by omega)
  rw [this, List.getElem?_map]
  simp [List.getElem?_eq_getElem hj, List.getD_eq_getElem?_getD]
theorem Own.frozenAt {k : IntKind} {w : World} {base g cap n : Nat} {e : TypeId} {xs : List Int} (h : Own k w base e (.slice (some ⟨g, 0, none⟩) n cap) xs) (hn : n = xs.length) (j : Nat) : w.frozen? ⟨g, j, none⟩ = false := by
  subst hn; exact World.ownsRow.frozenAt h.row j
theorem Own.set {k : IntKind} {w : World} {base g cap n : Nat} {e : TypeId} {xs : List Int} (h : Own k w base e (.slice (some ⟨g, 0, none⟩) n cap) xs) (hn : n = xs.length) (j : Nat) (x : Int) : Own k (w.setCell ⟨g, j, none⟩ (.int k x)) base e (.slice (some ⟨g, 0, none⟩) n cap) (xs.set j x) := by
  subst hn
  have := (World.ownsRow.stored h.row j (.int k x)).1
  unfold Own
  rw [List.length_set, List.map_set]; exact this
theorem Own.base_le {k : IntKind} {w : World} {base g cap n : Nat} {e : TypeId} {xs : List Int} (h : Own k w base e (.slice (some ⟨g, 0, none⟩) n cap) xs) : base ≤ g := by
  rcases h.2 with ⟨h', _⟩ | ⟨g', cap', cur, h', hb, _⟩
  · simp at h'
  · simp only [Value.slice.injEq, Option.some.injEq, Addr.mk.injEq] at h'
    omega
theorem own_zeros {k : IntKind} {w : World} {base : Nat} {e : TypeId} {v : Value} {n : Nat} (h : w.ownsRow base e 1 v n (madeCells #[Value.int k 0] n).toList) : Own k w base e v (List.replicate n 0) := by
  unfold Own
  rw [List.length_replicate, List.map_replicate, ← toList_madeCells_one]
  exact h

namespace Na
theorem val_set {B : Int} {xs : List Int} {j : Nat} (x : Int) (h : j < xs.length) : val B (xs.set j x) = val B xs + B ^ j * (x - xs.getD j 0) := by
  induction xs generalizing j with
  | nil => simp at h
  | cons y ys ih =>
    cases j with
    | zero => simp [val, List.getD_eq_getElem?_getD]; omega
    | succ i =>
      rw [List.set_cons_succ, val_cons, val_cons, ih (by simpa using h), Int.pow_succ]
      have : (y :: ys).getD (i + 1) 0 = ys.getD i 0 := by simp [List.getD_eq_getElem?_getD]
      rw [this]
      generalize ys.getD i 0 = z
      generalize val B ys = V
      generalize B ^ i = P
      grind
theorem Dg.set {B x : Int} {xs : List Int} (h : Dg B xs) (j : Nat) (hx : 0 ≤ x ∧ x < B) : Dg B (xs.set j x) := fun y hy => by
  rcases List.mem_or_eq_of_mem_set hy with q | q
  · exact h y q
  · subst q; exact hx
theorem val_zeros (B : Int) (n : Nat) : val B (List.replicate n 0) = 0 := by
  induction n with
  | zero => rfl
  | succ n ih => rw [List.replicate_succ, val_cons, ih]; simp
theorem Dg_zeros {B : Int} (hB : 0 < B) (n : Nat) : Dg B (List.replicate n 0) := fun y hy => by
  have := List.eq_of_mem_replicate hy
  subst this; omega
/-- behind i digits of the first -/
def MulInv (ps qs : List Int) (i : Nat) (ds : List Int) : Prop := Dg 65536 ds ∧ ds.length = ps.length + qs.length ∧ val 65536 ds = val 65536 (ps.take i) * val 65536 qs
/-- behind k digits of the second, c carried -/
def RowInv (ps qs : List Int) (i k : Nat) (c : Int) (ds : List Int) : Prop := Dg 65536 ds ∧ ds.length = ps.length + qs.length ∧ 0 ≤ c ∧ c ≤ 65535 ∧ k ≤ qs.length + 1 ∧
  val 65536 ds + 65536 ^ (i + k) * c = val 65536 (ps.take i) * val 65536 qs + 65536 ^ i * (ps.getD i 0 * val 65536 (qs.take k))
theorem mul_start (ps qs : List Int) : MulInv ps qs 0 (List.replicate (ps.length + qs.length) 0) :=
  ⟨Dg_zeros (by omega) _, by simp, by rw [val_zeros]; simp [val]⟩
theorem row_start {ps qs ds : List Int} {i : Nat} (h : MulInv ps qs i ds) : RowInv ps qs i 0 0 ds := by
  obtain ⟨h1, h2, h3⟩ := h
  exact ⟨h1, h2, by omega, by omega, by omega, by simp [h3, val]⟩
theorem take_val {xs : List Int} {k : Nat} (h : k < xs.length) : val 65536 (xs.take (k + 1)) = val 65536 (xs.take k) + 65536 ^ k * xs.getD k 0 := by
  rw [take_next h, val_append, List.length_take, Nat.min_eq_left (by omega)]
  simp [val]
theorem row_step {ps qs ds : List Int} {i k : Nat} {c v : Int} (h : RowInv ps qs i k c ds) (hi : i + k < ds.length) (hk : k < qs.length) (hp : 0 ≤ ps.getD i 0 ∧ ps.getD i 0 ≤ 65535) (hq : 0 ≤ qs.getD k 0 ∧ qs.getD k 0 ≤ 65535)
    (hv : v = ds.getD (i + k) 0 + c + ps.getD i 0 * qs.getD k 0) : RowInv ps qs i (k + 1) (v / 65536) (ds.set (i + k) (v % 65536)) := by
  obtain ⟨h1, h2, h3, h4, h5, h6⟩ := h
  have g := h1.get hi
  have m0 : 0 ≤ ps.getD i 0 * qs.getD k 0 := Int.mul_nonneg hp.1 hq.1
  have m1 : ps.getD i 0 * qs.getD k 0 ≤ 65535 * 65535 := Int.mul_le_mul hp.2 hq.2 hq.1 (by omega)
  refine ⟨h1.set _ (by omega), by rw [List.length_set]; exact h2, by omega, by omega, by omega, ?_⟩
  rw [val_set _ hi, take_val hk]
  have e : (65536 : Int) ^ (i + (k + 1)) = 65536 ^ (i + k) * 65536 := by rw [← Nat.add_assoc, Int.pow_succ]
  have e2 : (65536 : Int) ^ (i + k) = 65536 ^ i * 65536 ^ k := Int.pow_add ..
  have e3 : v = v % 65536 + 65536 * (v / 65536) := by omega
  rw [e]
  have h7 : 65536 ^ i * (ps.getD i 0 * (val 65536 (qs.take k) + 65536 ^ k * qs.getD k 0)) = 65536 ^ i * (ps.getD i 0 * val 65536 (qs.take k)) + 65536 ^ (i + k) * (ps.getD i 0 * qs.getD k 0) := by rw [e2]; grind
  rw [h7]
  generalize (65536 : Int) ^ (i + k) = P at *
  generalize v % 65536 = r at *
  generalize v / 65536 = q at *
  generalize ds.getD (i + k) 0 = d at *
  generalize ps.getD i 0 * qs.getD k 0 = pq at *
  have h8 : P * (r - d) + P * 65536 * q = P * c + P * pq := by
    have : r + 65536 * q = d + c + pq := by omega
    have h9 : r = d + c + pq - 65536 * q := by omega
    subst h9; grind
  omega
theorem row_last {ps qs ds : List Int} {i k : Nat} {c v : Int} (h : RowInv ps qs i k c ds) (hi : i + k < ds.length) (hk : k = qs.length) (hv : v = ds.getD (i + k) 0 + c) : RowInv ps qs i (k + 1) (v / 65536) (ds.set (i + k) (v % 65536)) := by
  obtain ⟨h1, h2, h3, h4, h5, h6⟩ := h
  have g := h1.get hi
  refine ⟨h1.set _ (by omega), by rw [List.length_set]; exact h2, by omega, by omega, by omega, ?_⟩
  have t : qs.take (k + 1) = qs.take k := by rw [List.take_of_length_le (by omega), List.take_of_length_le (by omega)]
  rw [val_set _ hi, t, ← h6]
  have e : (65536 : Int) ^ (i + (k + 1)) = 65536 ^ (i + k) * 65536 := by rw [← Nat.add_assoc, Int.pow_succ]
  rw [e]
  generalize (65536 : Int) ^ (i + k) = P at *
  generalize ds.getD (i + k) 0 = d at *
  have e3 : v = v % 65536 + 65536 * (v / 65536) := by omega
  generalize v % 65536 = r at *
  generalize v / 65536 = q at *
  have h9 : r = d + c - 65536 * q := by omega
  subst h9; grind
/-- the whole of a row -/
theorem row_total {ps qs ds : List Int} {i k : Nat} {c : Int} (h : RowInv ps qs i k c ds) (hi : i < ps.length) (hk : qs.length ≤ k) : val 65536 ds + 65536 ^ (i + k) * c = val 65536 (ps.take (i + 1)) * val 65536 qs := by
  obtain ⟨h1, h2, h3, h4, h5, h6⟩ := h
  rw [h6, List.take_of_length_le hk, take_val hi]
  grind
theorem row_fits {ps qs ds : List Int} {i k : Nat} {c : Int} (hp : Dg 65536 ps) (hq : Dg 65536 qs) (h : RowInv ps qs i k c ds) (hi : i < ps.length) (hk : qs.length ≤ k) (hc : 0 < c) : k = qs.length := by
  have t := row_total h hi hk
  have v0 := val_nonneg (B := 65536) (by omega) h.1
  have l1 := val_lt (B := 65536) (by omega) (hp.take (i + 1))
  rw [List.length_take, Nat.min_eq_left (by omega)] at l1
  have l2 := val_lt (B := 65536) (by omega) hq
  have n1 := val_nonneg (B := 65536) (by omega) (hp.take (i + 1))
  have n2 := val_nonneg (B := 65536) (by omega) hq
  have m : val 65536 (ps.take (i + 1)) * val 65536 qs < 65536 ^ (i + 1) * 65536 ^ qs.length := by
    have p : 0 < (65536 : Int) ^ (i + 1) := Int.pow_pos (by omega)
    have a := Int.mul_le_mul_of_nonneg_right (Int.le_of_lt l1) n2
    have b := Int.mul_lt_mul_of_pos_left l2 p
    omega
  rw [← Int.pow_add] at m
  have q : (65536 : Int) ^ (i + k) * 1 ≤ 65536 ^ (i + k) * c := Int.mul_le_mul_of_nonneg_left (by omega) (Int.le_of_lt (Int.pow_pos (by omega)))
  by_cases g : k = qs.length
  · exact g
  · have := pow_mono (show i + 1 + qs.length ≤ i + k by omega)
    omega
theorem row_done {ps qs ds : List Int} {i k : Nat} (h : RowInv ps qs i k 0 ds) (hi : i < ps.length) (hk : qs.length ≤ k) : MulInv ps qs (i + 1) ds := by
  have t := row_total h hi hk
  exact ⟨h.1, h.2.1, by simpa using t⟩
theorem mul_done {ps qs ds : List Int} (h : MulInv ps qs ps.length ds) : val 65536 ds = val 65536 ps * val 65536 qs := by
  have := h.2.2
  rw [List.take_of_length_le (Nat.le_refl _)] at this
  exact this
theorem dig_len_ge {N : Int} {k : Nat} (h : 18446744073709551616 ^ k ≤ N) : k < (words N).length := by
  have n0 : 0 ≤ N := Int.le_trans (Int.le_of_lt (Int.pow_pos (by omega))) h
  have l := val_lt (B := 18446744073709551616) (by omega) (Dg_words N)
  rw [val_words n0] at l
  by_cases g : k < (words N).length
  · exact g
  · have c1 : ((18446744073709551616 ^ (words N).length : Nat) : Int) = (18446744073709551616 : Int) ^ (words N).length := by simp
    have c2 : ((18446744073709551616 ^ k : Nat) : Int) = (18446744073709551616 : Int) ^ k := by simp
    have : 18446744073709551616 ^ (words N).length ≤ 18446744073709551616 ^ k := Nat.pow_le_pow_right (by omega) (by omega)
    omega
theorem mul_huge {A B : Int} (hA : 0 < A) (hB : 0 < B) (h : 16385 < (digs A).length + (digs B).length) : 4096 < (words (A * B)).length := by
  refine dig_len_ge ?_
  have a := dig_ge hA
  have b := dig_ge hB
  have pa : 0 < (65536 : Int) ^ ((digs A).length - 1) := Int.pow_pos (by omega)
  have pb : 0 < (65536 : Int) ^ ((digs B).length - 1) := Int.pow_pos (by omega)
  have m : (65536 : Int) ^ ((digs A).length - 1) * 65536 ^ ((digs B).length - 1) ≤ A * B := Int.mul_le_mul a b (by omega) (by omega)
  rw [← Int.pow_add] at m
  have e : (18446744073709551616 : Int) ^ 4096 = 65536 ^ (4 * 4096) := by rw [Int.pow_mul]; rfl
  rw [e]
  have := pow_mono (show 4 * 4096 ≤ (digs A).length - 1 + ((digs B).length - 1) by omega)
  omega
end Na
end Go.Proofs.Ytbdljmboilapeab
