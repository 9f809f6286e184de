/- package nat: trim, answer, Norm, From, Word. -/
import Derived.Test.YtbdljmboilapeabNatVal
import Derived.Laws.CopyRow
import Derived.Laws.IdiomCopy
namespace Go.Proofs.Ytbdljmboilapeab
open Go.ChangeShapes Go.WideShapes Go.ChangeAt Go.RowKit
open Na
set_option linter.unusedVariables false

/-- a slice of words, with room that fits -/
def RowC (w : World) (a : Option Addr) (n cap : Nat) (xs : List Int) : Prop := RowAt .u64 w a n xs ∧ n ≤ cap ∧ cap ≤ maxLen
theorem RowC.later {w w' : World} {a : Option Addr} {n cap : Nat} {xs : List Int} (h : RowC w a n cap xs) (hb : Below w.heap.size w w') : RowC w' a n cap xs := ⟨h.1.later hb, h.2⟩
theorem Own.readsC {w : World} {base : Nat} {e : TypeId} {v : Value} {xs : List Int} (h : Own .u64 w base e v xs) : ∃ a cap, v = .slice a xs.length cap ∧ RowC w a xs.length cap xs := by
  obtain ⟨a, cap, hv, h1, h2, h3⟩ := h.reads
  exact ⟨a, cap, hv, h3, h1, h2⟩
theorem RowAt.cut {k : IntKind} {w : World} {a : Option Addr} {n : Nat} {xs : List Int} (h : RowAt k w a n xs) {m : Nat} (hm : m ≤ n) : RowAt k w a m (xs.take m) := by
  obtain ⟨h1, h2⟩ := h
  refine ⟨by rw [List.length_take]; omega, ?_⟩
  rcases h2 with h2 | ⟨b, off, ha, hlt, hc⟩
  · left; omega
  · refine Or.inr ⟨b, off, ha, hlt, fun i hi => ?_⟩
    rw [hc i (by omega)]
    have : (xs.take m).getD i 0 = xs.getD i 0 := by simp [List.getD_eq_getElem?_getD, List.getElem?_take_of_lt hi]
    rw [this]

namespace Na
theorem strip_take (xs : List Int) : ∃ m, m ≤ xs.length ∧ strip xs = xs.take m := by
  induction xs with
  | nil => exact ⟨0, Nat.le_refl _, rfl⟩
  | cons x xs ih =>
    obtain ⟨m, hm, hs⟩ := ih
    unfold strip
    split
    · exact ⟨0, Nat.zero_le _, rfl⟩
    · exact ⟨m + 1, by simp; omega, by rw [hs]; rfl⟩
theorem words_take {xs : List Int} (h : Ws xs) : xs.take (words (num xs)).length = words (num xs) := by
  obtain ⟨m, hm, hs⟩ := strip_take xs
  rw [words_strip h] at hs
  have : (words (num xs)).length = m := by rw [hs, List.length_take]; omega
  rw [this]; exact hs.symm
end Na
/-- the number's own words, in the memory of the list -/
theorem RowC.own_words {w : World} {a : Option Addr} {n cap : Nat} {xs : List Int} (h : RowC w a n cap xs) (hx : Ws xs) : RowAt .u64 w a (words (num xs)).length (words (num xs)) := by
  have := h.1.cut (m := (words (num xs)).length) (by have := words_le hx; have := h.1.1; omega)
  rw [words_take hx] at this
  exact this

theorem trim0_any {a : Option Addr} {n cap : Nat} {xs : List Int} {w : World} (hrow : RowAt .u64 w a n xs) (hn : n * 8 ≤ 140737488351232) (hcap : n ≤ cap) (hcap' : cap ≤ maxLen) :
    Calls Try.prog 66 #[.slice a n cap] w fun e w' => (∃ m : Nat, e = .returned (.slice a m cap) ∧ m ≤ n ∧ strip xs = xs.take m) ∧ w = w' := by
  have hlen := hrow.1
  unfold maxLen at hcap'
  go_enter Try.func66, Try.ntmps66
  go_wp2
  go_loop [3] (fun i => ∃ m : Nat, m ≤ n ∧ i = .int .i64 m ∧ Hid (strip xs = strip (xs.take m))) (fun i => (intOf i).toNat)
  case atStart => exact ⟨n, Nat.le_refl _, rfl, (by rw [List.take_of_length_le (by omega)] : strip xs = strip (xs.take n))⟩
  case round =>
    obtain ⟨m, hm, rfl, hs⟩ := hrel
    by_cases h0 : m = 0
    · subst h0
      have HF : Hid (strip xs = xs.take 0) := take_strip (Nat.zero_le _) hs.out (Or.inl rfl)
      go_wp2
      go_ret
      exact ⟨⟨0, rfl, Nat.zero_le _, HF.out⟩, rfl⟩
    · obtain ⟨b, off, rfl, hbB, hc⟩ := hrow.at (by omega)
      have hcx := hc (m - 1) (by omega)
      have hl : Hid (xs.take m = xs.take (m - 1) ++ [xs.getD (m - 1) 0]) := by
        have := take_next (xs := xs) (k := m - 1) (by omega)
        rw [Nat.sub_add_cancel (by omega)] at this
        exact this
      have HF := fun h => take_strip (xs := xs) (m := m) (by omega) hs.out (Or.inr h)
      obtain ⟨j, rfl⟩ : ∃ j, m = j + 1 := ⟨m - 1, by omega⟩
      simp only [Nat.add_sub_cancel] at hcx hl HF
      have hgo : xs.getD j 0 = 0 → strip xs = strip (xs.take j) := fun h => by rw [hs.out, hl.out, h, strip_zero_end]
      generalize xs.getD j 0 = x at *
      clear hc hrow hl hs
      by_cases hx : x = 0
      · have t : (x == 0) = true := by simp [hx]
        have HG : Hid (strip xs = strip (xs.take j)) := hgo hx
        clear HF hgo hx h0
        go_wp2
        go_round
        case rel => exact ⟨j, by omega, by go_num, HG⟩
        case measure => simp [intOf]
      · have t : (x == 0) = false := by simp [hx]
        have HF' : Hid (strip xs = xs.take (j + 1)) := HF hx
        clear HF hgo hx h0
        go_wp2
        go_ret
        exact ⟨⟨j + 1, rfl, by omega, HF'.out⟩, rfl⟩
/-- trim: the same memory, cut to the number's own words -/
theorem trimW_any {a : Option Addr} {n cap : Nat} {xs : List Int} {w : World} (hrow : RowC w a n cap xs) (hx : Ws xs) (hn : n ≤ 12000000) :
    Calls Try.prog 66 #[.slice a n cap] w fun e w' => e = .returned (.slice a (words (num xs)).length cap) ∧ RowC w a (words (num xs)).length cap (words (num xs)) ∧ xs.take (words (num xs)).length = words (num xs) ∧ (words (num xs)).length ≤ n ∧ w = w' := by
  have hl := hrow.1.1
  refine (trim0_any hrow.1 (by omega) hrow.2.1 hrow.2.2).mono ?_
  rintro e w' ⟨⟨m, rfl, hm, hs⟩, rfl⟩
  rw [words_strip hx] at hs
  have hm' : (words (num xs)).length = m := by rw [hs, List.length_take]; omega
  rw [hm']
  refine ⟨rfl, ⟨?_, Nat.le_trans hm hrow.2.1, hrow.2.2⟩, hs.symm, hm, rfl⟩
  rw [hs]; exact hrow.1.cut hm
theorem trim_any {a : Option Addr} {n cap : Nat} {xs : List Int} {w : World} (hrow : RowC w a n cap xs) (hx : Ws xs) (hn : n ≤ 4000000) :
    Calls Try.prog 66 #[.slice a n cap] w fun e w' => e = .returned (.slice a (words (num xs)).length cap) ∧ RowC w a (words (num xs)).length cap (words (num xs)) ∧ xs.take (words (num xs)).length = words (num xs) ∧ (words (num xs)).length ≤ n ∧ w = w' := trimW_any hrow hx (by omega)

theorem answer_any {a : Option Addr} {n cap base : Nat} {xs : List Int} {w : World} (hown : Own .u64 w base 47 (.slice a n cap) xs) (hl : n = xs.length) (hx : Ws xs) (hn : n ≤ 12000000) :
    Calls Try.prog 75 #[.slice a n cap] w fun e w' => ∃ v, e = .returned (.tuple #[v, .int .i64 (resE (num xs))]) ∧ Own .u64 w' base 47 v (resL (num xs)) ∧ w = w' := by
  subst hl
  obtain ⟨a2, cap2, hv, q1, q2, r⟩ := hown.reads
  simp only [Value.slice.injEq] at hv
  obtain ⟨ha, _, hc⟩ := hv
  rw [← ha] at r
  rw [← hc] at q1 q2
  have hs := words_strip hx
  have ht := fun (w : World) (r : RowAt .u64 w a xs.length xs) => trim0_any (cap := cap) r (by omega) q1 q2
  have hcut := fun (m : Nat) (h : m ≤ xs.length) => hown.cut h
  clear ha hc hown
  by_cases hb : (words (num xs)).length ≤ 4096
  · have E1 : Hid (resE (num xs) = 0) := by show _ = _; unfold resE; rw [if_pos hb]
    have E2 : Hid (resL (num xs) = words (num xs)) := by show _ = _; unfold resL; rw [if_pos hb]
    go_enter Try.func75, Try.ntmps75
    go_wp2_with fail
    refine (ht _ r).mono ?_
    rintro e w' ⟨⟨m, rfl, hm, hst⟩, rfl⟩
    have ho := hcut m hm
    rw [hs] at hst
    have hm4 : m ≤ 4096 := by
      have : (words (num xs)).length = m := by rw [hst, List.length_take]; omega
      omega
    rw [← hst] at ho
    clear hst hcut ht r hs hb q1 q2 hm
    go_wp2
    go_ret2
    exact ⟨_, by rw [E1.out]; rfl, by rw [E2.out]; exact ho, rfl⟩
  · have E1 : Hid (resE (num xs) = 21) := by show _ = _; unfold resE; rw [if_neg hb]
    have E2 : Hid (resL (num xs) = []) := by show _ = _; unfold resL; rw [if_neg hb]
    go_enter Try.func75, Try.ntmps75
    go_wp2_with fail
    refine (ht _ r).mono ?_
    rintro e w' ⟨⟨m, rfl, hm, hst⟩, rfl⟩
    rw [hs] at hst
    have hm4 : 4096 < m := by
      have : (words (num xs)).length = m := by rw [hst, List.length_take]; omega
      omega
    clear hst hcut ht r hs hb q1 q2 hm
    go_wp2
    go_ret2
    exact ⟨_, by rw [E1.out]; rfl, by rw [E2.out]; exact own_nil _ _ _ _, rfl⟩
end Go.Proofs.Ytbdljmboilapeab
