import Derived.WalkKit
import Derived.OpenShut
import Derived.Laws.BitsAllLaws
import Derived.Test.YtgobnjeankjkjaaGreatDoorRows
import Derived.ProofKit
import Derived.ShutString
import Derived.WalkLawsBesides
import Derived.WalkSpells
import Derived.Deep.QuietTactic
import Derived.BigQuiet
import Derived.ChangeOld
import Derived.Below
import Derived.OwnWalk
import Derived.Test.YtgobnjeankjkjaaGreatDoorPb1
/- Plain numbers, no Go in sight: words of 64 bits as whole numbers between 0 and 2^64. -/
namespace Go.Proofs.YtgobnjeankjkjaaGreatDoor.Ar
open Go.RowKit
set_option linter.unusedVariables false

/-- a word -/
def U (a : Int) : Prop := 0 ≤ a ∧ a < 18446744073709551616
/-- half a word -/
def H (a : Int) : Prop := 0 ≤ a ∧ a < 4294967296

def addLo (a b c : Int) : Int := (a + b + c % 2) % 18446744073709551616
def addHi (a b c : Int) : Int := (a + b + c % 2) / 18446744073709551616
def subLo (a b c : Int) : Int := (a - b - c % 2) % 18446744073709551616
def subHi (a b c : Int) : Int := -((a - b - c % 2) / 18446744073709551616)
theorem U_addLo (a b c : Int) : U (addLo a b c) := by unfold U addLo; omega
theorem U_subLo (a b c : Int) : U (subLo a b c) := by unfold U subLo; omega
/-! ### bits -/
theorem U_bits_andNot {a b : Int} (ha : U a) (hb : U b) : U (bits .andNot .u64 a b) := by
  unfold U at *
  rw [u64_andNot a b ha.1 ha.2 hb.1 hb.2]
  have := @Nat.and_le_left a.toNat (18446744073709551615 - b.toNat)
  omega
/-- the highest bit -/
def top (a : Int) : Int := a / 9223372036854775808
theorem andNot_and {a b : Int} (ha : U a) (hb : U b) : bits .andNot .u64 a b = bits .and .u64 a (18446744073709551615 - b) := by
  unfold U at *
  rw [u64_andNot a b ha.1 ha.2 hb.1 hb.2, u64_and a _ ha.1 ha.2 (by omega) (by omega)]
  have : (18446744073709551615 - b).toNat = 18446744073709551615 - b.toNat := by omega
  rw [this]
/-! ### wide.Add, wide.Sub -/
/-! ### halves -/
/-! ### order -/
def ord (a b : Int) : Int := if a < b then -1 else if b < a then 1 else 0
/-! ### wide.Mul3 -/
end Go.Proofs.YtgobnjeankjkjaaGreatDoor.Ar

/- What each call of package wide answers: its contract, for every argument. -/
namespace Go.Proofs.YtgobnjeankjkjaaGreatDoor
open Go.ChangeShapes Go.WideShapes Go.ChangeAt Go.RowKit
open Ar
set_option linter.unusedVariables false

theorem ret_int {k : IntKind} {a b : Int} (h : a = b) : Ending.returned (.int k a) = .returned (.int k b) := by rw [h]
theorem beq_of {a b : Int} (h : a = b) : (a == b) = true := by rw [h]; exact beq_self_eq_true _
theorem beq_no {a b : Int} (h : a ≠ b) : (a == b) = false := by simpa using h
end Go.Proofs.YtgobnjeankjkjaaGreatDoor

/- Plain numbers: how many bits a word has, and how many zeros at its low end. -/
namespace Go.Proofs.YtgobnjeankjkjaaGreatDoor.Ar
open Go.RowKit
set_option linter.unusedVariables false

theorem pow_cast (k : Nat) : ((2 ^ k : Nat) : Int) = (2 : Int) ^ k := by simp
theorem pow_pos (k : Nat) : 0 < (2 : Int) ^ k := by rw [← pow_cast]; exact Int.natCast_pos.mpr (Nat.two_pow_pos k)
/-! ### zeros at the low end -/
/-! ### powers of two, a bit at a time -/
end Go.Proofs.YtgobnjeankjkjaaGreatDoor.Ar

/- wide.Len, wide.Zeros -/
namespace Go.Proofs.YtgobnjeankjkjaaGreatDoor
open Go.ChangeShapes Go.WideShapes Go.ChangeAt Go.RowKit
open Ar
set_option linter.unusedVariables false

end Go.Proofs.YtgobnjeankjkjaaGreatDoor

/- Plain numbers: shifts of two words. -/
namespace Go.Proofs.YtgobnjeankjkjaaGreatDoor.Ar
open Go.RowKit
set_option linter.unusedVariables false

end Go.Proofs.YtgobnjeankjkjaaGreatDoor.Ar

/- wide.Shl, wide.Shr -/
namespace Go.Proofs.YtgobnjeankjkjaaGreatDoor
open Go.ChangeShapes Go.WideShapes Go.ChangeAt Go.RowKit
open Ar
set_option linter.unusedVariables false

end Go.Proofs.YtgobnjeankjkjaaGreatDoor

/- Slices of integers: what a call is told of one that came in, and of one that it has made. -/
namespace Go.Proofs.YtgobnjeankjkjaaGreatDoor
open Go.ChangeShapes Go.WideShapes Go.ChangeAt Go.RowKit
set_option linter.unusedVariables false

/-- a slice (its address, its length) reads as these numbers -/
def RowAt (k : IntKind) (w : World) (a : Option Addr) (n : Nat) (xs : List Int) : Prop :=
  xs.length = n ∧ (n = 0 ∨ ∃ b off, a = some ⟨b, off, none⟩ ∧ b < w.heap.size ∧ ∀ i, i < n → w.cell? ⟨b, off + i, none⟩ = some (.int k (xs.getD i 0)))
theorem RowAt.later {k : IntKind} {w w' : World} {a : Option Addr} {n : Nat} {xs : List Int} (h : RowAt k w a n xs) (hb : Below w.heap.size w w') : RowAt k w' a n xs := by
  obtain ⟨h1, h2⟩ := h
  refine ⟨h1, ?_⟩
  rcases h2 with h2 | ⟨b, off, ha, hlt, hc⟩
  · exact Or.inl h2
  · exact Or.inr ⟨b, off, ha, Nat.lt_of_lt_of_le hlt hb.size, fun i hi => (hb.cell (p := ⟨b, off + i, none⟩) hlt).trans (hc i hi)⟩
theorem RowAt.at {k : IntKind} {w : World} {a : Option Addr} {n : Nat} {xs : List Int} (h : RowAt k w a n xs) (hn : 0 < n) :
    ∃ b off, a = some ⟨b, off, none⟩ ∧ b < w.heap.size ∧ ∀ i, i < n → w.cell? ⟨b, off + i, none⟩ = some (.int k (xs.getD i 0)) := by
  rcases h.2 with h2 | h2
  · omega
  · exact h2
theorem owned_row {k : IntKind} {w : World} {base : Nat} {e : TypeId} {v : Value} {n : Nat} {xs : List Int} (h : w.ownsRow base e 1 v n (xs.map (Value.int k))) :
    ∃ a cap, v = .slice a n cap ∧ n ≤ cap ∧ RowAt k w a n xs := by
  obtain ⟨h1, h2⟩ := h
  simp only [List.length_map, Nat.mul_one] at h1
  rcases h2 with ⟨rfl, rfl⟩ | ⟨g, cap, cur, rfl, hb, hg, hn, hm, hs, ht⟩
  · exact ⟨none, 0, rfl, Nat.le_refl _, h1, Or.inl rfl⟩
  · refine ⟨_, cap, rfl, hn, h1, Or.inr ⟨g, 0, rfl, ?_, ?_⟩⟩
    · by_cases hlt : g < w.heap.size
      · exact hlt
      · simp [Array.getElem?_eq_none (Nat.le_of_not_lt hlt)] at hg
    · intro i hi
      simp only [Nat.mul_one] at ht
      have e : cur[i]? = some (.int k (xs.getD i 0)) := by
        have h3 : (cur.toList.take n)[i]? = (xs.map (Value.int k))[i]? := by rw [ht]
        rw [List.getElem?_take_of_lt hi, Array.getElem?_toList] at h3
        rw [h3, List.getElem?_map]
        have : i < xs.length := by omega
        simp [List.getElem?_eq_getElem this, List.getD_eq_getElem?_getD]
      simp [World.cell?, hg, e]
theorem take_next {xs : List Int} {k : Nat} (h : k < xs.length) : xs.take (k + 1) = xs.take k ++ [xs.getD k 0] := by
  rw [List.take_succ_eq_append_getElem h]
  simp [List.getD_eq_getElem?_getD, List.getElem?_eq_getElem h]
/-- a slice that the call has made (its block is base or beyond), and its numbers -/
def Own (k : IntKind) (w : World) (base : Nat) (e : TypeId) (v : Value) (xs : List Int) : Prop := w.ownsRow base e 1 v xs.length (xs.map (Value.int k))
theorem Own.row {k : IntKind} {w : World} {base : Nat} {e : TypeId} {v : Value} {xs : List Int} (h : Own k w base e v xs) : w.ownsRow base e 1 v xs.length (xs.map (Value.int k)) := h
theorem own_nil (k : IntKind) (w : World) (base : Nat) (e : TypeId) : Own k w base e (.slice none 0 0) [] := World.ownsRow_nil _ _ _ _
theorem Own.read {k : IntKind} {w : World} {base : Nat} {e : TypeId} {v : Value} {xs : List Int} (h : Own k w base e v xs) : ∃ a cap, v = .slice a xs.length cap ∧ xs.length ≤ cap ∧ RowAt k w a xs.length xs := owned_row h
theorem Own.wider {k : IntKind} {w : World} {base base' : Nat} {e : TypeId} {v : Value} {xs : List Int} (h : Own k w base e v xs) (hb : base' ≤ base) : Own k w base' e v xs := by
  obtain ⟨h1, h2⟩ := h
  refine ⟨h1, ?_⟩
  rcases h2 with h2 | ⟨g, c, cur, hv, hg, r⟩
  · exact Or.inl h2
  · exact Or.inr ⟨g, c, cur, hv, Nat.le_trans hb hg, r⟩
theorem Own.later {k : IntKind} {w w' : World} {base : Nat} {e : TypeId} {v : Value} {xs : List Int} (h : Own k w base e v xs) (hb : Below w.heap.size w w') : Own k w' base e v xs := by
  obtain ⟨h1, h2⟩ := h
  refine ⟨h1, ?_⟩
  rcases h2 with h2 | ⟨g, c, cur, hv, hg, hc, r⟩
  · exact Or.inl h2
  · refine Or.inr ⟨g, c, cur, hv, hg, ?_, r⟩
    have hlt : g < w.heap.size := by
      by_cases hlt : g < w.heap.size
      · exact hlt
      · simp [Array.getElem?_eq_none (Nat.le_of_not_lt hlt)] at hc
    rw [hb.block g hlt]; exact hc
theorem Own.cap {k : IntKind} {w : World} {base : Nat} {e : TypeId} {a : Option Addr} {n cap : Nat} {xs : List Int} (h : Own k w base e (.slice a n cap) xs) : cap ≤ maxLen := by
  obtain ⟨h1, h2⟩ := h
  rcases h2 with ⟨hv, h0⟩ | ⟨g, c, cur, hv, hb, hg, hn, hc, hs, ht⟩
  · simp only [Value.slice.injEq] at hv; unfold maxLen; omega
  · simp only [Value.slice.injEq] at hv; omega
/-- what is made reads, with room that fits -/
theorem Own.reads {k : IntKind} {w : World} {base : Nat} {e : TypeId} {v : Value} {xs : List Int} (h : Own k w base e v xs) : ∃ a cap, v = .slice a xs.length cap ∧ xs.length ≤ cap ∧ cap ≤ maxLen ∧ RowAt k w a xs.length xs := by
  obtain ⟨a, cap, rfl, hc, hr⟩ := h.read
  exact ⟨a, cap, rfl, hc, h.cap, hr⟩
end Go.Proofs.YtgobnjeankjkjaaGreatDoor

/- The helpers of plumblaw02: cut, same, told. -/
namespace Go.Proofs.YtgobnjeankjkjaaGreatDoor
open Go.ChangeShapes Go.WideShapes Go.ChangeAt Go.RowKit
set_option linter.unusedVariables false

end Go.Proofs.YtgobnjeankjkjaaGreatDoor

/- plumblaw02.same, told. -/
namespace Go.Proofs.YtgobnjeankjkjaaGreatDoor
open Go.ChangeShapes Go.WideShapes Go.ChangeAt Go.RowKit
set_option linter.unusedVariables false

end Go.Proofs.YtgobnjeankjkjaaGreatDoor

/- Plain numbers: lists of digits in a base, the lowest first. -/
namespace Go.Proofs.YtgobnjeankjkjaaGreatDoor.Na
set_option linter.unusedVariables false

/-- the number of a list of digits -/
def val (B : Int) : List Int → Int
  | [] => 0
  | x :: xs => x + B * val B xs
/-- each is a digit -/
def Dg (B : Int) (xs : List Int) : Prop := ∀ x ∈ xs, 0 ≤ x ∧ x < B
/-- the digits of a number, the highest not 0 -/
def dig (B : Nat) (n : Nat) : List Int :=
  if h : n = 0 ∨ B < 2 then [] else ((n % B : Nat) : Int) :: dig B (n / B)
termination_by n
decreasing_by exact Nat.div_lt_self (by omega) (by omega)

theorem val_cons (B x : Int) (xs : List Int) : val B (x :: xs) = x + B * val B xs := rfl
theorem Dg.tail {B x : Int} {xs : List Int} (h : Dg B (x :: xs)) : Dg B xs := fun y hy => h y (List.mem_cons_of_mem _ hy)
theorem Dg.head {B x : Int} {xs : List Int} (h : Dg B (x :: xs)) : 0 ≤ x ∧ x < B := h x List.mem_cons_self
theorem Dg.append {B : Int} {xs ys : List Int} (h : Dg B xs) (k : Dg B ys) : Dg B (xs ++ ys) := fun z hz => by
  rcases List.mem_append.mp hz with hz | hz
  · exact h z hz
  · exact k z hz
theorem Dg.one {B x : Int} (h : 0 ≤ x ∧ x < B) : Dg B [x] := fun y hy => by simp at hy; subst hy; exact h
theorem Dg.nil (B : Int) : Dg B [] := fun y hy => by simp at hy
theorem Dg.take {B : Int} {xs : List Int} (h : Dg B xs) (k : Nat) : Dg B (xs.take k) := fun y hy => h y (List.mem_of_mem_take hy)
theorem Dg.drop {B : Int} {xs : List Int} (h : Dg B xs) (k : Nat) : Dg B (xs.drop k) := fun y hy => h y (List.mem_of_mem_drop hy)
theorem Dg.get {B : Int} {xs : List Int} (h : Dg B xs) {i : Nat} (hi : i < xs.length) : 0 ≤ xs.getD i 0 ∧ xs.getD i 0 < B := by
  have e : xs.getD i 0 = xs[i] := by simp [List.getD_eq_getElem?_getD, List.getElem?_eq_getElem hi]
  rw [e]; exact h _ (List.getElem_mem hi)
theorem val_nonneg {B : Int} (hB : 0 ≤ B) {xs : List Int} (h : Dg B xs) : 0 ≤ val B xs := by
  induction xs with
  | nil => exact Int.le_refl _
  | cons x xs ih =>
    rw [val_cons]
    have h1 := h.head
    have h2 := Int.mul_nonneg hB (ih h.tail)
    omega
theorem dig_zero (B : Nat) : dig B 0 = [] := by unfold dig; simp
theorem dig_step {B n : Nat} (hB : 2 ≤ B) (hn : n ≠ 0) : dig B n = ((n % B : Nat) : Int) :: dig B (n / B) := by
  rw [dig, dif_neg (by omega)]
theorem dig_nil {B n : Nat} (hB : 2 ≤ B) : dig B n = [] ↔ n = 0 := by
  constructor
  · intro h
    by_cases e : n = 0
    · exact e
    · rw [dig_step hB e] at h; simp at h
  · intro h; rw [h, dig_zero]
theorem val_append (B : Int) (xs ys : List Int) : val B (xs ++ ys) = val B xs + B ^ xs.length * val B ys := by
  induction xs with
  | nil => simp [val]
  | cons x xs ih =>
    rw [List.cons_append, val_cons, val_cons, ih, List.length_cons, Int.pow_succ, Int.mul_add]
    have : B * (B ^ xs.length * val B ys) = B ^ xs.length * B * val B ys := by grind
    omega
theorem val_dig {B : Nat} (hB : 2 ≤ B) (n : Nat) : val B (dig B n) = n := by
  induction n using Nat.strongRecOn with
  | _ n ih =>
    by_cases e : n = 0
    · subst e; rw [dig_zero]; rfl
    · rw [dig_step hB e, val_cons, ih (n / B) (Nat.div_lt_self (by omega) hB)]
      have := Nat.mod_add_div n B
      have h2 : (((n % B + B * (n / B) : Nat)) : Int) = (n : Int) := by rw [this]
      rw [Int.natCast_add, Int.natCast_mul] at h2
      exact h2
theorem Dg_dig {B : Nat} (hB : 2 ≤ B) (n : Nat) : Dg B (dig B n) := by
  induction n using Nat.strongRecOn with
  | _ n ih =>
    by_cases e : n = 0
    · subst e; rw [dig_zero]; exact Dg.nil _
    · rw [dig_step hB e]
      intro x hx
      rcases List.mem_cons.mp hx with hx | hx
      · subst hx
        have := Nat.mod_lt n (show 0 < B by omega)
        omega
      · exact ih (n / B) (Nat.div_lt_self (by omega) hB) x hx
end Go.Proofs.YtgobnjeankjkjaaGreatDoor.Na

/- plumbref02: digits of base 65536. -/
namespace Go.Proofs.YtgobnjeankjkjaaGreatDoor
open Go.ChangeShapes Go.WideShapes Go.ChangeAt Go.RowKit
open Na
set_option linter.unusedVariables false

namespace Na
end Na
theorem Own.cut {k : IntKind} {w : World} {base : Nat} {e : TypeId} {a : Option Addr} {cap : Nat} {xs : List Int} (h : Own k w base e (.slice a xs.length cap) xs) {m : Nat} (hm : m ≤ xs.length) : Own k w base e (.slice a m cap) (xs.take m) := by
  obtain ⟨h1, h2⟩ := h
  have hl : (xs.take m).length = m := by rw [List.length_take]; omega
  unfold Own
  rw [hl]
  refine ⟨by rw [List.length_map, hl]; omega, ?_⟩
  rcases h2 with ⟨hv, h0⟩ | ⟨g, c, cur, hv, hb, hg, hn, hc, hs, ht⟩
  · have m0 : m = 0 := by omega
    simp only [Value.slice.injEq] at hv
    obtain ⟨ha, hz, hc⟩ := hv
    subst m0 ha hc
    exact Or.inl ⟨rfl, rfl⟩
  · simp only [Value.slice.injEq] at hv
    obtain ⟨ha, hz, hc'⟩ := hv
    subst ha hc'
    refine Or.inr ⟨g, cap, cur, rfl, hb, hg, by omega, hc, hs, ?_⟩
    rw [List.map_take, ← ht, List.take_take]
    simp only [Nat.mul_one]
    rw [Nat.min_eq_left hm]

theorem own_cap {k : IntKind} {w : World} {base : Nat} {e : TypeId} {a : Option Addr} {n cap : Nat} {xs : List Int} (h : Own k w base e (.slice a n cap) xs) : cap ≤ maxLen := by
  obtain ⟨h1, h2⟩ := h
  rcases h2 with ⟨hv, h0⟩ | ⟨g, c, cur, hv, hb, hg, hn, hc, hs, ht⟩
  · simp only [Value.slice.injEq] at hv; unfold maxLen; omega
  · simp only [Value.slice.injEq] at hv; omega
end Go.Proofs.YtgobnjeankjkjaaGreatDoor

/- plumbref02.words, carried, told. -/
namespace Go.Proofs.YtgobnjeankjkjaaGreatDoor
open Go.ChangeShapes Go.WideShapes Go.ChangeAt Go.RowKit
open Na
set_option linter.unusedVariables false

namespace Na
end Na

end Go.Proofs.YtgobnjeankjkjaaGreatDoor

/- plumbref02: told, Norm, carried, plus, Add, Sum .. -/
namespace Go.Proofs.YtgobnjeankjkjaaGreatDoor
open Go.ChangeShapes Go.WideShapes Go.ChangeAt Go.RowKit
open Na
set_option linter.unusedVariables false

namespace Na
/-- the words of a number -/
def words (N : Int) : List Int := dig 18446744073709551616 N.toNat
/-- what is answered of a number: its words, unless there are more than 4096; and the error -/
def resL (N : Int) : List Int := if (words N).length ≤ 4096 then words N else []
def resE (N : Int) : Int := if (words N).length ≤ 4096 then 0 else 21
theorem Dg_words (N : Int) : Dg 18446744073709551616 (words N) := Dg_dig (B := 18446744073709551616) (by omega) _
theorem val_words {N : Int} (h : 0 ≤ N) : val 18446744073709551616 (words N) = N := by
  have := val_dig (B := 18446744073709551616) (by omega) N.toNat
  unfold words
  have e : val 18446744073709551616 (dig 18446744073709551616 N.toNat) = ((N.toNat : Nat) : Int) := this
  rw [e]; omega
/-- a number that is below a power has no more digits -/
theorem dig_length {B : Nat} (hB : 2 ≤ B) {n k : Nat} (h : n < B ^ k) : (dig B n).length ≤ k := by
  induction k generalizing n with
  | zero => simp at h; subst h; rw [dig_zero]; simp
  | succ k ih =>
    by_cases e : n = 0
    · subst e; rw [dig_zero]; simp
    · rw [dig_step hB e, List.length_cons]
      have : n / B < B ^ k := by
        rw [Nat.div_lt_iff_lt_mul (by omega), ← Nat.pow_succ]; exact h
      have := ih this
      omega
theorem val_lt {B : Int} (hB : 0 < B) {xs : List Int} (h : Dg B xs) : val B xs < B ^ xs.length := by
  induction xs with
  | nil => simp [val]
  | cons x xs ih =>
    have i := ih h.tail
    have g := h.head
    rw [val_cons, List.length_cons, Int.pow_succ, Int.mul_comm _ B]
    have : B * (val B xs + 1) ≤ B * B ^ xs.length := Int.mul_le_mul_of_nonneg_left (by omega) (by omega)
    rw [Int.mul_add] at this
    omega
end Na

end Go.Proofs.YtgobnjeankjkjaaGreatDoor

/- plumbref02: carried, plus, compare. -/
namespace Go.Proofs.YtgobnjeankjkjaaGreatDoor
open Go.ChangeShapes Go.WideShapes Go.ChangeAt Go.RowKit
open Na
set_option linter.unusedVariables false

namespace Na
/-- numbers from 0 on, none above L -/
def Bd (L : Int) (xs : List Int) : Prop := ∀ x ∈ xs, 0 ≤ x ∧ x ≤ L
theorem Bd.get {L : Int} {xs : List Int} (h : Bd L xs) {i : Nat} (hi : i < xs.length) : 0 ≤ xs.getD i 0 ∧ xs.getD i 0 ≤ L := by
  have e : xs.getD i 0 = xs[i] := by simp [List.getD_eq_getElem?_getD, List.getElem?_eq_getElem hi]
  rw [e]; exact h _ (List.getElem_mem hi)
theorem Bd.val_nonneg {L B : Int} (hB : 0 ≤ B) {xs : List Int} (h : Bd L xs) : 0 ≤ val B xs := by
  induction xs with
  | nil => exact Int.le_refl _
  | cons x xs ih =>
    rw [val_cons]
    have h1 := h x List.mem_cons_self
    have h2 := Int.mul_nonneg hB (ih (fun y hy => h y (List.mem_cons_of_mem _ hy)))
    omega
theorem Bd.one {L x : Int} (h : 0 ≤ x ∧ x ≤ L) : Bd L [x] := fun y hy => by simp at hy; subst hy; exact h
theorem Bd.append {L : Int} {xs ys : List Int} (h : Bd L xs) (k : Bd L ys) : Bd L (xs ++ ys) := fun z hz => by
  rcases List.mem_append.mp hz with hz | hz
  · exact h z hz
  · exact k z hz
theorem Bd.nil (L : Int) : Bd L [] := fun y hy => by simp at hy
end Na

end Go.Proofs.YtgobnjeankjkjaaGreatDoor

/- plumbref02: plus, compare. -/
namespace Go.Proofs.YtgobnjeankjkjaaGreatDoor
open Go.ChangeShapes Go.WideShapes Go.ChangeAt Go.RowKit
open Na
set_option linter.unusedVariables false

namespace Na
end Na

end Go.Proofs.YtgobnjeankjkjaaGreatDoor

/- plumbref02: compare, Cmp. -/
namespace Go.Proofs.YtgobnjeankjkjaaGreatDoor
open Go.ChangeShapes Go.WideShapes Go.ChangeAt Go.RowKit
open Na
set_option linter.unusedVariables false

namespace Na
def ordN (a b : Int) : Int := if a < b then -1 else if b < a then 1 else 0
theorem ordN_lt {a b : Int} (h : a < b) : ordN a b = -1 := by unfold ordN; rw [if_pos h]
theorem ordN_gt {a b : Int} (h : b < a) : ordN a b = 1 := by unfold ordN; rw [if_neg (by omega), if_pos h]
theorem dig_last {B : Nat} (hB : 2 ≤ B) (n : Nat) (h : n ≠ 0) : ∃ zs x, dig B n = zs ++ [x] ∧ x ≠ 0 := by
  induction n using Nat.strongRecOn with
  | _ n ih =>
    rw [dig_step hB h]
    by_cases e : n / B = 0
    · rw [e, dig_zero]
      refine ⟨[], _, rfl, ?_⟩
      have : n % B = n := Nat.mod_eq_of_lt ((Nat.div_eq_zero_iff_lt (by omega)).mp e)
      omega
    · obtain ⟨zs, x, hz, hx⟩ := ih (n / B) (Nat.div_lt_self (by omega) hB) e
      exact ⟨_ :: zs, x, by rw [hz]; rfl, hx⟩
end Na

end Go.Proofs.YtgobnjeankjkjaaGreatDoor

/- plumbref02: Cmp, Add, Sub, From, Word. -/
namespace Go.Proofs.YtgobnjeankjkjaaGreatDoor
open Go.ChangeShapes Go.WideShapes Go.ChangeAt Go.RowKit
open Na
set_option linter.unusedVariables false

namespace Na
/-- the number of a list of words -/
def num (xs : List Int) : Int := val 18446744073709551616 xs
/-- a list of words -/
abbrev Ws (xs : List Int) : Prop := Dg 18446744073709551616 xs
theorem num_nonneg {xs : List Int} (h : Ws xs) : 0 ≤ num xs := val_nonneg (B := 18446744073709551616) (by omega) h
theorem num_lt {xs : List Int} (h : Ws xs) : num xs < 65536 ^ (4 * xs.length) := by
  have l := val_lt (by omega) h
  have e : (65536 : Int) ^ (4 * xs.length) = 18446744073709551616 ^ xs.length := by rw [Int.pow_mul]; rfl
  rw [e]; exact l
end Na

end Go.Proofs.YtgobnjeankjkjaaGreatDoor

/- plumbref02: Sub, From, Word. -/
namespace Go.Proofs.YtgobnjeankjkjaaGreatDoor
open Go.ChangeShapes Go.WideShapes Go.ChangeAt Go.RowKit
open Na
set_option linter.unusedVariables false

namespace Na
end Na

end Go.Proofs.YtgobnjeankjkjaaGreatDoor

/- plumbref02: Word, Bits, Bit, Zeros. -/
namespace Go.Proofs.YtgobnjeankjkjaaGreatDoor
open Go.ChangeShapes Go.WideShapes Go.ChangeAt Go.RowKit
open Na
set_option linter.unusedVariables false

namespace Na
end Na

end Go.Proofs.YtgobnjeankjkjaaGreatDoor

/- plumbref02.Mul: as by hand. -/
namespace Go.Proofs.YtgobnjeankjkjaaGreatDoor
open Go.ChangeShapes Go.WideShapes Go.ChangeAt Go.RowKit
open Na
set_option linter.unusedVariables false

theorem Own.cellAt {k : IntKind} {w : World} {base g cap n : Nat} {e : TypeId} {xs : List Int} (h : Own k w base e (.slice (some ⟨g, 0, none⟩) n cap) xs) (hn : n = xs.length) {j : Nat} (hj : j < n) : w.cell? ⟨g, j, none⟩ = some (.int k (xs.getD j 0)) := by
  subst hn
  have := World.ownsRow.cellAt h.row j (by omega)
  rw [this, List.getElem?_map]
  simp [List.getElem?_eq_getElem hj, List.getD_eq_getElem?_getD]
theorem Own.frozenAt {k : IntKind} {w : World} {base g cap n : Nat} {e : TypeId} {xs : List Int} (h : Own k w base e (.slice (some ⟨g, 0, none⟩) n cap) xs) (hn : n = xs.length) (j : Nat) : w.frozen? ⟨g, j, none⟩ = false := by
  subst hn; exact World.ownsRow.frozenAt h.row j
theorem Own.set {k : IntKind} {w : World} {base g cap n : Nat} {e : TypeId} {xs : List Int} (h : Own k w base e (.slice (some ⟨g, 0, none⟩) n cap) xs) (hn : n = xs.length) (j : Nat) (x : Int) : Own k (w.setCell ⟨g, j, none⟩ (.int k x)) base e (.slice (some ⟨g, 0, none⟩) n cap) (xs.set j x) := by
  subst hn
  have := (World.ownsRow.stored h.row j (.int k x)).1
  unfold Own
  rw [List.length_set, List.map_set]; exact this
theorem Own.base_le {k : IntKind} {w : World} {base g cap n : Nat} {e : TypeId} {xs : List Int} (h : Own k w base e (.slice (some ⟨g, 0, none⟩) n cap) xs) : base ≤ g := by
  rcases h.2 with ⟨h', _⟩ | ⟨g', cap', cur, h', hb, _⟩
  · simp at h'
  · simp only [Value.slice.injEq, Option.some.injEq, Addr.mk.injEq] at h'
    omega
namespace Na
theorem val_set {B : Int} {xs : List Int} {j : Nat} (x : Int) (h : j < xs.length) : val B (xs.set j x) = val B xs + B ^ j * (x - xs.getD j 0) := by
  induction xs generalizing j with
  | nil => simp at h
  | cons y ys ih =>
    cases j with
    | zero => simp [val, List.getD_eq_getElem?_getD]; omega
    | succ i =>
      rw [List.set_cons_succ, val_cons, val_cons, ih (by simpa using h), Int.pow_succ]
      have : (y :: ys).getD (i + 1) 0 = ys.getD i 0 := by simp [List.getD_eq_getElem?_getD]
      rw [this]
      generalize ys.getD i 0 = z
      generalize val B ys = V
      generalize B ^ i = P
      grind
theorem Dg.set {B x : Int} {xs : List Int} (h : Dg B xs) (j : Nat) (hx : 0 ≤ x ∧ x < B) : Dg B (xs.set j x) := fun y hy => by
  rcases List.mem_or_eq_of_mem_set hy with q | q
  · exact h y q
  · subst q; exact hx
end Na
end Go.Proofs.YtgobnjeankjkjaaGreatDoor

/- plumbref02.Mul: the walk. -/
namespace Go.Proofs.YtgobnjeankjkjaaGreatDoor
open Go.ChangeShapes Go.WideShapes Go.ChangeAt Go.RowKit
open Na
set_option linter.unusedVariables false

namespace Na
end Na

end Go.Proofs.YtgobnjeankjkjaaGreatDoor

/- plumbref02.Shl -/
namespace Go.Proofs.YtgobnjeankjkjaaGreatDoor
open Go.ChangeShapes Go.WideShapes Go.ChangeAt Go.RowKit
open Na
set_option linter.unusedVariables false

namespace Na
end Na

end Go.Proofs.YtgobnjeankjkjaaGreatDoor

/- plumbref02: Bits, Bit, Zeros. -/
namespace Go.Proofs.YtgobnjeankjkjaaGreatDoor
open Go.ChangeShapes Go.WideShapes Go.ChangeAt Go.RowKit
open Na
set_option linter.unusedVariables false

namespace Na
end Na

end Go.Proofs.YtgobnjeankjkjaaGreatDoor

/- plumbref02: Zeros. -/
namespace Go.Proofs.YtgobnjeankjkjaaGreatDoor
open Go.ChangeShapes Go.WideShapes Go.ChangeAt Go.RowKit
open Na
set_option linter.unusedVariables false

namespace Na
end Na

end Go.Proofs.YtgobnjeankjkjaaGreatDoor

/- plumbref02: Shr. -/
namespace Go.Proofs.YtgobnjeankjkjaaGreatDoor
open Go.ChangeShapes Go.WideShapes Go.ChangeAt Go.RowKit
open Na
set_option linter.unusedVariables false

namespace Na
end Na

end Go.Proofs.YtgobnjeankjkjaaGreatDoor

/- plumbref02: Sum. -/
namespace Go.Proofs.YtgobnjeankjkjaaGreatDoor
open Go.ChangeShapes Go.WideShapes Go.ChangeAt Go.RowKit
open Na
set_option linter.unusedVariables false

/-- a slice of lists of words reads as these -/
def RowsAt (w : World) (a : Option Addr) (n : Nat) (xss : List (List Int)) : Prop :=
  xss.length = n ∧ (n = 0 ∨ ∃ b off, a = some ⟨b, off, none⟩ ∧ b < w.heap.size ∧ ∀ i, i < n → ∃ ai ci, w.cell? ⟨b, off + i, none⟩ = some (.slice ai (xss.getD i []).length ci) ∧ RowAt .u64 w ai (xss.getD i []).length (xss.getD i []))
namespace Na
/-- each is a list of words, none too long -/
def Wss (xss : List (List Int)) : Prop := ∀ xs ∈ xss, Ws xs ∧ xs.length ≤ 4000000
theorem Wss.get {xss : List (List Int)} (h : Wss xss) {k : Nat} (hk : k < xss.length) : Ws (xss.getD k []) ∧ (xss.getD k []).length ≤ 4000000 := by
  have e : xss.getD k [] = xss[k] := by simp [List.getD_eq_getElem?_getD, List.getElem?_eq_getElem hk]
  rw [e]; exact h _ (List.getElem_mem hk)
def Wss0 (xss : List (List Int)) : Prop := ∀ xs ∈ xss, Ws xs ∧ xs.length ≤ 10000
theorem Wss0.get {xss : List (List Int)} (h : Wss0 xss) {k : Nat} (hk : k < xss.length) : Ws (xss.getD k []) ∧ (xss.getD k []).length ≤ 10000 := by
  have e : xss.getD k [] = xss[k] := by simp [List.getD_eq_getElem?_getD, List.getElem?_eq_getElem hk]
  rw [e]; exact h _ (List.getElem_mem hk)
end Na

end Go.Proofs.YtgobnjeankjkjaaGreatDoor

/- plumblaw02: told; what a law wants of its arguments. -/
namespace Go.Proofs.YtgobnjeankjkjaaGreatDoor
open Go.ChangeShapes Go.WideShapes Go.ChangeAt Go.RowKit
open Na
set_option linter.unusedVariables false

namespace Na
end Na

namespace Na
end Na
theorem alloc_below {w : World} (o : Obj) : Below w.heap.size w (w.alloc o) := (Below.refl _ _).alloc (Nat.le_refl _) o
end Go.Proofs.YtgobnjeankjkjaaGreatDoor

/- Plain numbers: patterns of binary64. -/
namespace Go.Proofs.YtgobnjeankjkjaaGreatDoor.Ar
open Go.RowKit
set_option linter.unusedVariables false

/-- the pattern without its sign -/
def mg (b : Int) : Int := b % 9223372036854775808
/-- the exponent field -/
def ef (b : Int) : Int := b % 9223372036854775808 / 4503599627370496
/-- the fraction -/
def fr (b : Int) : Int := b % 4503599627370496
theorem U_63 : U 9223372036854775808 := by unfold U; omega
theorem size_bits {b : Int} (h : U b) : bits .andNot .u64 b 9223372036854775808 = mg b := by
  rw [andNot_and h U_63]
  unfold U at h
  have e0 : (18446744073709551615 - 9223372036854775808 : Int) = 9223372036854775807 := rfl
  rw [e0, u64_and b _ h.1 h.2 (by omega) (by omega)]
  have : (b.toNat &&& (9223372036854775807 : Int).toNat) = b.toNat % 9223372036854775808 := Nat.and_two_pow_sub_one_eq_mod b.toNat 63
  rw [this]; unfold mg; omega
theorem frac_bits {b : Int} (h : U b) : bits .and .u64 b 4503599627370495 = fr b := by
  unfold U at h
  rw [u64_and b _ h.1 h.2 (by omega) (by omega)]
  have : (b.toNat &&& (4503599627370495 : Int).toNat) = b.toNat % 4503599627370496 := Nat.and_two_pow_sub_one_eq_mod b.toNat 52
  rw [this]; unfold fr; omega
theorem field_and {b : Int} (h : U b) : bits .and .u64 (b / 4503599627370496) 2047 = ef b := by
  unfold U at h
  rw [u64_and _ _ (by omega) (by omega) (by omega) (by omega)]
  have : ((b / 4503599627370496).toNat &&& (2047 : Int).toNat) = (b / 4503599627370496).toNat % 2048 := Nat.and_two_pow_sub_one_eq_mod _ 11
  rw [this]; unfold ef; omega

theorem mg_bd (b : Int) : 0 ≤ mg b ∧ mg b < 9223372036854775808 := by unfold mg; omega
/-! ### what the functions answer -/
def clsW (b : Int) : Int := if ef b = 2047 then (if fr b = 0 then 3 else 4) else if ef b = 0 then (if fr b = 0 then 0 else 1) else 2
end Go.Proofs.YtgobnjeankjkjaaGreatDoor.Ar

/- Plain numbers: the one pattern of a mantissa and an exponent. -/
namespace Go.Proofs.YtgobnjeankjkjaaGreatDoor.Ar
open Go.RowKit
set_option linter.unusedVariables false

/-- two to a number (one, where it is below none) -/
def e2 (k : Int) : Int := 2 ^ k.toNat
/-- m times two to the x is M times two to the X -/
def Sm (m x M X : Int) : Prop := (X ≤ x ∧ M = m * e2 (x - X)) ∨ (x ≤ X ∧ m = M * e2 (X - x))
/-! ### too far off -/
/-! ### the program's way -/
end Go.Proofs.YtgobnjeankjkjaaGreatDoor.Ar

/- Plain numbers: what the shifts of Join leave; the document's way to the same form. -/
namespace Go.Proofs.YtgobnjeankjkjaaGreatDoor.Ar
open Go.RowKit
set_option linter.unusedVariables false

/-! ### the document's way -/
/-- the second loop: doubled as long as it must be -/
def Jd (m x M X : Int) : Prop := Sm m x M X ∧ -1074 ≤ X ∧ 0 < M ∧ M < 9007199254740992 ∧ X ≤ 1264
/-! ### what Split tells is joined again -/
end Go.Proofs.YtgobnjeankjkjaaGreatDoor.Ar

/- Plain numbers: neighbours, order, ranks. -/
namespace Go.Proofs.YtgobnjeankjkjaaGreatDoor.Ar
open Go.RowKit
set_option linter.unusedVariables false

/-! ### neighbours -/
end Go.Proofs.YtgobnjeankjkjaaGreatDoor.Ar

/- package f64: the fields of a pattern, Class, Split, Neg, the neighbours, the order. -/
namespace Go.Proofs.YtgobnjeankjkjaaGreatDoor
open Go.ChangeShapes Go.WideShapes Go.ChangeAt Go.RowKit
open Ar
set_option linter.unusedVariables false

theorem f6size_any {b : Int} (hb : U b) (w : World) :
    Calls Tryz.prog 123 #[.int .u64 b] w fun e w' => e = .returned (.int .u64 (mg b)) ∧ w = w' := by
  go_enter Tryz.func123, Tryz.ntmps123
  go_wp2
  go_ret
  exact ⟨ret_int (size_bits hb), rfl⟩
theorem f6fraction_any {b : Int} (hb : U b) (w : World) :
    Calls Tryz.prog 119 #[.int .u64 b] w fun e w' => e = .returned (.int .u64 (fr b)) ∧ w = w' := by
  go_enter Tryz.func119, Tryz.ntmps119
  go_wp2
  go_ret
  exact ⟨ret_int (frac_bits hb), rfl⟩
theorem f6field_any {b : Int} (hb : U b) (w : World) :
    Calls Tryz.prog 121 #[.int .u64 b] w fun e w' => e = .returned (.int .i64 (ef b)) ∧ w = w' := by
  have hm := mg_bd b
  go_enter Tryz.func121, Tryz.ntmps121
  go_wp2_with (go_at_call 123; refine (f6size_any hb _).mono ?_; rintro e w' ⟨rfl, rfl⟩)
  go_ret
  refine ⟨ret_int ?_, rfl⟩
  rfl
theorem f6finite_any {b : Int} (hb : U b) (w : World) :
    Calls Tryz.prog 120 #[.int .u64 b] w fun e w' => e = .returned (.bool (ef b != 2047)) ∧ w = w' := by
  go_enter Tryz.func120, Tryz.ntmps120
  go_wp2_with (go_at_call 121; refine (f6field_any hb _).mono ?_; rintro e w' ⟨rfl, rfl⟩)
  go_ret
  exact ⟨rfl, rfl⟩
end Go.Proofs.YtgobnjeankjkjaaGreatDoor

/- package f64: Class, Split, the neighbours, the order, ranks. -/
namespace Go.Proofs.YtgobnjeankjkjaaGreatDoor
open Go.ChangeShapes Go.WideShapes Go.ChangeAt Go.RowKit
open Ar
set_option linter.unusedVariables false
set_option linter.unusedSimpArgs false

theorem f6Class_w {b : Int} (hb : U b) {p q r : Bool} (h1 : (ef b != 2047) = p) (h2 : (ef b != 0) = q) (h3 : (fr b == 0) = r) (w : World) :
    Calls Tryz.prog 112 #[.int .u64 b] w fun e w' => e = .returned (.int .i64 (clsW b)) ∧ w = w' := by
  have hc : clsW b = if p = true then (if q = true then 2 else if r = true then 0 else 1) else (if r = true then 3 else 4) := by
    subst h1 h2 h3
    unfold clsW
    simp
  rw [hc]
  clear hc
  cases p <;> cases q <;> cases r
  all_goals
    go_enter Tryz.func112, Tryz.ntmps112
    go_wp2_with (first | (go_at_call 120; refine (f6finite_any hb _).mono ?_; rintro e w' ⟨rfl, rfl⟩) | (go_at_call 121; refine (f6field_any hb _).mono ?_; rintro e w' ⟨rfl, rfl⟩) | (go_at_call 119; refine (f6fraction_any hb _).mono ?_; rintro e w' ⟨rfl, rfl⟩))
    go_ret
    exact ⟨rfl, rfl⟩
theorem f6Class_any {b : Int} (hb : U b) (w : World) :
    Calls Tryz.prog 112 #[.int .u64 b] w fun e w' => e = .returned (.int .i64 (clsW b)) ∧ w = w' := f6Class_w hb rfl rfl rfl w

end Go.Proofs.YtgobnjeankjkjaaGreatDoor

/- package f64: Join. -/
namespace Go.Proofs.YtgobnjeankjkjaaGreatDoor
open Go.ChangeShapes Go.WideShapes Go.ChangeAt Go.RowKit
open Ar
set_option linter.unusedVariables false

end Go.Proofs.YtgobnjeankjkjaaGreatDoor

/- plumbref06: the document's answers but Join. -/
namespace Go.Proofs.YtgobnjeankjkjaaGreatDoor
open Go.ChangeShapes Go.WideShapes Go.ChangeAt Go.RowKit
open Ar
set_option linter.unusedVariables false
set_option linter.unusedSimpArgs false

end Go.Proofs.YtgobnjeankjkjaaGreatDoor

/- plumblaw06: alive. -/
namespace Go.Proofs.YtgobnjeankjkjaaGreatDoor
open Go.ChangeShapes Go.WideShapes Go.ChangeAt Go.RowKit
open Ar
set_option linter.unusedVariables false

end Go.Proofs.YtgobnjeankjkjaaGreatDoor

/- Rows of bytes in memory: reading, writing, appending, as a text. -/
namespace Go.Proofs.YtgobnjeankjkjaaGreatDoor
open Go.ChangeShapes Go.WideShapes Go.ChangeAt Go.RowKit
set_option linter.unusedVariables false
namespace Ep
/-- the numbers of bytes -/
def nz (l : List UInt8) : List Int := l.map fun u => (u.toNat : Int)
theorem nz_len (l : List UInt8) : (nz l).length = l.length := by unfold nz; simp
theorem nz_app (l m : List UInt8) : nz (l ++ m) = nz l ++ nz m := by unfold nz; simp
theorem nz_at (l : List UInt8) (k : Nat) : (nz l).getD k 0 = ((l.getD k 0).toNat : Int) := by
  unfold nz
  rw [List.getD_eq_getElem?_getD, List.getD_eq_getElem?_getD, List.getElem?_map]
  cases l[k]? <;> rfl
end Ep
open Ep
/-- a slice of bytes reads so -/
def Rb (w : World) (a : Option Addr) (n c : Nat) (l : List UInt8) : Prop := RowAt .u8 w a n (nz l) ∧ n ≤ c ∧ c ≤ 9223372036854775807
theorem Rb.len {w : World} {a : Option Addr} {n c : Nat} {l : List UInt8} (h : Rb w a n c l) : l.length = n := by rw [← nz_len]; exact h.1.1
theorem Rb.later {w w' : World} {a : Option Addr} {n c : Nat} {l : List UInt8} (h : Rb w a n c l) (hb : Below w.heap.size w w') : Rb w' a n c l := ⟨h.1.later hb, h.2⟩
theorem Rb.nil (w : World) (a : Option Addr) (c : Nat) (hc : c ≤ 9223372036854775807) : Rb w a 0 c [] := ⟨⟨rfl, Or.inl rfl⟩, Nat.zero_le _, hc⟩
theorem Rb.cells {w : World} {a : Option Addr} {n c : Nat} {l : List UInt8} (h : Rb w a n c l) (hn : 0 < n) : ∃ g o, a = some ⟨g, o, none⟩ ∧ g < w.heap.size ∧ ∀ i, i < n → w.cell? ⟨g, o + i, none⟩ = some (.int .u8 ((l.getD i 0).toNat : Int)) := by
  obtain ⟨g, o, h1, h2, h3⟩ := h.1.at hn
  exact ⟨g, o, h1, h2, fun i hi => by rw [← nz_at]; exact h3 i hi⟩
theorem Rb.take {w : World} {a : Option Addr} {n c : Nat} {l : List UInt8} (h : Rb w a n c l) {k c' : Nat} (hk : k ≤ n) (hc : k ≤ c') (hc' : c' ≤ 9223372036854775807) : Rb w a k c' (l.take k) := by
  have hl := h.len
  refine ⟨⟨by rw [nz_len, List.length_take]; omega, ?_⟩, hc, hc'⟩
  by_cases h0 : k = 0
  · exact Or.inl h0
  · obtain ⟨g, o, h1, h2, h3⟩ := h.cells (by omega)
    refine Or.inr ⟨g, o, h1, h2, fun i hi => ?_⟩
    rw [nz_at, h3 i (by omega), List.getD_eq_getElem?_getD, List.getD_eq_getElem?_getD, List.getElem?_take_of_lt hi]
theorem Rb.drop {w : World} {a : Option Addr} {n c : Nat} {l : List UInt8} (h : Rb w a n c l) {k m c' : Nat} {a' : Option Addr} (hk : k ≤ n) (hm : m = n - k) (hc : m ≤ c') (hc' : c' ≤ 9223372036854775807) (ha : 0 < m → ∀ g o, a = some ⟨g, o, none⟩ → a' = some ⟨g, o + k, none⟩) : Rb w a' m c' (l.drop k) := by
  have hl := h.len
  refine ⟨⟨by rw [nz_len, List.length_drop]; omega, ?_⟩, hc, hc'⟩
  by_cases h0 : m = 0
  · exact Or.inl h0
  · obtain ⟨g, o, h1, h2, h3⟩ := h.cells (by omega)
    refine Or.inr ⟨g, o + k, ha (by omega) g o h1, h2, fun i hi => ?_⟩
    rw [nz_at, show o + k + i = o + (k + i) by omega, h3 (k + i) (by omega), List.getD_eq_getElem?_getD, List.getD_eq_getElem?_getD, List.getElem?_drop]
theorem Rb.add {w : World} {a : Addr} {n c : Nat} {l : List UInt8} (h : Rb w (some a) n c l) : ∀ j x, (nz l)[j]? = some x → w.cell? (a.add j) = some (.int .u8 x) := by
  intro j x hj
  have hjl : j < n := by rw [← h.1.1]; exact (List.getElem?_eq_some_iff.1 hj).1
  obtain ⟨g, o, h1, _, h3⟩ := h.1.at (by omega)
  have e : a = ⟨g, o, none⟩ := Option.some.inj h1
  have e2 : (⟨g, o, none⟩ : Addr).add j = ⟨g, o + j, none⟩ := by unfold Addr.add; split <;> simp_all
  rw [e, e2, h3 j hjl, List.getD_eq_getElem?_getD, hj]
  rfl
/-- a slice of bytes in memory that may be written -/
structure Wr (w : World) (base g n : Nat) (l : List UInt8) : Prop where
  lo : base ≤ g
  hi : g < w.heap.size
  len : l.length = n
  cell : ∀ i, i < n → w.cell? ⟨g, i, none⟩ = some (.int .u8 ((l.getD i 0).toNat : Int))
  free : ∀ i, i < n → w.frozen? ⟨g, i, none⟩ = false
theorem Wr.row {w : World} {base g n : Nat} {l : List UInt8} (h : Wr w base g n l) {c : Nat} (hc : n ≤ c) (hc' : c ≤ 9223372036854775807) : Rb w (some ⟨g, 0, none⟩) n c l :=
  ⟨⟨by rw [nz_len]; exact h.len, Or.inr ⟨g, 0, rfl, h.hi, fun i hi => by rw [nz_at, Nat.zero_add]; exact h.cell i hi⟩⟩, hc, hc'⟩
theorem Wr.later {w w' : World} {base g n : Nat} {l : List UInt8} (h : Wr w base g n l) (hb : Below w.heap.size w w') : Wr w' base g n l :=
  ⟨h.lo, Nat.lt_of_lt_of_le h.hi hb.size, h.len, fun i hi => (hb.cell (p := ⟨g, i, none⟩) h.hi).trans (h.cell i hi), fun i hi => (World.frozen?_of_block (a := ⟨g, i, none⟩) (hb.block g h.hi)).trans (h.free i hi)⟩
theorem Wr.set {w : World} {base g n : Nat} {l : List UInt8} (h : Wr w base g n l) (j : Nat) (x : UInt8) (X : Int) (hX : X = (x.toNat : Int)) (hj : j < n) : Wr (w.setCell ⟨g, j, none⟩ (.int .u8 X)) base g n (l.set j x) ∧ Below base w (w.setCell ⟨g, j, none⟩ (.int .u8 X)) := by
  subst hX
  have hsome : (w.cell? ⟨g, j, none⟩).isSome = true := by rw [h.cell j hj]; rfl
  have hin := World.cell?_setCells_in g [Value.int .u8 (x.toNat : Int)] j w (fun i hi => by
    have : i = 0 := by simpa using hi
    subst this
    simpa using hsome)
  have hout := World.cell?_setCells_out g [Value.int .u8 (x.toNat : Int)] j w
  have e : w.setCells g j [Value.int .u8 (x.toNat : Int)] = w.setCell ⟨g, j, none⟩ (.int .u8 (x.toNat : Int)) := rfl
  rw [e] at hin hout
  refine ⟨⟨h.lo, by simpa using h.hi, by rw [List.length_set]; exact h.len, fun i hi => ?_, fun i hi => ?_⟩, (Below.refl base w).setCell (p := ⟨g, j, none⟩) h.lo _⟩
  · rw [List.getD_eq_getElem?_getD, List.getElem?_set]
    by_cases q : j = i
    · subst q
      have := hin 0 (by simp)
      simp only [Nat.add_zero] at this
      rw [this, if_pos rfl, if_pos (by rw [h.len]; exact hj)]
      rfl
    · rw [hout ⟨g, i, none⟩ (fun _ _ => by simp; omega), h.cell i hi, if_neg q, List.getD_eq_getElem?_getD]
  · have := World.frozen?_setCells g [Value.int .u8 (x.toNat : Int)] j w ⟨g, i, none⟩
    rw [e] at this
    rw [this]
    exact h.free i hi
theorem info8 : (Tryz.prog.info? 5).map (fun i => (i.zero, i.size, i.bytes)) = some (some (.int .u8 0), 1, 1) := by kernel_rfl
theorem wpList_append8 {w : World} {ops : Array Oper} {rest : List Oper} {o : Oper} {a : Act} {Q : Exit → Act → World → Prop} (hgd : o.guard = none) (s x : Operand) (t : TypeId)
    (ho : o.op = .call { callee := .builtin .append, args := #[s, x], argTypes := #[t, t] }) (v u : Value) (hs : a.eval s = v) (hx : a.eval x = u) {v' : Value} {w' : World}
    (hr : (Builtin.append_ #[t, t] o.type #[v, u]).run Tryz.prog w = .ok v' w') (h : wpList Tryz.prog ops Q rest (a.put o.dst v') w') : wpList Tryz.prog ops Q (o :: rest) a w := by
  refine wpList_plain hgd fun K hK => ?_
  unfold Oper.wp execOp
  simp only [ho, resolve, invoke, builtin, Sem.run_bind, Sem.run_pure, Result.andThen_ok, List.map_toArray, List.map_cons, List.map_nil, hs, hx, hr]
  exact hK _ _ h
/-- a slice of bytes as a text -/
theorem conv8 {w : World} {a : Option Addr} {n c : Nat} {l : List UInt8} (h : Rb w a n c l) : (convert 23 9 (.slice a n c)).run Tryz.prog w = .ok (.string ⟨l.toArray⟩) w := by
  have hl := h.len
  cases a with
  | none =>
    by_cases h0 : n = 0
    · have e : l = [] := List.eq_nil_of_length_eq_zero (by omega)
      subst e
      subst h0
      exact run_convert_bytes_nil (P := Tryz.prog) w 23 5 Tryz.underlying23 Tryz.underlying5 0 c 9 Tryz.underlying9
    · obtain ⟨g, o, e, _⟩ := h.cells (by omega)
      cases e
  | some a =>
    have r := run_convert_bytes_back (P := Tryz.prog) w 23 9 5 a c l Tryz.underlying23 Tryz.underlying5 Tryz.underlying9 (fun j hj => by
      refine h.add j _ ?_
      unfold nz
      rw [List.getElem?_map, List.getElem?_eq_getElem hj]
      rfl)
    rw [hl] at r
    exact r
/-- a row of one byte, of two, just laid -/
theorem rb_one (w : World) {X : Int} {x : UInt8} (h : X = (x.toNat : Int)) : Rb (w.alloc (.cells #[.int .u8 X] 5)) (some ⟨w.heap.size, 0, none⟩) 1 1 [x] :=
  ⟨⟨rfl, Or.inr ⟨w.heap.size, 0, rfl, by simp, fun i hi => by
    have : i = 0 := by omega
    subst this
    subst h
    simp [nz]⟩⟩, Nat.le_refl _, by omega⟩
theorem rb_two (w : World) {X Y : Int} {x y : UInt8} (h : X = (x.toNat : Int)) (k : Y = (y.toNat : Int)) : Rb (w.alloc (.cells #[.int .u8 X, .int .u8 Y] 5)) (some ⟨w.heap.size, 0, none⟩) 2 2 [x, y] :=
  ⟨⟨rfl, Or.inr ⟨w.heap.size, 0, rfl, by simp, fun i hi => by
    subst h
    subst k
    rcases (by omega : i = 0 ∨ i = 1) with rfl | rfl <;> simp [nz]⟩⟩, Nat.le_refl _, by omega⟩
/-- a slice that the call has made -/
def Ob (w : World) (base : Nat) (v : Value) (l : List UInt8) : Prop := Own .u8 w base 5 v (nz l)
theorem Ob.nil (w : World) (base : Nat) : Ob w base (.slice none 0 0) [] := own_nil _ _ _ _
theorem Ob.later {w w' : World} {base : Nat} {v : Value} {l : List UInt8} (h : Ob w base v l) (hb : Below w.heap.size w w') : Ob w' base v l := Own.later h hb
theorem Ob.alloc {w : World} {base : Nat} {v : Value} {l : List UInt8} (h : Ob w base v l) (o : Obj) : Ob (w.alloc o) base v l := h.later (alloc_below _)
theorem Ob.wider {w : World} {base base' : Nat} {v : Value} {l : List UInt8} (h : Ob w base v l) (hb : base' ≤ base) : Ob w base' v l := Own.wider h hb
theorem Ob.row {w : World} {base : Nat} {v : Value} {l : List UInt8} (h : Ob w base v l) : ∃ a c, v = .slice a l.length c ∧ Rb w a l.length c l := by
  obtain ⟨a, c, rfl, h1, h2, h3⟩ := Own.reads h
  rw [nz_len] at *
  exact ⟨a, c, rfl, h3, h1, by unfold maxLen at h2; omega⟩
/-- an append: what the elder slice reads stays -/
theorem run_append_keep8 {P : Program} (w : World) (base : Nat) (t ty e : TypeId) (i : TypeInfo) (z : Value) (bytes : Nat) (ht : P.underlying t = some (.slice e)) (hi : P.info? e = some i) (hz : i.zero = some z)
    (hsize : i.size = 1) (hby : i.bytes = bytes) (hzs : z.cells.size = 1)
    (v : Value) (n : Nat) (xs : List Value) (hown : w.ownsRow base e 1 v n xs)
    (a : Addr) (m c : Nat) (news : List Value) (hl : news.length = m * 1) (hnews : ∀ j u, news[j]? = some u → w.cell? (a.add j) = some u) (h1 : ∀ u ∈ news, u.oneCell' = true)
    (h63 : n + m ≤ maxLen) (hbytes : (n + m) * bytes ≤ 140737488355328) (hbase : base ≤ w.heap.size) :
    ∃ v' w', (Builtin.append_ #[t, t] ty #[v, .slice (some a) m c]).run P w = .ok v' w' ∧ w'.ownsRow base e 1 v' (n + m) (xs ++ news) ∧ w.grownBy w' v.ownBlock ∧ w'.ownsRow base e 1 v n xs ∧ (v'.ownBlock = v.ownBlock ∨ ∃ g, v'.ownBlock = some g ∧ w.heap.size ≤ g) := by
  obtain ⟨v', w', hr, h2, h3, h4⟩ := run_append_own (P := P) w base t ty e i z 1 bytes ht hi hz hsize hby hzs (by omega) v n xs hown a m c news hl hnews h1 h63 hbytes hbase
  refine ⟨v', w', hr, h2, h3, ?_⟩
  subst hby
  have hsmall : n + m ≤ 9223372036854775807 := by simp only [maxLen] at h63; omega
  rcases hown.2 with ⟨rfl, rfl⟩ | ⟨g, cap, cur, rfl, hbg, hg, hnc, hcm, hcs, htake⟩
  · have hx : xs = [] := List.eq_nil_of_length_eq_zero (by simpa using hown.1)
    subst hx
    refine ⟨World.ownsRow_nil _ _ _ _, ?_⟩
    by_cases hm : m = 0
    · left
      have := h4.mpr ⟨rfl, hm⟩
      rw [this]
    · right
      have hr2 := run_append_nil (P := P) w t ty e i z ht hi hz a m c news (by rw [hsize]; exact hl) hnews (by omega) (by omega) (by have hb := hbytes; simp only [Nat.zero_add] at hb; omega)
      rw [hr2] at hr
      simp only [Result.ok.injEq] at hr
      obtain ⟨rfl, _⟩ := hr
      exact ⟨w.heap.size, rfl, Nat.le_refl _⟩
  · have hlen : (xs ++ news).length = (n + m) * 1 := by rw [List.length_append, hown.1, hl, Nat.add_mul]
    by_cases hroom : n + m ≤ cap
    · have hfit : n * i.size + news.length ≤ cur.size := by rw [hsize, hl, hcs]; omega
      have hr2 := run_append_room (P := P) w t ty e i ht hi g n cap cur hg a m c news (by rw [hsize]; exact hl) hnews h1 hroom hfit
      rw [hr2] at hr
      simp only [Result.ok.injEq] at hr
      obtain ⟨rfl, rfl⟩ := hr
      refine ⟨⟨hown.1, Or.inr ⟨g, cap, _, rfl, hbg, setRow_heap w g cur _ e _ hg, hnc, hcm, ?_, ?_⟩⟩, Or.inl rfl⟩
      · simp only [List.size_toArray, List.length_append, List.length_take, List.length_drop, Array.length_toList, hsize]
        omega
      · simp only [hsize, Nat.mul_one] at *
        rw [List.append_assoc, List.take_append_of_le_length (by rw [List.length_take, Array.length_toList]; omega), List.take_take, Nat.min_self]
        exact htake
    · have holds : ∀ j u, xs[j]? = some u → w.cell? ((⟨g, 0, none⟩ : Addr).add j) = some u := hown.cells (g := g) rfl
      have hr2 := run_append_grow (P := P) w t ty e i z ht hi hz ⟨g, 0, none⟩ n cap xs (by rw [hsize]; exact hown.1) holds a m c news (by rw [hsize]; exact hl) hnews (by omega) (by omega) (growslice_fits (by omega) hbytes)
      rw [hr2] at hr
      simp only [Result.ok.injEq] at hr
      obtain ⟨rfl, rfl⟩ := hr
      have hlt : g < w.heap.size := by
        by_cases hlt : g < w.heap.size
        · exact hlt
        · simp [Array.getElem?_eq_none (Nat.le_of_not_lt hlt)] at hg
      refine ⟨⟨hown.1, Or.inr ⟨g, cap, cur, rfl, hbg, ?_, hnc, hcm, hcs, htake⟩⟩, Or.inr ⟨w.heap.size, rfl, Nat.le_refl _⟩⟩
      rw [heap_alloc_old w.drew _ (r := g) hlt]
      exact hg
/-- an append of bytes, none perhaps -/
theorem run_app8 (w : World) {base : Nat} {v : Value} {l s : List UInt8} (ho : Ob w base v l) {a : Option Addr} {m c : Nat} (hs : Rb w a m c s) (hb : l.length + m ≤ 140737488355328) (hbase : base ≤ w.heap.size) (ty : TypeId) :
    ∃ v' w', (Builtin.append_ #[23, 23] ty #[v, .slice a m c]).run Tryz.prog w = .ok v' w' ∧ Ob w' base v' (l ++ s) ∧ w.grownBy w' v.ownBlock ∧ Ob w' base v l ∧ (v'.ownBlock = v.ownBlock ∨ ∃ g, v'.ownBlock = some g ∧ w.heap.size ≤ g) := by
  obtain ⟨i, hi, hz0, hz1, hz2⟩ := info_parts info8
  have hsl := hs.len
  by_cases hm : 0 < m
  · obtain ⟨b, off, rfl, hbB, hc⟩ := hs.cells hm
    obtain ⟨v', w', hr, h2, h3, h4, h5⟩ := run_append_keep8 (P := Tryz.prog) w base 23 ty 5 i (.int .u8 0) 1 Tryz.underlying23 hi hz0 hz1 hz2 rfl v (nz l).length ((nz l).map (Value.int .u8)) ho ⟨b, off, none⟩ m c ((nz s).map (Value.int .u8)) (by rw [List.length_map, nz_len, hsl, Nat.mul_one])
      (fun j u hj => by
        rw [List.getElem?_map] at hj
        obtain ⟨x, hx, rfl⟩ := Option.map_eq_some_iff.1 hj
        exact hs.add j x hx)
      (fun u hu => by obtain ⟨x, _, rfl⟩ := List.mem_map.1 hu; rfl) (by rw [nz_len]; unfold maxLen; omega) (by rw [nz_len]; omega) hbase
    refine ⟨v', w', hr, ?_, h3, h4, h5⟩
    unfold Ob Own
    rw [nz_app, List.map_append, List.length_append, nz_len s, hsl]
    exact h2
  · have hm0 : m = 0 := by omega
    subst hm0
    have he : s = [] := List.eq_nil_of_length_eq_zero hsl
    subst he
    refine ⟨v, w, ?_, by rw [List.append_nil]; exact ho, ⟨rfl, rfl, rfl, Nat.le_refl _, fun _ _ _ => rfl⟩, ho, Or.inl rfl⟩
    rcases ho.2 with ⟨rfl, _⟩ | ⟨g, cap, cur, rfl, hbg, hg, hnc, hcm, hcs, htake⟩
    · cases a <;> simp [Builtin.append_, run_underlying Tryz.underlying23, Result.andThen, sizeOf, typeInfo, hi, hz1, Builtin.lenOf, Builtin.firstCells, loadCells, loadCellsFrom]
    · cases a <;> simp [Builtin.append_, run_underlying Tryz.underlying23, Result.andThen, hnc, sizeOf, typeInfo, hi, hz1, Builtin.lenOf, Builtin.firstCells, loadCells, loadCellsFrom, storeCells]
/-- what an append leaves of the elder slice, and where the new one lies -/
def Kept8 (w w' : World) (base : Nat) (v v' : Value) (l : List UInt8) : Prop := Ob w' base v l ∧ (v'.ownBlock = v.ownBlock ∨ ∃ g, v'.ownBlock = some g ∧ w.heap.size ≤ g)
theorem wpList_app8 {w : World} {ops : Array Oper} {rest : List Oper} {o : Oper} {a : Act} {Q : Exit → Act → World → Prop} (hgd : o.guard = none) (s x : Operand)
    (ho : o.op = .call { callee := .builtin .append, args := #[s, x], argTypes := #[23, 23] }) {base : Nat} {v : Value} {l r : List UInt8} (hs : a.eval s = v) (hO : Ob w base v l) {ad : Option Addr} {m c : Nat} (hx : a.eval x = .slice ad m c) (hr : Rb w ad m c r) (hb : l.length + m ≤ 140737488355328) (hbase : base ≤ w.heap.size)
    (h : ∀ v' w', Ob w' base v' (l ++ r) → w.grownBy w' v.ownBlock → Kept8 w w' base v v' l → wpList Tryz.prog ops Q rest (a.put o.dst v') w') : wpList Tryz.prog ops Q (o :: rest) a w := by
  obtain ⟨v', w', hrun, h1, h2, h3⟩ := run_app8 w hO hr hb hbase o.type
  exact wpList_append8 hgd s x 23 ho _ _ hs hx hrun (h v' w' h1 h2 h3)
theorem step_app8 {w : World} {ops : Array Oper} {o : Oper} {a : Act} {K : Act → World → Prop} {Q : Exit → Act → World → Prop} {E : Prop} (hgd : o.guard = none) (s x : Operand)
    (ho : o.op = .call { callee := .builtin .append, args := #[s, x], argTypes := #[23, 23] }) {base : Nat} {v : Value} {l r : List UInt8} (hs : a.eval s = v) (hO : Ob w base v l) {ad : Option Addr} {m c : Nat} (hx : a.eval x = .slice ad m c) (hr : Rb w ad m c r) (hb : l.length + m ≤ 140737488355328) (hbase : base ≤ w.heap.size)
    (h : ∀ v' w', Ob w' base v' (l ++ r) → w.grownBy w' v.ownBlock → Kept8 w w' base v v' l → K (a.put o.dst v') w') : if Region.wanted o (yielded ops a.tmps) = true then Oper.wp Tryz.prog o a w K Q else E := by
  obtain ⟨v', w', hrun, h1, h2, h3⟩ := run_app8 w hO hr hb hbase o.type
  have hw : Region.wanted o (yielded ops a.tmps) = true := by simp [Region.wanted, hgd]
  rw [if_pos hw]
  unfold Oper.wp execOp
  simp only [ho, resolve, invoke, builtin, Sem.run_bind, Sem.run_pure, Result.andThen_ok, List.map_toArray, List.map_cons, List.map_nil, hs, hx, hrun]
  exact h v' w' h1 h2 h3
theorem Ob.blk {w : World} {base : Nat} {v : Value} {l : List UInt8} (h : Ob w base v l) {g : Nat} (hg : v.ownBlock = some g) : base ≤ g ∧ g < w.heap.size := by
  rcases h.2 with ⟨hv, _⟩ | ⟨g', cap, cur, hv, hb, hc, _⟩
  · rw [hv] at hg; simp [Value.ownBlock] at hg
  · rw [hv] at hg
    simp only [Value.ownBlock, Option.some.injEq] at hg
    subst hg
    refine ⟨hb, ?_⟩
    by_cases hlt : g' < w.heap.size
    · exact hlt
    · simp [Array.getElem?_eq_none (Nat.le_of_not_lt hlt)] at hc
/-- behind an append nothing below the base has turned -/
theorem Ob.below {w0 w w' : World} {base : Nat} {v : Value} {l : List UInt8} (h : Ob w base v l) (hB : Below base w0 w) (h0 : base ≤ w0.heap.size) (hg : w.grownBy w' v.ownBlock) : Below base w0 w' :=
  hB.grown hg (Nat.le_trans h0 hB.size) (fun k hk => (h.blk hk).1)
/-- a row in a block that has not turned -/
theorem Ob.keep {w w' : World} {base : Nat} {v : Value} {l : List UInt8} (h : Ob w base v l) {r : Option Nat} (hg : w.grownBy w' r) (hne : ∀ g, v.ownBlock = some g → r ≠ some g) : Ob w' base v l := by
  obtain ⟨h1, h2⟩ := h
  refine ⟨h1, ?_⟩
  rcases h2 with h2 | ⟨g, c, cur, hv, hb, hc, q⟩
  · exact Or.inl h2
  · have hlt : g < w.heap.size := by
      by_cases hlt : g < w.heap.size
      · exact hlt
      · simp [Array.getElem?_eq_none (Nat.le_of_not_lt hlt)] at hc
    refine Or.inr ⟨g, c, cur, hv, hb, ?_, q⟩
    rw [hg.block g hlt (fun q => hne g (by rw [hv]; rfl) q.symm)]
    exact hc
/-- a make with spare room -/
theorem run_make8 (w : World) {n c : Nat} (hn : n ≤ c) (hc : c ≤ 281474976710656) :
    ∃ w', (Instr.makeSlice 23 (.int .i64 (n : Int)) (.int .i64 (c : Int))).run Tryz.prog w = .ok (.slice (some ⟨w.heap.size, 0, none⟩) n c) w' ∧ Ob w' w.heap.size (.slice (some ⟨w.heap.size, 0, none⟩) n c) (List.replicate n 0) ∧ Below w.heap.size w w' := by
  obtain ⟨i, hi, hz0, hz1, hz2⟩ := info_parts info8
  have hr := run_make (P := Tryz.prog) w 23 5 i (.int .u8 0) Tryz.underlying23 hi hz0 .i64 .i64 (n : Int) (c : Int) (by omega) (by omega) (by rw [hz2]; omega) (by omega)
  simp only [Int.toNat_natCast, hz1, Nat.mul_one] at hr
  refine ⟨_, hr, ?_, alloc_below _⟩
  have e2 : nz (List.replicate n 0) = List.replicate n (0 : Int) := by unfold nz; rw [List.map_replicate]; rfl
  unfold Ob
  rw [e2]
  refine ⟨by simp, Or.inr ⟨w.heap.size, c, _, by simp, Nat.le_refl _, heap_alloc_new _ _, by simpa using hn, by unfold maxLen; omega, by rw [size_madeCells, Nat.mul_one], ?_⟩⟩
  have e1 : (madeCells (Value.int .u8 0).cells c).toList = List.replicate c (.int .u8 0) := toList_madeCells_one _ _
  rw [e1, List.take_replicate]
  simp
  omega
theorem wpList_make8 {w : World} {ops : Array Oper} {rest : List Oper} {o : Oper} {a : Act} {Q : Exit → Act → World → Prop} (hg : o.guard = none) (l c : Operand) (hop : o.op = Op.makeSlice 23 l c) {n k : Nat} {N K : Int} (hl : a.eval l = .int .i64 N) (hc : a.eval c = .int .i64 K) (hN : N = (n : Int)) (hK : K = (k : Int)) (hn : n ≤ k) (hk : k ≤ 281474976710656)
    (h : ∀ w', Ob w' w.heap.size (.slice (some ⟨w.heap.size, 0, none⟩) n k) (List.replicate n 0) → Below w.heap.size w w' → wpList Tryz.prog ops Q rest (a.put o.dst (.slice (some ⟨w.heap.size, 0, none⟩) n k)) w') : wpList Tryz.prog ops Q (o :: rest) a w := by
  refine wpList_plain hg fun K' hK' => ?_
  obtain ⟨w', hrun, r1, r2⟩ := run_make8 w hn hk
  subst hK
  subst hN
  unfold Oper.wp
  simp [execOp, hop, hl, hc, hrun, Result.andThen]
  exact hK' _ _ (h w' r1 r2)
end Go.Proofs.YtgobnjeankjkjaaGreatDoor

/- Layer 16, the law's own: same, lent, kept over bytes. -/
namespace Go.Proofs.YtgobnjeankjkjaaGreatDoor
open Go.ChangeShapes Go.WideShapes Go.ChangeAt Go.RowKit
open Ep Oc
set_option linter.unusedVariables false
namespace Ep
theorem takeD {xs : List UInt8} {k : Nat} (h : k < xs.length) : xs.take (k + 1) = xs.take k ++ [xs.getD k 0] := by
  rw [List.take_succ_eq_append_getElem h]
  simp [List.getD_eq_getElem?_getD, List.getElem?_eq_getElem h]
end Ep
end Go.Proofs.YtgobnjeankjkjaaGreatDoor

/- Layer 16: slices.Reverse of bytes, octet.lay, Put32, Put64. -/
namespace Go.Proofs.YtgobnjeankjkjaaGreatDoor
open Go.ChangeShapes Go.WideShapes Go.ChangeAt Go.RowKit
open Ep Oc
set_option linter.unusedVariables false
namespace Oc
/-- two bytes change places -/
def swp (l : List UInt8) (i j : Nat) : List UInt8 := (l.set i (l.getD j 0)).set j (l.getD i 0)
theorem swp_len (l : List UInt8) (i j : Nat) : (swp l i j).length = l.length := by unfold swp; simp
theorem swp_app (p t : List UInt8) (i j : Nat) : swp (p ++ t) (p.length + i) (p.length + j) = p ++ swp t i j := by
  unfold swp
  have hg : ∀ k, (p ++ t).getD (p.length + k) 0 = t.getD k 0 := fun k => by
    rw [List.getD_eq_getElem?_getD, List.getD_eq_getElem?_getD, List.getElem?_append_right (by omega), Nat.add_sub_cancel_left]
  rw [hg, hg, List.set_append_right _ _ (by omega), Nat.add_sub_cancel_left, List.set_append_right _ _ (by omega), Nat.add_sub_cancel_left]
/-- the outer q pairs turned -/
def rvk (t : List UInt8) : Nat → List UInt8
  | 0 => t
  | q + 1 => swp (rvk t q) q (t.length - 1 - q)
theorem rvk_len (t : List UInt8) : ∀ q, (rvk t q).length = t.length
  | 0 => rfl
  | q + 1 => by show (swp _ _ _).length = _; rw [swp_len, rvk_len t q]
theorem rvk_four {t : List UInt8} (h : t.length = 4) : rvk t 2 = t.reverse := by
  match t, h with
  | [a, b, c, d], _ => rfl
theorem rvk_eight {t : List UInt8} (h : t.length = 8) : rvk t 4 = t.reverse := by
  match t, h with
  | [a, b, c, d, e, f, g, h], _ => rfl
def bitsAt (n k : Nat) : Nat := 256 ^ (n - k) - 1
theorem bitsAt_next {n k : Nat} (h : k < n) : bitsAt n k / 256 = bitsAt n (k + 1) := by
  unfold bitsAt
  obtain ⟨m, rfl⟩ : ∃ m, n = k + m + 1 := ⟨n - k - 1, by omega⟩
  rw [show k + m + 1 - k = m + 1 by omega, show k + m + 1 - (k + 1) = m by omega, Nat.pow_succ]
  have := Nat.pow_pos (n := m) (show 0 < 256 by decide)
  omega
theorem bitsAt_pos {n k : Nat} (h : k < n) : 0 < bitsAt n k := by
  unfold bitsAt
  have : 256 ^ 1 ≤ 256 ^ (n - k) := Nat.pow_le_pow_right (by decide) (by omega)
  omega
theorem bitsAt_end (n : Nat) : bitsAt n n = 0 := by unfold bitsAt; rw [Nat.sub_self]
theorem bitsAt_le {n k : Nat} (h : k ≤ n) : bitsAt n k ≤ bitsAt n 0 := by
  unfold bitsAt
  have : 256 ^ (n - k) ≤ 256 ^ (n - 0) := Nat.pow_le_pow_right (by decide) (by omega)
  omega
theorem div_next (v k : Nat) : v / 256 ^ k / 256 = v / 256 ^ (k + 1) := by rw [Nat.div_div_eq_div_mul, Nat.pow_succ]
end Oc
theorem Ob.set {w : World} {base g n cap : Nat} {l : List UInt8} (h : Ob w base (.slice (some ⟨g, 0, none⟩) n cap) l) (hn : n = l.length) (j : Nat) (x : UInt8) {X : Int} (hX : X = (x.toNat : Int)) : Ob (w.setCell ⟨g, j, none⟩ (.int .u8 X)) base (.slice (some ⟨g, 0, none⟩) n cap) (l.set j x) := by
  subst hX
  have := Own.set h (by rw [nz_len]; exact hn) j (x.toNat : Int)
  unfold Ob
  rw [show nz (l.set j x) = (nz l).set j (x.toNat : Int) by unfold nz; rw [List.map_set]]
  exact this
theorem Ob.at {w : World} {base g n cap : Nat} {l : List UInt8} (h : Ob w base (.slice (some ⟨g, 0, none⟩) n cap) l) (hn : n = l.length) {j : Nat} (hj : j < n) : w.cell? ⟨g, j, none⟩ = some (.int .u8 ((l.getD j 0).toNat : Int)) := by
  rw [← nz_at]
  exact Own.cellAt h (by rw [nz_len]; exact hn) hj
theorem Ob.free {w : World} {base g n cap : Nat} {l : List UInt8} (h : Ob w base (.slice (some ⟨g, 0, none⟩) n cap) l) (hn : n = l.length) (j : Nat) : w.frozen? ⟨g, j, none⟩ = false := Own.frozenAt h (by rw [nz_len]; exact hn) j
theorem Ob.shape {w : World} {base : Nat} {v : Value} {l : List UInt8} (h : Ob w base v l) (hl : 0 < l.length) : ∃ g c, v = .slice (some ⟨g, 0, none⟩) l.length c ∧ l.length ≤ c ∧ c ≤ 9223372036854775807 ∧ base ≤ g ∧ g < w.heap.size := by
  rcases h.2 with ⟨hv, h0⟩ | ⟨g', cap, cur, hv, hb, hc, hn, hm, _⟩
  · rw [nz_len] at h0; omega
  · rw [nz_len] at hv hn
    refine ⟨g', cap, hv, hn, by unfold maxLen at hm; omega, hb, ?_⟩
    by_cases hlt : g' < w.heap.size
    · exact hlt
    · simp [Array.getElem?_eq_none (Nat.le_of_not_lt hlt)] at hc
set_option maxHeartbeats 3200000 in
set_option maxRecDepth 100000 in
theorem reverse8_any {w : World} {base g N cap o m c : Nat} {p t : List UInt8} (hO : Ob w base (.slice (some ⟨g, 0, none⟩) N cap) (p ++ t)) (hN : N = (p ++ t).length) (ho : p.length = o) (hm : t.length = m) (hm2 : m = 4 ∨ m = 8) (hN9 : N ≤ 1000000000) (hc : m ≤ c) :
    Calls Tryz.prog 50 #[.slice (some ⟨g, o, none⟩) m c] w fun e w' => e = .returned (.tuple #[]) ∧ Ob w' base (.slice (some ⟨g, 0, none⟩) N cap) (p ++ t.reverse) ∧ Below base w w' := by
  have HN : Hid (N = o + m) := by show _ = _; rw [hN, List.length_append, ho, hm]
  have HO : Hid (p.length = o) := ho
  have HM : Hid (t.length = m) := hm
  have HE : Hid (rvk t (m / 2) = t.reverse) := by
    show _ = _
    rcases hm2 with h | h
    · rw [h, rvk_four (by omega)]
    · rw [h, rvk_eight (by omega)]
  have hoN : o + m ≤ N := by rw [HN.out]; exact Nat.le_refl _
  have hbg : base ≤ g := Own.base_le hO
  have hm4 : 4 ≤ m := by omega
  have hm8 : m ≤ 8 := by omega
  have HP : Hid (m = 4 ∨ m = 8) := hm2
  clear hN ho hm hm2
  go_enter Tryz.func50, Tryz.ntmps50
  go_wp2
  go_loopw [2, 3] (fun i j wr => ∃ q : Nat, i = .int .i64 q ∧ j = .int .i64 ((m : Int) - 1 - q) ∧ 2 * q ≤ m ∧ Ob wr base (.slice (some ⟨g, 0, none⟩) N cap) (p ++ rvk t q) ∧ Below base w wr) (fun i _ _ => m - (intOf i).toNat)
  case atStart => exact ⟨0, rfl, by simp, by omega, hO, Below.refl _ _⟩
  case round =>
    obtain ⟨q, rfl, rfl, hq, hO1, hb1⟩ := hrel
    clear hO
    by_cases hlt : 2 * q + 1 < m
    · have hlen : N = (p ++ rvk t q).length := by rw [List.length_append, rvk_len, HO.out, HM.out]; exact HN.out
      obtain ⟨r, hr⟩ : ∃ r : Nat, (m : Int) - 1 - q = (r : Int) := ⟨m - 1 - q, by omega⟩
      have hr1 : q < r := by omega
      have hr2 : r < m := by omega
      have HR : Hid (r = t.length - 1 - q) := by show _ = _; rw [HM.out]; omega
      have HR2 : Hid ((m : Int) - 1 - ((q + 1 : Nat) : Int) = (r : Int) - 1) := by show _ = _; omega
      have c1 := hO1.at hlen (j := o + q) (by omega)
      have c2 := hO1.at hlen (j := o + r) (by omega)
      have f1 := hO1.free hlen (o + q)
      have f2 := hO1.free hlen (o + r)
      have hO2 := (hO1.set hlen (o + q) ((p ++ rvk t q).getD (o + r) 0) rfl).set (by rw [List.length_set]; exact hlen) (o + r) ((p ++ rvk t q).getD (o + q) 0) rfl
      have HS : Hid (((p ++ rvk t q).set (o + q) ((p ++ rvk t q).getD (o + r) 0)).set (o + r) ((p ++ rvk t q).getD (o + q) 0) = p ++ rvk t (q + 1)) := by
        show swp (p ++ rvk t q) (o + q) (o + r) = p ++ swp (rvk t q) q (t.length - 1 - q)
        rw [← HR.out, ← HO.out, swp_app]
      rw [HS.out] at hO2
      have hne1 : ¬ o + q = o + r := by omega
      have hne2 : ¬ o + r = o + q := by omega
      generalize ((p ++ rvk t q).getD (o + q) 0) = x at *
      generalize ((p ++ rvk t q).getD (o + r) 0) = y at *
      have hb2 : Below base w ((wr.setCell ⟨g, o + q, none⟩ (.int .u8 (y.toNat : Int))).setCell ⟨g, o + r, none⟩ (.int .u8 (x.toNat : Int))) := (hb1.setCell hbg _).setCell hbg _
      have hri : (r : Int).toNat = r := by omega
      have hr9 : (r : Int) ≤ 100 := by omega
      have hr0 : 0 ≤ (r : Int) := by omega
      have hqr : (q : Int) < (r : Int) := by omega
      have hq9 : (q : Int) ≤ 100 := by omega
      rw [hr]
      clear hO1 hlen HS hr HR hb1
      go_wp2
      go_region
      have hO3 := hO2.later (below_drewN (Below.refl _ _) 1)
      have hb3 := below_drewN hb2 1
      clear hO2 hb2
      generalize hW : ((wr.setCell ⟨g, o + q, none⟩ (.int .u8 (y.toNat : Int))).setCell ⟨g, o + r, none⟩ (.int .u8 (x.toNat : Int))).drew = w3
      have hO4 : Ob w3 base (.slice (some ⟨g, 0, none⟩) N cap) (p ++ rvk t (q + 1)) := by rw [← hW]; exact hO3
      have hb4 : Below base w w3 := by rw [← hW]; exact hb3
      clear hO3 hb3 hW
      go_wp2
      go_roundw
      case rel => exact ⟨q + 1, by go_num, by rw [HR2.out], by omega, hO4, hb4⟩
      case measure => simp [intOf]; omega
    · have HQ : Hid (q = m / 2) := by show _ = _; rcases HP.out with h | h <;> omega
      rw [HQ.out, HE.out] at hO1
      clear HQ
      have hnl : ¬ (q : Int) < (m : Int) - 1 - q := by omega
      go_wp2
      go_end0
      exact ⟨rfl, hO1, hb1⟩
set_option maxHeartbeats 3200000 in
set_option maxRecDepth 100000 in
theorem lay32_any {w : World} {a : Option Addr} {n c V : Nat} {l : List UInt8} {little : Bool} (h : Rb w a n c l) (hn : n ≤ 100000000) (hV : V < 256 ^ 4) :
    Calls Tryz.prog 31 #[.slice a n c, .int .u32 (V : Int), .bool little] w fun e w' => ∃ v, e = .returned v ∧ Ob w' w.heap.size v (l ++ ord 4 V little) ∧ Below w.heap.size w w' := by
  have HL : Hid (l.length = n) := h.len
  have hVM : V ≤ 4294967295 := Nat.le_of_lt_succ hV
  have hc9 := h.2
  have hx0 : bits BinOp.xor IntKind.u32 IntKind.u32.max 0 = 4294967295 := by decide
  go_enter Tryz.func31, Tryz.ntmps31
  go_wp2_with (at_make; refine wpList_make8 rfl _ _ rfl (n := 0) (k := n + 8) rfl rfl rfl (by omega) (by omega) (by omega) ?_)
  intro w1 hO1 hb1
  go_wp2_with (at_builtin; refine wpList_app8 rfl _ _ rfl rfl hO1 rfl (h.later hb1) (by simp; omega) hb1.size ?_)
  intro v2 w2 hO2 hg2 hkp
  clear hkp
  have hb2 := hO1.below hb1 (Nat.le_refl _) hg2
  clear hg2 hO1 hb1
  go_wp2
  go_loopw [1, 7, 8] (fun x o b wr => ∃ k : Nat, k ≤ 4 ∧ x = .int .u32 ((V / 256 ^ k : Nat) : Int) ∧ b = .int .u32 ((bitsAt 4 k : Nat) : Int) ∧ Ob wr w.heap.size o (l ++ le k V) ∧ Below w.heap.size w wr) (fun _ _ b _ => (intOf b).toNat)
  case atStart => exact ⟨0, by omega, by simp, rfl, by rw [show le 0 V = [] from rfl, List.append_nil]; exact hO2, hb2⟩
  case round =>
    obtain ⟨k, hk, rfl, rfl, hO3, hb3⟩ := hrel
    clear hO2 hb2
    have hble := bitsAt_le hk
    have hb0 : bitsAt 4 0 = 4294967295 := by decide
    rw [hb0] at hble
    by_cases hlt : k < 4
    · have hpos := bitsAt_pos hlt
      have HB : Hid (((bitsAt 4 k : Nat) : Int) / 256 = ((bitsAt 4 (k + 1) : Nat) : Int)) := by show _ = _; rw [← bitsAt_next hlt]; omega
      have HX : Hid (((V / 256 ^ k : Nat) : Int) / 256 = ((V / 256 ^ (k + 1) : Nat) : Int)) := by show _ = _; rw [← div_next]; omega
      have HA : Hid (l ++ le (k + 1) V = l ++ (le k V ++ [UInt8.ofNat (V / 256 ^ k % 256)])) := by show _ = _; rw [le_next]
      have hx9 : V / 256 ^ k ≤ 4294967295 := Nat.le_trans (Nat.div_le_self _ _) hVM
      have HN : Hid ((l ++ le k V).length ≤ n + 4) := by show _ ≤ _; rw [List.length_append, HL.out, le_len]; omega
      have hlt2 : bitsAt 4 (k + 1) < bitsAt 4 k := by rw [← bitsAt_next hlt]; omega
      generalize bitsAt 4 k = B at *
      generalize V / 256 ^ k = X at *
      have hX8 : Hid (((X : Int) % 256) = (((UInt8.ofNat (X % 256)).toNat : Nat) : Int)) := by show _ = _; rw [UInt8.toNat_ofNat', show (2 : Nat) ^ 8 = 256 from rfl]; omega
      have t1 : ((B : Int) != 0) = true := by simp; omega
      go_wp2_with (at_builtin; refine wpList_app8 rfl _ _ rfl rfl (hO3.alloc _) rfl (rb_one wr (x := UInt8.ofNat (X % 256)) hX8.out) (by have := HN.out; omega) (by simp; have := hb3.size; omega) ?_)
      intro v4 w4 hO4 hg4 hkp
      clear hkp
      have hb4 := (hO3.alloc _).below (hb3.alloc hb3.size _) (Nat.le_refl _) hg4
      rw [← HA.out] at hO4
      clear hg4 hO3 hb3
      go_wp2
      go_roundw
      case rel => exact ⟨k + 1, by omega, by rw [← HX.out], by rw [← HB.out], hO4, hb4⟩
      case measure => simp [intOf]; omega
    · have hkn : k = 4 := by omega
      subst hkn
      have t1 : (((bitsAt 4 4 : Nat) : Int) != 0) = false := by rw [bitsAt_end]; rfl
      have HN : Hid ((l ++ le 4 V).length = n + 4) := by show _ = _; rw [List.length_append, HL.out, le_len]
      have hnn := HN.out
      generalize bitsAt 4 4 = B at *
      generalize V / 256 ^ 4 = X at *
      obtain ⟨g4, c4, rfl, hc4, hc4', hg4, hg4'⟩ := hO3.shape (by omega)
      rw [hnn] at hO3 hc4
      rw [hnn]
      cases little
      · have hR := reverse8_any (o := n) (m := 4) (c := c4 - n) hO3 hnn.symm HL.out (le_len _ _) (by omega) (by omega) (by omega)
        clear hnn HN
        go_wp2_with fail
        refine hR.mono ?_
        rintro e w5 ⟨rfl, hO5, hb5⟩
        have hb6 := hb3.trans hb5
        clear hR hb5 hb3 hO3
        go_wp2
        go_ret
        exact ⟨_, rfl, hO5, hb6⟩
      · clear hnn HN
        go_wp2
        go_ret
        exact ⟨_, rfl, hO3, hb3⟩
set_option maxHeartbeats 1600000 in
theorem put32_any {w : World} {a : Option Addr} {n c V : Nat} {l : List UInt8} {little : Bool} (h : Rb w a n c l) (hn : n ≤ 100000000) (hV : V < 256 ^ 4) :
    Calls Tryz.prog 9 #[.slice a n c, .int .u32 (V : Int), .bool little] w fun e w' => ∃ v, e = .returned v ∧ Ob w' w.heap.size v (l ++ ord 4 V little) ∧ Below w.heap.size w w' := by
  have hL := lay32_any (little := little) h hn hV
  go_enter Tryz.func9, Tryz.ntmps9
  go_wp2_with fail
  refine hL.mono ?_
  rintro e w' ⟨v, rfl, hO, hb⟩
  clear hL
  go_wp2
  go_ret
  exact ⟨_, rfl, hO, hb⟩
set_option maxHeartbeats 3200000 in
set_option maxRecDepth 100000 in
theorem lay64_any {w : World} {a : Option Addr} {n c V : Nat} {l : List UInt8} {little : Bool} (h : Rb w a n c l) (hn : n ≤ 100000000) (hV : V < 256 ^ 8) :
    Calls Tryz.prog 30 #[.slice a n c, .int .u64 (V : Int), .bool little] w fun e w' => ∃ v, e = .returned v ∧ Ob w' w.heap.size v (l ++ ord 8 V little) ∧ Below w.heap.size w w' := by
  have HL : Hid (l.length = n) := h.len
  have hVM : V ≤ 18446744073709551615 := Nat.le_of_lt_succ hV
  have hc9 := h.2
  have hx0 : bits BinOp.xor IntKind.u64 IntKind.u64.max 0 = 18446744073709551615 := by decide
  go_enter Tryz.func30, Tryz.ntmps30
  go_wp2_with (at_make; refine wpList_make8 rfl _ _ rfl (n := 0) (k := n + 8) rfl rfl rfl (by omega) (by omega) (by omega) ?_)
  intro w1 hO1 hb1
  go_wp2_with (at_builtin; refine wpList_app8 rfl _ _ rfl rfl hO1 rfl (h.later hb1) (by simp; omega) hb1.size ?_)
  intro v2 w2 hO2 hg2 hkp
  clear hkp
  have hb2 := hO1.below hb1 (Nat.le_refl _) hg2
  clear hg2 hO1 hb1
  go_wp2
  go_loopw [1, 7, 8] (fun x o b wr => ∃ k : Nat, k ≤ 8 ∧ x = .int .u64 ((V / 256 ^ k : Nat) : Int) ∧ b = .int .u64 ((bitsAt 8 k : Nat) : Int) ∧ Ob wr w.heap.size o (l ++ le k V) ∧ Below w.heap.size w wr) (fun _ _ b _ => (intOf b).toNat)
  case atStart => exact ⟨0, by omega, by simp, rfl, by rw [show le 0 V = [] from rfl, List.append_nil]; exact hO2, hb2⟩
  case round =>
    obtain ⟨k, hk, rfl, rfl, hO3, hb3⟩ := hrel
    clear hO2 hb2
    have hble := bitsAt_le hk
    have hb0 : bitsAt 8 0 = 18446744073709551615 := by decide
    rw [hb0] at hble
    by_cases hlt : k < 8
    · have hpos := bitsAt_pos hlt
      have HB : Hid (((bitsAt 8 k : Nat) : Int) / 256 = ((bitsAt 8 (k + 1) : Nat) : Int)) := by show _ = _; rw [← bitsAt_next hlt]; omega
      have HX : Hid (((V / 256 ^ k : Nat) : Int) / 256 = ((V / 256 ^ (k + 1) : Nat) : Int)) := by show _ = _; rw [← div_next]; omega
      have HA : Hid (l ++ le (k + 1) V = l ++ (le k V ++ [UInt8.ofNat (V / 256 ^ k % 256)])) := by show _ = _; rw [le_next]
      have hx9 : V / 256 ^ k ≤ 18446744073709551615 := Nat.le_trans (Nat.div_le_self _ _) hVM
      have HN : Hid ((l ++ le k V).length ≤ n + 8) := by show _ ≤ _; rw [List.length_append, HL.out, le_len]; omega
      have hlt2 : bitsAt 8 (k + 1) < bitsAt 8 k := by rw [← bitsAt_next hlt]; omega
      generalize bitsAt 8 k = B at *
      generalize V / 256 ^ k = X at *
      have hX8 : Hid (((X : Int) % 256) = (((UInt8.ofNat (X % 256)).toNat : Nat) : Int)) := by show _ = _; rw [UInt8.toNat_ofNat', show (2 : Nat) ^ 8 = 256 from rfl]; omega
      have t1 : ((B : Int) != 0) = true := by simp; omega
      go_wp2_with (at_builtin; refine wpList_app8 rfl _ _ rfl rfl (hO3.alloc _) rfl (rb_one wr (x := UInt8.ofNat (X % 256)) hX8.out) (by have := HN.out; omega) (by simp; have := hb3.size; omega) ?_)
      intro v4 w4 hO4 hg4 hkp
      clear hkp
      have hb4 := (hO3.alloc _).below (hb3.alloc hb3.size _) (Nat.le_refl _) hg4
      rw [← HA.out] at hO4
      clear hg4 hO3 hb3
      go_wp2
      go_roundw
      case rel => exact ⟨k + 1, by omega, by rw [← HX.out], by rw [← HB.out], hO4, hb4⟩
      case measure => simp [intOf]; omega
    · have hkn : k = 8 := by omega
      subst hkn
      have t1 : (((bitsAt 8 8 : Nat) : Int) != 0) = false := by rw [bitsAt_end]; rfl
      have HN : Hid ((l ++ le 8 V).length = n + 8) := by show _ = _; rw [List.length_append, HL.out, le_len]
      have hnn := HN.out
      generalize bitsAt 8 8 = B at *
      generalize V / 256 ^ 8 = X at *
      obtain ⟨g4, c4, rfl, hc4, hc4', hg4, hg4'⟩ := hO3.shape (by omega)
      rw [hnn] at hO3 hc4
      rw [hnn]
      cases little
      · have hR := reverse8_any (o := n) (m := 8) (c := c4 - n) hO3 hnn.symm HL.out (le_len _ _) (by omega) (by omega) (by omega)
        clear hnn HN
        go_wp2_with fail
        refine hR.mono ?_
        rintro e w5 ⟨rfl, hO5, hb5⟩
        have hb6 := hb3.trans hb5
        clear hR hb5 hb3 hO3
        go_wp2
        go_ret
        exact ⟨_, rfl, hO5, hb6⟩
      · clear hnn HN
        go_wp2
        go_ret
        exact ⟨_, rfl, hO3, hb3⟩
set_option maxHeartbeats 1600000 in
theorem put64_any {w : World} {a : Option Addr} {n c V : Nat} {l : List UInt8} {little : Bool} (h : Rb w a n c l) (hn : n ≤ 100000000) (hV : V < 256 ^ 8) :
    Calls Tryz.prog 8 #[.slice a n c, .int .u64 (V : Int), .bool little] w fun e w' => ∃ v, e = .returned v ∧ Ob w' w.heap.size v (l ++ ord 8 V little) ∧ Below w.heap.size w w' := by
  have hL := lay64_any (little := little) h hn hV
  go_enter Tryz.func8, Tryz.ntmps8
  go_wp2_with fail
  refine hL.mono ?_
  rintro e w' ⟨v, rfl, hO, hb⟩
  clear hL
  go_wp2
  go_ret
  exact ⟨_, rfl, hO, hb⟩
end Go.Proofs.YtgobnjeankjkjaaGreatDoor

