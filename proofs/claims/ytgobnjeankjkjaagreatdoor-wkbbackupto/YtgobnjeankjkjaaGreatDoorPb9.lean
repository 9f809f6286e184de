import Derived.Laws.CopyRow
import Derived.Laws.IdiomCopy
import Derived.Laws.IdiomRangeMap
import Derived.Deep.RegionWith
import Derived.Below
import Derived.BigQuiet
import Derived.ChangeOld
import Derived.Deep.QuietTactic
import Derived.Laws.BitsAllLaws
import Derived.OpenShut
import Derived.OwnWalk
import Derived.ProofKit
import Derived.ShutString
import Derived.WalkKit
import Derived.WalkLawsBesides
import Derived.WalkSpells
import Derived.Test.YtgobnjeankjkjaaGreatDoorPb6
/- Lists of words of 64 bits and their numbers: what package nat leans on. -/
namespace Go.Proofs.YtgobnjeankjkjaaGreatDoor
open Go.ChangeShapes Go.WideShapes Go.ChangeAt Go.RowKit
open Na
set_option linter.unusedVariables false
namespace Na
theorem take_valB {B : Int} {xs : List Int} {k : Nat} (h : k < xs.length) : val B (xs.take (k + 1)) = val B (xs.take k) + B ^ k * xs.getD k 0 := by
  rw [take_next h, val_append, List.length_take, Nat.min_eq_left (by omega)]
  simp [val]
theorem val_splitB (B : Int) (xs : List Int) {i : Nat} (h : i ≤ xs.length) : val B xs = val B (xs.take i) + B ^ i * val B (xs.drop i) := by
  have e := congrArg (val B) (List.take_append_drop i xs).symm
  rw [val_append, List.length_take, Nat.min_eq_left h] at e
  exact e
theorem wpow_pos (k : Nat) : 0 < (18446744073709551616 : Int) ^ k := Int.pow_pos (by omega)
theorem wpow_mono {a b : Nat} (h : a ≤ b) : (18446744073709551616 : Int) ^ a ≤ 18446744073709551616 ^ b := by
  have c1 : ((18446744073709551616 ^ a : Nat) : Int) = (18446744073709551616 : Int) ^ a := by simp
  have c2 : ((18446744073709551616 ^ b : Nat) : Int) = (18446744073709551616 : Int) ^ b := by simp
  have : 18446744073709551616 ^ a ≤ 18446744073709551616 ^ b := Nat.pow_le_pow_right (by omega) h
  omega
theorem num_bd {xs : List Int} (h : Ws xs) : num xs < 18446744073709551616 ^ xs.length := val_lt (by omega) h
theorem words_short {N : Int} {k : Nat} (h0 : 0 ≤ N) (h : N < 18446744073709551616 ^ k) : (words N).length ≤ k := by
  refine dig_length (by omega) ?_
  have c : ((18446744073709551616 ^ k : Nat) : Int) = (18446744073709551616 : Int) ^ k := by simp
  omega
theorem num_words {N : Int} (h : 0 ≤ N) : num (words N) = N := val_words h
theorem words_nil {N : Int} (h : 0 ≤ N) : (words N).length = 0 ↔ N = 0 := by
  rw [List.length_eq_zero_iff]
  unfold words
  rw [dig_nil (by omega)]
  omega
theorem words_last {N : Int} (h : 0 < N) : ∃ zs x, words N = zs ++ [x] ∧ x ≠ 0 := dig_last (B := 18446744073709551616) (by omega) N.toNat (by omega)
theorem words_ge {N : Int} (h : 0 < N) : (18446744073709551616 : Int) ^ ((words N).length - 1) ≤ N := by
  obtain ⟨zs, x, hz, hx⟩ := words_last h
  have dg := Dg_words N
  have v := val_words (N := N) (by omega)
  rw [hz] at dg v ⊢
  have gx := dg x (List.mem_append_right _ (by simp))
  have gz : Ws zs := fun y hy => dg y (List.mem_append_left _ hy)
  have v0 := val_nonneg (B := 18446744073709551616) (by omega) gz
  rw [val_append] at v
  have e : val 18446744073709551616 [x] = x := by simp [val]
  rw [e] at v
  have l : (zs ++ [x]).length - 1 = zs.length := by simp
  rw [l]
  have p := wpow_pos zs.length
  have m : (18446744073709551616 : Int) ^ zs.length * 1 ≤ 18446744073709551616 ^ zs.length * x := Int.mul_le_mul_of_nonneg_left (by omega) (by omega)
  omega
theorem words_lt {A B : Int} (hA : 0 ≤ A) (hB : 0 ≤ B) (h : (words A).length < (words B).length) : A < B := by
  have hb : 0 < B := by
    by_cases e : B = 0
    · have := (words_nil hB).mpr e; omega
    · omega
  have g := words_ge hb
  have l := num_bd (Dg_words A)
  rw [num_words hA] at l
  have m := wpow_mono (show (words A).length ≤ (words B).length - 1 by omega)
  omega
end Na
end Go.Proofs.YtgobnjeankjkjaaGreatDoor

/- package nat: trim, answer, Norm, From, Word. -/
namespace Go.Proofs.YtgobnjeankjkjaaGreatDoor
open Go.ChangeShapes Go.WideShapes Go.ChangeAt Go.RowKit
open Na
set_option linter.unusedVariables false

/-- a slice of words, with room that fits -/
def RowC (w : World) (a : Option Addr) (n cap : Nat) (xs : List Int) : Prop := RowAt .u64 w a n xs ∧ n ≤ cap ∧ cap ≤ maxLen
theorem RowC.later {w w' : World} {a : Option Addr} {n cap : Nat} {xs : List Int} (h : RowC w a n cap xs) (hb : Below w.heap.size w w') : RowC w' a n cap xs := ⟨h.1.later hb, h.2⟩
theorem RowAt.cut {k : IntKind} {w : World} {a : Option Addr} {n : Nat} {xs : List Int} (h : RowAt k w a n xs) {m : Nat} (hm : m ≤ n) : RowAt k w a m (xs.take m) := by
  obtain ⟨h1, h2⟩ := h
  refine ⟨by rw [List.length_take]; omega, ?_⟩
  rcases h2 with h2 | ⟨b, off, ha, hlt, hc⟩
  · left; omega
  · refine Or.inr ⟨b, off, ha, hlt, fun i hi => ?_⟩
    rw [hc i (by omega)]
    have : (xs.take m).getD i 0 = xs.getD i 0 := by simp [List.getD_eq_getElem?_getD, List.getElem?_take_of_lt hi]
    rw [this]

namespace Na
end Na
end Go.Proofs.YtgobnjeankjkjaaGreatDoor

/- Writing in place: only one block turns. -/
namespace Go.Proofs.YtgobnjeankjkjaaGreatDoor
open Go.ChangeShapes Go.WideShapes Go.ChangeAt Go.RowKit
open Na
set_option linter.unusedVariables false

/-- only blocks from lo on and below hi may have turned (and new ones come) -/
structure In (lo hi : Nat) (w w' : World) : Prop where
  os : w'.os = w.os
  tape : w'.tape = w.tape
  output : w'.output = w.output
  size : w.heap.size ≤ w'.heap.size
  block : ∀ k, k < w.heap.size → (k < lo ∨ hi ≤ k) → w'.heap[k]? = w.heap[k]?
theorem In.refl (lo hi : Nat) (w : World) : In lo hi w w := ⟨rfl, rfl, rfl, Nat.le_refl _, fun _ _ _ => rfl⟩
theorem In.trans {lo hi : Nat} {a b c : World} (h : In lo hi a b) (k : In lo hi b c) : In lo hi a c :=
  ⟨k.os.trans h.os, k.tape.trans h.tape, k.output.trans h.output, Nat.le_trans h.size k.size, fun i hi' h' => (k.block i (Nat.lt_of_lt_of_le hi' h.size) h').trans (h.block i hi' h')⟩
theorem In.setCell {lo hi : Nat} {a w : World} (h : In lo hi a w) {g k : Nat} (h1 : lo ≤ g) (h2 : g < hi) (u : Value) : In lo hi a (w.setCell ⟨g, k, none⟩ u) :=
  h.trans ⟨rfl, rfl, rfl, by simp [World.setCell], fun i hi' h' => Below.heap_setCell _ _ _ _ (by simp only; omega)⟩
theorem In.set1 {g : Nat} {a w : World} (h : In g (g + 1) a w) (k : Nat) (u : Value) : In g (g + 1) a (w.setCell ⟨g, k, none⟩ u) := h.setCell (Nat.le_refl _) (by omega) u
theorem In.of_below {lo hi : Nat} {w w' : World} (h : Below w.heap.size w w') : In lo hi w w' := ⟨h.os, h.tape, h.output, h.size, fun k hk _ => h.block k hk⟩
theorem In.below {lo hi : Nat} {w w' : World} (h : In lo hi w w') (hlo : lo ≤ w.heap.size) : Below lo w w' := ⟨h.os, h.tape, h.output, h.size, fun k hk => h.block k (by omega) (Or.inl hk)⟩
theorem In.later {lo hi : Nat} {a w w' : World} (h : In lo hi a w) (h' : Below w.heap.size w w') : In lo hi a w' := h.trans (In.of_below h')
theorem In.wider {lo hi lo' hi' : Nat} {w w' : World} (h : In lo hi w w') (h1 : lo' ≤ lo) (h2 : hi ≤ hi') : In lo' hi' w w' := ⟨h.os, h.tape, h.output, h.size, fun k hk hh => h.block k hk (by omega)⟩
/-- blocks of a call's own are no elder one's -/
theorem below_inn {n lo hi : Nat} {a w w' : World} (h : Below n a w) (h' : In lo hi w w') (hn : n ≤ lo) (hs : n ≤ a.heap.size) : Below n a w' :=
  ⟨h'.os.trans h.os, h'.tape.trans h.tape, h'.output.trans h.output, Nat.le_trans h.size h'.size, fun k hk => (h'.block k (by have := h.size; omega) (Or.inl (by omega))).trans (h.block k hk)⟩
/-- the row's block is another one -/
def Off (a : Option Addr) (g : Nat) : Prop := ∀ b off, a = some ⟨b, off, none⟩ → b ≠ g
theorem RowAt.off {k : IntKind} {w : World} {a : Option Addr} {n : Nat} {xs : List Int} (h : RowAt k w a n xs) {g : Nat} (hn : 0 < n) (hg : w.heap.size ≤ g) : Off a g := by
  intro b off hab
  obtain ⟨b', off', ha, hlt, _⟩ := h.at hn
  rw [ha] at hab
  simp only [Option.some.injEq, Addr.mk.injEq] at hab
  omega
theorem off_of {b off g : Nat} (h : b ≠ g) : Off (some ⟨b, off, none⟩) g := by
  intro b' off' hb
  simp only [Option.some.injEq, Addr.mk.injEq] at hb
  omega
theorem RowAt.inn {k : IntKind} {w w' : World} {a : Option Addr} {n : Nat} {xs : List Int} (h : RowAt k w a n xs) {g : Nat} (hi : In g (g + 1) w w') (ho : 0 < n → Off a g) : RowAt k w' a n xs := by
  obtain ⟨h1, h2⟩ := h
  refine ⟨h1, ?_⟩
  by_cases hn : 0 < n
  · rcases h2 with h2 | ⟨b, off, ha, hlt, hc⟩
    · exact Or.inl h2
    · refine Or.inr ⟨b, off, ha, Nat.lt_of_lt_of_le hlt hi.size, fun i hi' => ?_⟩
      have hne := ho hn b off ha
      rw [← hc i hi']
      unfold World.cell?
      rw [hi.block b hlt (by omega)]
  · exact Or.inl (by omega)
theorem RowC.inn {w w' : World} {a : Option Addr} {n cap : Nat} {xs : List Int} (h : RowC w a n cap xs) {g : Nat} (hi : In g (g + 1) w w') (ho : 0 < n → Off a g) : RowC w' a n cap xs := ⟨h.1.inn hi ho, h.2⟩
theorem Own.inn {k : IntKind} {w w' : World} {base g g' n cap : Nat} {e : TypeId} {xs : List Int} (h : Own k w base e (.slice (some ⟨g', 0, none⟩) n cap) xs) (hi : In g (g + 1) w w') (hne : g' ≠ g) : Own k w' base e (.slice (some ⟨g', 0, none⟩) n cap) xs := by
  obtain ⟨h1, h2⟩ := h
  refine ⟨h1, ?_⟩
  rcases h2 with h2 | ⟨g2, c, cur, hv, hb, hc, r⟩
  · exact Or.inl h2
  · refine Or.inr ⟨g2, c, cur, hv, hb, ?_, r⟩
    have hlt : g2 < w.heap.size := by
      by_cases hlt : g2 < w.heap.size
      · exact hlt
      · simp [Array.getElem?_eq_none (Nat.le_of_not_lt hlt)] at hc
    simp only [Value.slice.injEq, Option.some.injEq, Addr.mk.injEq] at hv
    rw [hi.block g2 hlt (by omega)]; exact hc
theorem Own.lt {k : IntKind} {w : World} {base g n cap : Nat} {e : TypeId} {xs : List Int} (h : Own k w base e (.slice (some ⟨g, 0, none⟩) n cap) xs) : g < w.heap.size := by
  obtain ⟨h1, h2⟩ := h
  rcases h2 with ⟨hv, _⟩ | ⟨g2, c, cur, hv, hb2, hc, r⟩
  · simp at hv
  · simp only [Value.slice.injEq, Option.some.injEq, Addr.mk.injEq] at hv
    by_cases hlt : g2 < w.heap.size
    · omega
    · simp [Array.getElem?_eq_none (Nat.le_of_not_lt hlt)] at hc
/-- a window of an owned list -/
theorem Own.win {w : World} {base g n cap : Nat} {e : TypeId} {xs : List Int} (h : Own .u64 w base e (.slice (some ⟨g, 0, none⟩) n cap) xs) (hn : n = xs.length) {o m : Nat} (hom : o + m ≤ n) : RowAt .u64 w (some ⟨g, o, none⟩) m ((xs.drop o).take m) := by
  refine ⟨by rw [List.length_take, List.length_drop]; omega, Or.inr ⟨g, o, rfl, h.lt, fun i hi => ?_⟩⟩
  rw [h.cellAt hn (by omega)]
  have : ((xs.drop o).take m).getD i 0 = xs.getD (o + i) 0 := by simp [List.getD_eq_getElem?_getD, List.getElem?_take_of_lt hi, List.getElem?_drop]
  rw [this]
namespace Na
/-- the window's number -/
def win (us : List Int) (o m : Nat) : Int := num ((us.drop o).take m)
theorem win_split {us : List Int} {o m : Nat} (h : o + m ≤ us.length) : num us = num (us.take o) + 18446744073709551616 ^ o * win us o m + 18446744073709551616 ^ (o + m) * num (us.drop (o + m)) := by
  unfold win num
  have e1 := val_splitB 18446744073709551616 us (i := o) (by omega)
  have e2 := val_splitB 18446744073709551616 (us.drop o) (i := m) (by rw [List.length_drop]; omega)
  rw [List.drop_drop] at e2
  rw [e1, e2, Int.pow_add, Int.mul_add, Int.mul_assoc, Int.add_assoc]
theorem Ws.win {us : List Int} (h : Ws us) (o m : Nat) : Ws ((us.drop o).take m) := (h.drop o).take m
theorem win_lt {us : List Int} (h : Ws us) {o m : Nat} (hom : o + m ≤ us.length) : Na.win us o m < 18446744073709551616 ^ m := by
  have := num_bd (Ws.win h o m)
  rw [List.length_take, List.length_drop, Nat.min_eq_left (by omega)] at this
  exact this
theorem win_eq {us ts : List Int} {o m : Nat} {c P : Int} (hl : us.length = ts.length) (hom : o + m ≤ ts.length) (h1 : us.take o = ts.take o) (h2 : us.drop (o + m) = ts.drop (o + m))
    (h : num us + 18446744073709551616 ^ (o + m) * c = num ts + 18446744073709551616 ^ o * P) : Na.win us o m + 18446744073709551616 ^ m * c = Na.win ts o m + P := by
  rw [win_split (us := us) (o := o) (m := m) (by omega), win_split (us := ts) hom, h1, h2, Int.pow_add] at h
  have p := wpow_pos o
  generalize num (ts.take o) = T at h
  generalize num (ts.drop (o + m)) = D at h
  have e : 18446744073709551616 ^ o * (Na.win us o m + 18446744073709551616 ^ m * c) = 18446744073709551616 ^ o * (Na.win ts o m + P) := by grind
  exact Int.eq_of_mul_eq_mul_left (by omega) e
end Na
end Go.Proofs.YtgobnjeankjkjaaGreatDoor

/- copy into memory that the call has made; stores into it. -/
namespace Go.Proofs.YtgobnjeankjkjaaGreatDoor
open Go.ChangeShapes Go.WideShapes Go.ChangeAt Go.RowKit
open Na
set_option linter.unusedVariables false

/-- ps laid over ds from off on -/
def over (ds ps : List Int) (off : Nat) : List Int := ds.take off ++ ps ++ ds.drop (off + ps.length)
end Go.Proofs.YtgobnjeankjkjaaGreatDoor

/- package nat: Norm, From, Word. -/
namespace Go.Proofs.YtgobnjeankjkjaaGreatDoor
open Go.ChangeShapes Go.WideShapes Go.ChangeAt Go.RowKit
open Na
set_option linter.unusedVariables false

end Go.Proofs.YtgobnjeankjkjaaGreatDoor

/- package words: AddTo, TakeFrom: in place, in a window of a list that the call may write. -/
namespace Go.Proofs.YtgobnjeankjkjaaGreatDoor
open Go.ChangeShapes Go.WideShapes Go.ChangeAt Go.RowKit
open Na Ar
set_option linter.unusedVariables false
namespace Na
theorem put_word {us : List Int} {j : Nat} {c p lo hi : Int} (hj : j < us.length) (e : us.getD j 0 + p + c = lo + 18446744073709551616 * hi) :
    num (us.set j lo) + 18446744073709551616 ^ (j + 1) * hi = num us + 18446744073709551616 ^ j * c + 18446744073709551616 ^ j * p := by
  unfold num
  rw [val_set _ hj, Int.pow_succ]
  generalize val 18446744073709551616 us = V
  generalize (18446744073709551616 : Int) ^ j = P
  generalize us.getD j 0 = u at *
  have : lo = u + p + c - 18446744073709551616 * hi := by omega
  subst this
  grind
def AddI (ts ps : List Int) (o m j : Nat) (c : Int) (us : List Int) : Prop := Ws us ∧ us.length = ts.length ∧ (c = 0 ∨ c = 1) ∧ us.take o = ts.take o ∧ us.drop (o + m) = ts.drop (o + m) ∧ num us + 18446744073709551616 ^ (o + j) * c = num ts + 18446744073709551616 ^ o * num (ps.take j)
theorem AddI.start {ts ps : List Int} {o m : Nat} (h : Ws ts) : AddI ts ps o m 0 0 ts := ⟨h, rfl, Or.inl rfl, rfl, rfl, by simp [num, val]⟩
theorem AddI.step {ts ps us : List Int} {o m j : Nat} {c : Int} (h : AddI ts ps o m j c us) (hj : o + j < us.length) (hjm : j < m) (hp : j < ps.length) (hw : Ws ps) :
    AddI ts ps o m (j + 1) (addHi (us.getD (o + j) 0) (ps.getD j 0) c) (us.set (o + j) (addLo (us.getD (o + j) 0) (ps.getD j 0) c)) := by
  obtain ⟨h1, h2, h3, h5, h6, h4⟩ := h
  have gu := h1.get hj
  have gp := hw.get hp
  have hc : c % 2 = c := by omega
  have e : us.getD (o + j) 0 + ps.getD j 0 + c = addLo (us.getD (o + j) 0) (ps.getD j 0) c + 18446744073709551616 * addHi (us.getD (o + j) 0) (ps.getD j 0) c := by unfold addLo addHi; rw [hc]; omega
  have hhi : addHi (us.getD (o + j) 0) (ps.getD j 0) c = 0 ∨ addHi (us.getD (o + j) 0) (ps.getD j 0) c = 1 := by unfold addHi; rw [hc]; omega
  refine ⟨h1.set _ (U_addLo _ _ _), by rw [List.length_set]; exact h2, hhi, by rw [List.take_set_of_le (by omega)]; exact h5, by rw [List.drop_set_of_lt (by omega)]; exact h6, ?_⟩
  rw [← Nat.add_assoc, put_word hj e, h4]
  have t : num (ps.take (j + 1)) = num (ps.take j) + 18446744073709551616 ^ j * ps.getD j 0 := take_valB hp
  rw [t, Int.mul_add, Int.pow_add, Int.mul_assoc]; omega
/-- beyond the shorter: nothing is added any more but the carry -/
theorem AddI.more {ts ps us : List Int} {o m j : Nat} {c : Int} (h : AddI ts ps o m j c us) (hj : o + j < us.length) (hjm : j < m) (hp : ps.length ≤ j) :
    AddI ts ps o m (j + 1) (addHi (us.getD (o + j) 0) 0 c) (us.set (o + j) (addLo (us.getD (o + j) 0) 0 c)) := by
  obtain ⟨h1, h2, h3, h5, h6, h4⟩ := h
  have gu := h1.get hj
  have hc : c % 2 = c := by omega
  have e : us.getD (o + j) 0 + 0 + c = addLo (us.getD (o + j) 0) 0 c + 18446744073709551616 * addHi (us.getD (o + j) 0) 0 c := by unfold addLo addHi; rw [hc]; omega
  have hhi : addHi (us.getD (o + j) 0) 0 c = 0 ∨ addHi (us.getD (o + j) 0) 0 c = 1 := by unfold addHi; rw [hc]; omega
  refine ⟨h1.set _ (U_addLo _ _ _), by rw [List.length_set]; exact h2, hhi, by rw [List.take_set_of_le (by omega)]; exact h5, by rw [List.drop_set_of_lt (by omega)]; exact h6, ?_⟩
  rw [← Nat.add_assoc, put_word hj e, List.take_of_length_le (by omega)]
  rw [List.take_of_length_le hp] at h4
  omega

theorem AddI.win {ts ps us : List Int} {o m : Nat} {c : Int} (h : AddI ts ps o m m c us) (hp : ps.length ≤ m) (hom : o + m ≤ ts.length) : Na.win us o m + 18446744073709551616 ^ m * c = Na.win ts o m + num ps := by
  obtain ⟨h1, h2, h3, h5, h6, h4⟩ := h
  rw [List.take_of_length_le hp] at h4
  exact win_eq h2 hom h5 h6 h4
/-- with no carry left the rest stays -/
theorem AddI.done {ts ps us : List Int} {o m j : Nat} {c : Int} (h : AddI ts ps o m j c us) (hp : ps.length ≤ j) (hj : j ≤ m) (hc : c = 0 ∨ j = m) : AddI ts ps o m m c us := by
  obtain ⟨h1, h2, h3, h5, h6, h4⟩ := h
  refine ⟨h1, h2, h3, h5, h6, ?_⟩
  rcases hc with hc | hc
  · subst hc
    rw [List.take_of_length_le hp] at h4
    rw [List.take_of_length_le (by omega)]
    rw [Int.mul_zero] at h4 ⊢
    exact h4
  · rw [← hc]; exact h4
end Na

namespace Na
theorem take_word {us : List Int} {j : Nat} {c p lo hi : Int} (hj : j < us.length) (e : us.getD j 0 - p - c = lo - 18446744073709551616 * hi) :
    num (us.set j lo) - 18446744073709551616 ^ (j + 1) * hi = num us - 18446744073709551616 ^ j * c - 18446744073709551616 ^ j * p := by
  have := put_word (us := us) (j := j) (c := -c) (p := -p) (lo := lo) (hi := -hi) hj (by omega)
  rw [Int.mul_neg, Int.mul_neg, Int.mul_neg] at this
  omega

def SubJ (ts ps : List Int) (o m j : Nat) (c : Int) (us : List Int) : Prop := Ws us ∧ us.length = ts.length ∧ (c = 0 ∨ c = 1) ∧ us.take o = ts.take o ∧ us.drop (o + m) = ts.drop (o + m) ∧ num us - 18446744073709551616 ^ (o + j) * c = num ts - 18446744073709551616 ^ o * num (ps.take j)
theorem SubJ.start {ts ps : List Int} {o m : Nat} (h : Ws ts) : SubJ ts ps o m 0 0 ts := ⟨h, rfl, Or.inl rfl, rfl, rfl, by simp [num, val]⟩
theorem SubJ.step {ts ps us : List Int} {o m j : Nat} {c : Int} (h : SubJ ts ps o m j c us) (hj : o + j < us.length) (hjm : j < m) (hp : j < ps.length) (hw : Ws ps) :
    SubJ ts ps o m (j + 1) (subHi (us.getD (o + j) 0) (ps.getD j 0) c) (us.set (o + j) (subLo (us.getD (o + j) 0) (ps.getD j 0) c)) := by
  obtain ⟨h1, h2, h3, h5, h6, h4⟩ := h
  have gu := h1.get hj
  have gp := hw.get hp
  have hc : c % 2 = c := by omega
  have e : us.getD (o + j) 0 - ps.getD j 0 - c = subLo (us.getD (o + j) 0) (ps.getD j 0) c - 18446744073709551616 * subHi (us.getD (o + j) 0) (ps.getD j 0) c := by unfold subLo subHi; rw [hc]; omega
  have hhi : subHi (us.getD (o + j) 0) (ps.getD j 0) c = 0 ∨ subHi (us.getD (o + j) 0) (ps.getD j 0) c = 1 := by unfold subHi; rw [hc]; omega
  refine ⟨h1.set _ (U_subLo _ _ _), by rw [List.length_set]; exact h2, hhi, by rw [List.take_set_of_le (by omega)]; exact h5, by rw [List.drop_set_of_lt (by omega)]; exact h6, ?_⟩
  rw [← Nat.add_assoc, take_word hj e, h4]
  have t : num (ps.take (j + 1)) = num (ps.take j) + 18446744073709551616 ^ j * ps.getD j 0 := take_valB hp
  rw [t, Int.mul_add, Int.pow_add, Int.mul_assoc]; omega
/-- beyond the shorter: nothing is added any more but the carry -/
theorem SubJ.more {ts ps us : List Int} {o m j : Nat} {c : Int} (h : SubJ ts ps o m j c us) (hj : o + j < us.length) (hjm : j < m) (hp : ps.length ≤ j) :
    SubJ ts ps o m (j + 1) (subHi (us.getD (o + j) 0) 0 c) (us.set (o + j) (subLo (us.getD (o + j) 0) 0 c)) := by
  obtain ⟨h1, h2, h3, h5, h6, h4⟩ := h
  have gu := h1.get hj
  have hc : c % 2 = c := by omega
  have e : us.getD (o + j) 0 - 0 - c = subLo (us.getD (o + j) 0) 0 c - 18446744073709551616 * subHi (us.getD (o + j) 0) 0 c := by unfold subLo subHi; rw [hc]; omega
  have hhi : subHi (us.getD (o + j) 0) 0 c = 0 ∨ subHi (us.getD (o + j) 0) 0 c = 1 := by unfold subHi; rw [hc]; omega
  refine ⟨h1.set _ (U_subLo _ _ _), by rw [List.length_set]; exact h2, hhi, by rw [List.take_set_of_le (by omega)]; exact h5, by rw [List.drop_set_of_lt (by omega)]; exact h6, ?_⟩
  rw [← Nat.add_assoc, take_word hj e, List.take_of_length_le (by omega)]
  rw [List.take_of_length_le hp] at h4
  omega

theorem SubJ.win {ts ps us : List Int} {o m j : Nat} {c : Int} (h : SubJ ts ps o m j c us) (hp : ps.length ≤ j) (hj : c = 0 ∨ j = m) (hom : o + m ≤ ts.length) : Na.win us o m - 18446744073709551616 ^ m * c = Na.win ts o m - num ps := by
  obtain ⟨h1, h2, h3, h5, h6, h4⟩ := h
  rw [List.take_of_length_le hp] at h4
  have e : 18446744073709551616 ^ (o + j) * c = 18446744073709551616 ^ (o + m) * c := by
    rcases hj with hj | hj
    · subst hj; simp
    · rw [hj]
  have := win_eq (us := us) (ts := ts) (o := o) (m := m) (c := -c) (P := -num ps) h2 hom h5 h6 (by rw [Int.mul_neg, Int.mul_neg, ← e]; omega)
  rw [Int.mul_neg] at this
  omega
theorem SubJ.room {ts ps us : List Int} {o m j : Nat} {c : Int} (h : SubJ ts ps o m j c us) (hp : ps.length ≤ j) (hc : c ≠ 0) (hom : o + m ≤ ts.length) (hj : j ≤ m) (hb : num ps ≤ Na.win ts o m) : j < m := by
  by_cases g : j < m
  · exact g
  · have w := h.win hp (Or.inr (by omega)) hom
    obtain ⟨h1, h2, h3, h5, h6, h4⟩ := h
    have c1 : c = 1 := by omega
    subst c1
    have := win_lt h1 (o := o) (m := m) (by omega)
    omega
end Na

end Go.Proofs.YtgobnjeankjkjaaGreatDoor

/- package nat: Cmp. -/
namespace Go.Proofs.YtgobnjeankjkjaaGreatDoor
open Go.ChangeShapes Go.WideShapes Go.ChangeAt Go.RowKit
open Na
set_option linter.unusedVariables false

namespace Na
theorem ord_len {A B : Int} (hA : 0 ≤ A) (hB : 0 ≤ B) (h : (words A).length ≠ (words B).length) : ordN ((words A).length : Int) ((words B).length : Int) = ordN A B := by
  by_cases g : (words A).length < (words B).length
  · rw [ordN_lt (by omega), ordN_lt (words_lt hA hB g)]
  · have g' : (words B).length < (words A).length := by omega
    rw [ordN_gt (by omega), ordN_gt (words_lt hB hA g')]
end Na

end Go.Proofs.YtgobnjeankjkjaaGreatDoor

/- package nat: Bits, Bit, Zeros. -/
namespace Go.Proofs.YtgobnjeankjkjaaGreatDoor
open Go.ChangeShapes Go.WideShapes Go.ChangeAt Go.RowKit
open Na Ar
set_option linter.unusedVariables false

end Go.Proofs.YtgobnjeankjkjaaGreatDoor

/- package nat: Sub. -/
namespace Go.Proofs.YtgobnjeankjkjaaGreatDoor
open Go.ChangeShapes Go.WideShapes Go.ChangeAt Go.RowKit
open Na Ar
set_option linter.unusedVariables false

/-- a slice of slices of words -/
def RowsC (w : World) (a : Option Addr) (n : Nat) (xss : List (List Int)) : Prop :=
  xss.length = n ∧ (n = 0 ∨ ∃ b off, a = some ⟨b, off, none⟩ ∧ b < w.heap.size ∧ ∀ i, i < n → ∃ ai ci, w.cell? ⟨b, off + i, none⟩ = some (.slice ai (xss.getD i []).length ci) ∧ RowC w ai (xss.getD i []).length ci (xss.getD i []))
theorem RowsC.rows {w : World} {a : Option Addr} {n : Nat} {xss : List (List Int)} (h : RowsC w a n xss) : RowsAt w a n xss := by
  obtain ⟨h1, h2⟩ := h
  refine ⟨h1, ?_⟩
  rcases h2 with h2 | ⟨b, off, ha, hb, hc⟩
  · exact Or.inl h2
  · refine Or.inr ⟨b, off, ha, hb, fun i hi => ?_⟩
    obtain ⟨ai, ci, g1, g2⟩ := hc i hi
    exact ⟨ai, ci, g1, g2.1⟩
theorem RowsC.later {w w' : World} {a : Option Addr} {n : Nat} {xss : List (List Int)} (h : RowsC w a n xss) (hb : Below w.heap.size w w') : RowsC w' a n xss := by
  obtain ⟨h1, h2⟩ := h
  refine ⟨h1, ?_⟩
  rcases h2 with h2 | ⟨b, off, ha, hlt, hc⟩
  · exact Or.inl h2
  · refine Or.inr ⟨b, off, ha, Nat.lt_of_lt_of_le hlt hb.size, fun i hi => ?_⟩
    obtain ⟨ai, ci, g1, g2⟩ := hc i hi
    exact ⟨ai, ci, (hb.cell (p := ⟨b, off + i, none⟩) hlt).trans g1, g2.later hb⟩

end Go.Proofs.YtgobnjeankjkjaaGreatDoor

/- package nat: Sum, Add. -/
namespace Go.Proofs.YtgobnjeankjkjaaGreatDoor
open Go.ChangeShapes Go.WideShapes Go.ChangeAt Go.RowKit
open Na Ar
set_option linter.unusedVariables false

namespace Na
theorem Wss.take {xss : List (List Int)} (h : Wss xss) (k : Nat) : Wss (xss.take k) := fun y hy => h y (List.mem_of_mem_take hy)
end Na

end Go.Proofs.YtgobnjeankjkjaaGreatDoor

/- package words: AddTimes, TakeTimes. -/
namespace Go.Proofs.YtgobnjeankjkjaaGreatDoor
open Go.ChangeShapes Go.WideShapes Go.ChangeAt Go.RowKit
open Na Ar
set_option linter.unusedVariables false

namespace Na
def TimI (ds ys : List Int) (o : Nat) (x : Int) (k : Nat) (d : Int) (us : List Int) : Prop := Ws us ∧ us.length = ds.length ∧ U d ∧ us.drop (o + ys.length) = ds.drop (o + ys.length) ∧ us.take o = ds.take o ∧
  num us + 18446744073709551616 ^ (o + k) * d = num ds + 18446744073709551616 ^ o * (x * num (ys.take k))
theorem timI_done {ds ys us : List Int} {o : Nat} {x d : Int} (h : TimI ds ys o x ys.length d us) : num us + 18446744073709551616 ^ (o + ys.length) * d = num ds + 18446744073709551616 ^ o * (x * num ys) := by
  have := h.2.2.2.2.2
  rw [List.take_of_length_le (Nat.le_refl _)] at this
  exact this
theorem TimI.win {ds ys us : List Int} {o : Nat} {x d : Int} (h : TimI ds ys o x ys.length d us) (hom : o + ys.length ≤ ds.length) : Na.win us o ys.length + 18446744073709551616 ^ ys.length * d = Na.win ds o ys.length + x * num ys :=
  win_eq h.2.1 hom h.2.2.2.2.1 h.2.2.2.1 (timI_done h)
def TakI (ds ys : List Int) (o : Nat) (x : Int) (k : Nat) (d : Int) (us : List Int) : Prop := Ws us ∧ us.length = ds.length ∧ U d ∧ us.drop (o + ys.length) = ds.drop (o + ys.length) ∧ us.take o = ds.take o ∧
  num us - 18446744073709551616 ^ (o + k) * d = num ds - 18446744073709551616 ^ o * (x * num (ys.take k))
theorem TakI.win {ds ys us : List Int} {o : Nat} {x d : Int} (h : TakI ds ys o x ys.length d us) (hom : o + ys.length ≤ ds.length) : Na.win us o ys.length - 18446744073709551616 ^ ys.length * d = Na.win ds o ys.length - x * num ys := by
  have e := h.2.2.2.2.2
  rw [List.take_of_length_le (Nat.le_refl _)] at e
  have := win_eq (us := us) (ts := ds) (o := o) (m := ys.length) (c := -d) (P := -(x * num ys)) h.2.1 hom h.2.2.2.2.1 h.2.2.2.1 (by rw [Int.mul_neg, Int.mul_neg]; omega)
  rw [Int.mul_neg] at this
  omega
end Na

end Go.Proofs.YtgobnjeankjkjaaGreatDoor

/- package nat: Mul. -/
namespace Go.Proofs.YtgobnjeankjkjaaGreatDoor
open Go.ChangeShapes Go.WideShapes Go.ChangeAt Go.RowKit
open Na Ar
set_option linter.unusedVariables false

namespace Na
end Na

end Go.Proofs.YtgobnjeankjkjaaGreatDoor

/- package nat: shiftUp, shiftDown. -/
namespace Go.Proofs.YtgobnjeankjkjaaGreatDoor
open Go.ChangeShapes Go.WideShapes Go.ChangeAt Go.RowKit
open Na Ar
set_option linter.unusedVariables false

namespace Na
end Na

end Go.Proofs.YtgobnjeankjkjaaGreatDoor

/- package nat: Shl, Shr. -/
namespace Go.Proofs.YtgobnjeankjkjaaGreatDoor
open Go.ChangeShapes Go.WideShapes Go.ChangeAt Go.RowKit
open Na Ar
set_option linter.unusedVariables false

namespace Na
theorem res_fits {N : Int} (h : (words N).length ≤ 4096) : resL N = words N ∧ resE N = 0 := by
  unfold resL resE
  rw [if_pos h, if_pos h]
  exact ⟨rfl, rfl⟩
end Na

theorem RowC.drop {w : World} {b off n cap : Nat} {xs : List Int} (h : RowC w (some ⟨b, off, none⟩) n cap xs) {o : Nat} (ho : o < n) : RowC w (some ⟨b, off + o, none⟩) (n - o) (cap - o) (xs.drop o) := by
  obtain ⟨⟨h1, h2⟩, h3, h4⟩ := h
  refine ⟨⟨by rw [List.length_drop]; omega, Or.inr ⟨b, off + o, rfl, ?_, fun i hi => ?_⟩⟩, by omega, by omega⟩
  · rcases h2 with h2 | ⟨b', off', ha, hlt, hc⟩
    · omega
    · simp only [Option.some.injEq, Addr.mk.injEq] at ha
      omega
  · rcases h2 with h2 | ⟨b', off', ha, hlt, hc⟩
    · omega
    · simp only [Option.some.injEq, Addr.mk.injEq] at ha
      obtain ⟨rfl, rfl, _⟩ := ha
      have := hc (o + i) (by omega)
      have e : (xs.drop o).getD i 0 = xs.getD (o + i) 0 := by simp [List.getD_eq_getElem?_getD, List.getElem?_drop]
      rw [e, ← this, Nat.add_assoc]
namespace Na
end Na


end Go.Proofs.YtgobnjeankjkjaaGreatDoor

/- package nat: Shl. -/
namespace Go.Proofs.YtgobnjeankjkjaaGreatDoor
open Go.ChangeShapes Go.WideShapes Go.ChangeAt Go.RowKit
open Na Ar
set_option linter.unusedVariables false

end Go.Proofs.YtgobnjeankjkjaaGreatDoor

/- package nat: Shr. -/
namespace Go.Proofs.YtgobnjeankjkjaaGreatDoor
open Go.ChangeShapes Go.WideShapes Go.ChangeAt Go.RowKit
open Na Ar
set_option linter.unusedVariables false

end Go.Proofs.YtgobnjeankjkjaaGreatDoor

/- plumblaw02's helpers of the outright statements: add, mul, normal, alive, into. -/
namespace Go.Proofs.YtgobnjeankjkjaaGreatDoor
open Go.ChangeShapes Go.WideShapes Go.ChangeAt Go.RowKit
open Na Ar
set_option linter.unusedVariables false

namespace Na
/-- a number of at most k words -/
def Lt (N : Int) (k : Nat) : Prop := 0 ≤ N ∧ N < 18446744073709551616 ^ k
theorem Lt.mono {N : Int} {k l : Nat} (h : Lt N k) (hl : k ≤ l) : Lt N l := ⟨h.1, Int.lt_of_lt_of_le h.2 (wpow_mono hl)⟩
theorem Lt.add {A B : Int} {k l : Nat} (h : Lt A k) (h' : Lt B l) : Lt (A + B) (k + l + 1) := by
  obtain ⟨a, b⟩ := h
  obtain ⟨c, d⟩ := h'
  have m1 := wpow_mono (show k ≤ k + l by omega)
  have m2 := wpow_mono (show l ≤ k + l by omega)
  have p := wpow_pos (k + l)
  refine ⟨by omega, ?_⟩
  rw [Int.pow_succ]
  omega
theorem Lt.mul {A B : Int} {k l : Nat} (h : Lt A k) (h' : Lt B l) : Lt (A * B) (k + l) := by
  obtain ⟨a, b⟩ := h
  obtain ⟨c, d⟩ := h'
  refine ⟨Int.mul_nonneg a c, ?_⟩
  rw [Int.pow_add]
  have p := wpow_pos k
  have x := Int.mul_le_mul_of_nonneg_right (Int.le_of_lt b) c
  have y := Int.mul_lt_mul_of_pos_left d p
  omega
theorem Lt.len {N : Int} {k : Nat} (h : Lt N k) : (words N).length ≤ k := words_short h.1 h.2
theorem Lt.fits {N : Int} {k : Nat} (h : Lt N k) (hk : k ≤ 4096) : resL N = words N ∧ resE N = 0 := res_fits (Nat.le_trans h.len hk)
theorem Lt.le {A B : Int} {k : Nat} (h : Lt B k) (h0 : 0 ≤ A) (hl : A ≤ B) : Lt A k := ⟨h0, by have := h.2; omega⟩
/-- a list of words, its number, not too long for any of the calls -/
structure Nm (xs : List Int) (A : Int) : Prop where
  ws : Ws xs
  num : num xs = A
  len : xs.length ≤ 4000000
theorem Nm.nonneg {xs : List Int} {A : Int} (h : Nm xs A) : 0 ≤ A := by rw [← h.num]; exact num_nonneg h.ws
theorem Nm.lt {xs : List Int} {A : Int} (h : Nm xs A) {k : Nat} (hk : xs.length ≤ k) : Lt A k := by
  refine Lt.mono (k := xs.length) ⟨h.nonneg, ?_⟩ hk
  rw [← h.num]; exact num_bd h.ws
theorem Nm.nil : Nm [] 0 := ⟨Dg.nil _, rfl, by simp⟩
theorem Nm.one {x : Int} (h : 0 ≤ x ∧ x < 18446744073709551616) : Nm [x] x := ⟨Dg.one h, by simp [Na.num, val], by simp⟩
theorem Nm.two {x y : Int} (h : 0 ≤ x ∧ x < 18446744073709551616) (h' : 0 ≤ y ∧ y < 18446744073709551616) : Nm [x, y] (x + 18446744073709551616 * y) :=
  ⟨(Dg.one h).append (Dg.one h'), by simp [Na.num, val], by simp⟩
theorem Lt.word {x : Int} (h : 0 ≤ x ∧ x < 18446744073709551616) : Lt x 1 := ⟨h.1, by rw [Int.pow_succ, Int.pow_zero]; omega⟩
end Na

theorem RowC.cut {w : World} {a : Option Addr} {n cap : Nat} {xs : List Int} (h : RowC w a n cap xs) {m : Nat} (hm : m ≤ n) : RowC w a m cap (xs.take m) := ⟨h.1.cut hm, Nat.le_trans hm h.2.1, h.2.2⟩

section
variable {a b : Option Addr} {n m c1 c2 : Nat} {xs ys : List Int} {A B : Int} {w : World} {k : Nat}
end

section
variable {a b : Option Addr} {n m c1 c2 : Nat} {xs ys : List Int} {A B : Int} {w : World} {k : Nat}
end

end Go.Proofs.YtgobnjeankjkjaaGreatDoor

