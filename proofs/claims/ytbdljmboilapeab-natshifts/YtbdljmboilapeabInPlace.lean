/- Writing in place: only one block turns. -/
import Derived.Test.YtbdljmboilapeabNatTrim
import Derived.Test.YtbdljmboilapeabRefNatMul
namespace Go.Proofs.Ytbdljmboilapeab
open Go.ChangeShapes Go.WideShapes Go.ChangeAt Go.RowKit
open Na
set_option linter.unusedVariables false

/-- only blocks from lo on and below hi may have turned (and new ones come) -/
structure In (lo hi : Nat) (w w' : World) : Prop where
  os : w'.os = w.os
  tape : w'.tape = w.tape
  output : w'.output = w.output
  size : w.heap.size ≤ w'.heap.size
  block : ∀ k, k < w.heap.size → (k < lo ∨ hi ≤ k) → w'.heap[k]? = w.heap[k]?
theorem In.refl (lo hi : Nat) (w : World) : In lo hi w w := ⟨rfl, rfl, rfl, Nat.le_refl _, fun _ _ _ => rfl⟩
theorem In.trans {lo hi : Nat} {a b c : World} (h : In lo hi a b) (k : In lo hi b c) : In lo hi a c :=
  ⟨k.os.trans h.os, k.tape.trans h.tape, k.output.trans h.output, Nat.le_trans h.size k.size, fun i hi' h' => (k.block i (Nat.lt_of_lt_of_le hi' h.size) h').trans (h.block i hi' h')⟩
theorem In.setCell {lo hi : Nat} {a w : World} (h : In lo hi a w) {g k : Nat} (h1 : lo ≤ g) (h2 : g < hi) (u : Value) : In lo hi a (w.setCell ⟨g, k, none⟩ u) :=
  h.trans ⟨rfl, rfl, rfl, by simp [World.setCell], fun i hi' h' => Below.heap_setCell _ _ _ _ (by simp only; omega)⟩
theorem In.set1 {g : Nat} {a w : World} (h : In g (g + 1) a w) (k : Nat) (u : Value) : In g (g + 1) a (w.setCell ⟨g, k, none⟩ u) := h.setCell (Nat.le_refl _) (by omega) u
theorem In.of_below {lo hi : Nat} {w w' : World} (h : Below w.heap.size w w') : In lo hi w w' := ⟨h.os, h.tape, h.output, h.size, fun k hk _ => h.block k hk⟩
theorem In.below {lo hi : Nat} {w w' : World} (h : In lo hi w w') (hlo : lo ≤ w.heap.size) : Below lo w w' := ⟨h.os, h.tape, h.output, h.size, fun k hk => h.block k (by omega) (Or.inl hk)⟩
theorem In.later {lo hi : Nat} {a w w' : World} (h : In lo hi a w) (h' : Below w.heap.size w w') : In lo hi a w' := h.trans (In.of_below h')
theorem In.wider {lo hi lo' hi' : Nat} {w w' : World} (h : In lo hi w w') (h1 : lo' ≤ lo) (h2 : hi ≤ hi') : In lo' hi' w w' := ⟨h.os, h.tape, h.output, h.size, fun k hk hh => h.block k hk (by omega)⟩
/-- blocks of a call's own are no elder one's -/
theorem below_inn {n lo hi : Nat} {a w w' : World} (h : Below n a w) (h' : In lo hi w w') (hn : n ≤ lo) (hs : n ≤ a.heap.size) : Below n a w' :=
  ⟨h'.os.trans h.os, h'.tape.trans h.tape, h'.output.trans h.output, Nat.le_trans h.size h'.size, fun k hk => (h'.block k (by have := h.size; omega) (Or.inl (by omega))).trans (h.block k hk)⟩
/-- the row's block is another one -/
def Off (a : Option Addr) (g : Nat) : Prop := ∀ b off, a = some ⟨b, off, none⟩ → b ≠ g
theorem RowAt.off {k : IntKind} {w : World} {a : Option Addr} {n : Nat} {xs : List Int} (h : RowAt k w a n xs) {g : Nat} (hn : 0 < n) (hg : w.heap.size ≤ g) : Off a g := by
  intro b off hab
  obtain ⟨b', off', ha, hlt, _⟩ := h.at hn
  rw [ha] at hab
  simp only [Option.some.injEq, Addr.mk.injEq] at hab
  omega
theorem off_of {b off g : Nat} (h : b ≠ g) : Off (some ⟨b, off, none⟩) g := by
  intro b' off' hb
  simp only [Option.some.injEq, Addr.mk.injEq] at hb
  omega
theorem RowAt.inn {k : IntKind} {w w' : World} {a : Option Addr} {n : Nat} {xs : List Int} (h : RowAt k w a n xs) {g : Nat} (hi : In g (g + 1) w w') (ho : 0 < n → Off a g) : RowAt k w' a n xs := by
  obtain ⟨h1, h2⟩ := h
  refine ⟨h1, ?_⟩
  by_cases hn : 0 < n
  · rcases h2 with h2 | ⟨b, off, ha, hlt, hc⟩
    · exact Or.inl h2
    · refine Or.inr ⟨b, off, ha, Nat.lt_of_lt_of_le hlt hi.size, fun i hi' => ?_⟩
      have hne := ho hn b off ha
      rw [← hc i hi']
      unfold World.cell?
      rw [hi.block b hlt (by omega)]
  · exact Or.inl (by omega)
theorem RowC.inn {w w' : World} {a : Option Addr} {n cap : Nat} {xs : List Int} (h : RowC w a n cap xs) {g : Nat} (hi : In g (g + 1) w w') (ho : 0 < n → Off a g) : RowC w' a n cap xs := ⟨h.1.inn hi ho, h.2⟩
theorem Own.inn {k : IntKind} {w w' : World} {base g g' n cap : Nat} {e : TypeId} {xs : List Int} (h : Own k w base e (.slice (some ⟨g', 0, none⟩) n cap) xs) (hi : In g (g + 1) w w') (hne : g' ≠ g) : Own k w' base e (.slice (some ⟨g', 0, none⟩) n cap) xs := by
  obtain ⟨h1, h2⟩ := h
  refine ⟨h1, ?_⟩
  rcases h2 with h2 | ⟨g2, c, cur, hv, hb, hc, r⟩
  · exact Or.inl h2
  · refine Or.inr ⟨g2, c, cur, hv, hb, ?_, r⟩
    have hlt : g2 < w.heap.size := by
      by_cases hlt : g2 < w.heap.size
      · exact hlt
      · simp [Array.getElem?_eq_none (Nat.le_of_not_lt hlt)] at hc
    simp only [Value.slice.injEq, Option.some.injEq, Addr.mk.injEq] at hv
    rw [hi.block g2 hlt (by omega)]; exact hc
theorem Own.rebase {k : IntKind} {w : World} {base base' g n cap : Nat} {e : TypeId} {xs : List Int} (h : Own k w base e (.slice (some ⟨g, 0, none⟩) n cap) xs) (hb : base' ≤ g) : Own k w base' e (.slice (some ⟨g, 0, none⟩) n cap) xs := by
  obtain ⟨h1, h2⟩ := h
  refine ⟨h1, ?_⟩
  rcases h2 with h2 | ⟨g2, c, cur, hv, hb2, r⟩
  · exact Or.inl h2
  · refine Or.inr ⟨g2, c, cur, hv, ?_, r⟩
    simp only [Value.slice.injEq, Option.some.injEq, Addr.mk.injEq] at hv
    omega
theorem Own.lt {k : IntKind} {w : World} {base g n cap : Nat} {e : TypeId} {xs : List Int} (h : Own k w base e (.slice (some ⟨g, 0, none⟩) n cap) xs) : g < w.heap.size := by
  obtain ⟨h1, h2⟩ := h
  rcases h2 with ⟨hv, _⟩ | ⟨g2, c, cur, hv, hb2, hc, r⟩
  · simp at hv
  · simp only [Value.slice.injEq, Option.some.injEq, Addr.mk.injEq] at hv
    by_cases hlt : g2 < w.heap.size
    · omega
    · simp [Array.getElem?_eq_none (Nat.le_of_not_lt hlt)] at hc
/-- an owned list reads as a row -/
theorem Own.rowC {w : World} {base g n cap : Nat} {e : TypeId} {xs : List Int} (h : Own .u64 w base e (.slice (some ⟨g, 0, none⟩) n cap) xs) (hn : n = xs.length) : RowC w (some ⟨g, 0, none⟩) n cap xs := by
  subst hn
  obtain ⟨a, c, hv, hr⟩ := h.readsC
  simp only [Value.slice.injEq] at hv
  obtain ⟨h1, _, h3⟩ := hv
  rw [← h1, ← h3] at hr
  exact hr
/-- a window of an owned list -/
theorem Own.win {w : World} {base g n cap : Nat} {e : TypeId} {xs : List Int} (h : Own .u64 w base e (.slice (some ⟨g, 0, none⟩) n cap) xs) (hn : n = xs.length) {o m : Nat} (hom : o + m ≤ n) : RowAt .u64 w (some ⟨g, o, none⟩) m ((xs.drop o).take m) := by
  refine ⟨by rw [List.length_take, List.length_drop]; omega, Or.inr ⟨g, o, rfl, h.lt, fun i hi => ?_⟩⟩
  rw [h.cellAt hn (by omega)]
  have : ((xs.drop o).take m).getD i 0 = xs.getD (o + i) 0 := by simp [List.getD_eq_getElem?_getD, List.getElem?_take_of_lt hi, List.getElem?_drop]
  rw [this]
namespace Na
/-- the window's number -/
def win (us : List Int) (o m : Nat) : Int := num ((us.drop o).take m)
theorem win_split {us : List Int} {o m : Nat} (h : o + m ≤ us.length) : num us = num (us.take o) + 18446744073709551616 ^ o * win us o m + 18446744073709551616 ^ (o + m) * num (us.drop (o + m)) := by
  unfold win num
  have e1 := val_splitB 18446744073709551616 us (i := o) (by omega)
  have e2 := val_splitB 18446744073709551616 (us.drop o) (i := m) (by rw [List.length_drop]; omega)
  rw [List.drop_drop] at e2
  rw [e1, e2, Int.pow_add, Int.mul_add, Int.mul_assoc, Int.add_assoc]
theorem Ws.win {us : List Int} (h : Ws us) (o m : Nat) : Ws ((us.drop o).take m) := (h.drop o).take m
theorem win_nonneg {us : List Int} (h : Ws us) (o m : Nat) : 0 ≤ Na.win us o m := num_nonneg (Ws.win h o m)
theorem win_lt {us : List Int} (h : Ws us) {o m : Nat} (hom : o + m ≤ us.length) : Na.win us o m < 18446744073709551616 ^ m := by
  have := num_bd (Ws.win h o m)
  rw [List.length_take, List.length_drop, Nat.min_eq_left (by omega)] at this
  exact this
theorem win_eq {us ts : List Int} {o m : Nat} {c P : Int} (hl : us.length = ts.length) (hom : o + m ≤ ts.length) (h1 : us.take o = ts.take o) (h2 : us.drop (o + m) = ts.drop (o + m))
    (h : num us + 18446744073709551616 ^ (o + m) * c = num ts + 18446744073709551616 ^ o * P) : Na.win us o m + 18446744073709551616 ^ m * c = Na.win ts o m + P := by
  rw [win_split (us := us) (o := o) (m := m) (by omega), win_split (us := ts) hom, h1, h2, Int.pow_add] at h
  have p := wpow_pos o
  generalize num (ts.take o) = T at h
  generalize num (ts.drop (o + m)) = D at h
  have e : 18446744073709551616 ^ o * (Na.win us o m + 18446744073709551616 ^ m * c) = 18446744073709551616 ^ o * (Na.win ts o m + P) := by grind
  exact Int.eq_of_mul_eq_mul_left (by omega) e
theorem win_all {us : List Int} {n : Nat} (h : us.length = n) : Na.win us 0 n = num us := by
  unfold Na.win; rw [List.drop_zero, List.take_of_length_le (by omega)]
end Na
end Go.Proofs.Ytbdljmboilapeab
