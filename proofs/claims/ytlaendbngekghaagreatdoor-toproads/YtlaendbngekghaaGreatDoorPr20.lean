import Derived.Deep.QuietTactic
import Derived.BigQuiet
import Derived.Laws.EntriesVeiled
import Derived.Below
import Derived.ChangeOld
import Derived.Deep.DeepCutAuto
import Derived.Deep.RegionWith
import Derived.KernelRfl
import Derived.Laws.BitsAllLaws
import Derived.Laws.CopyRow
import Derived.Laws.IdiomCopy
import Derived.Laws.IdiomRangeMap
import Derived.Laws.IdiomStrings
import Derived.Laws.RangeAny
import Derived.Laws.Strings3
import Derived.Lib.OthersKept
import Derived.Lib.Strings
import Derived.Lib.TrimByte
import Derived.Lib.Walk
import Derived.OpenShut
import Derived.OwnWalk
import Derived.ProofKit
import Derived.Scope
import Derived.ShutString
import Derived.WalkKit
import Derived.WalkLawsBesides
import Derived.WalkMore
import Derived.WalkSpells
import Derived.Test.YtlaendbngekghaaGreatDoorPr4
import Derived.Test.YtlaendbngekghaaGreatDoorPr5
import Derived.Test.YtlaendbngekghaaGreatDoorPr6
import Derived.Test.YtlaendbngekghaaGreatDoorPr8
import Derived.Test.YtlaendbngekghaaGreatDoorPr17
/- package power: a power of the table. -/
namespace Go.Proofs.YtlaendbngekghaaGreatDoor
open Go.ChangeShapes Go.WideShapes Go.ChangeAt Go.RowKit
open Na Ar
set_option linter.unusedVariables false
/-- a struct of four cells, one of two, each in its block -/
def F4 (w : World) (g : Nat) (t : TypeId) (x y z u : Value) : Prop := w.heap[g]? = some (.cells #[x, y, z, u] t (0, 0))
def F2 (w : World) (g : Nat) (t : TypeId) (x y : Value) : Prop := w.heap[g]? = some (.cells #[x, y] t (0, 0))
theorem set_block8 {w : World} {g i : Nat} {c : Array Value} {t : TypeId} {f : Nat × Nat} {v : Value} (h : w.heap[g]? = some (.cells c t f)) : (w.setCell ⟨g, i, none⟩ v).heap[g]? = some (.cells (c.setIfInBounds i v) t f) := by
  simp [World.setCell, Array.getElem?_modify, h]
section
variable {w w' : World} {g : Nat} {t : TypeId} {x y z u : Value}
theorem F4.lt (h : F4 w g t x y z u) : g < w.heap.size := by
  by_cases hlt : g < w.heap.size
  · exact hlt
  · unfold F4 at h; simp [Array.getElem?_eq_none (Nat.le_of_not_lt hlt)] at h
theorem F2.lt (h : F2 w g t x y) : g < w.heap.size := by
  by_cases hlt : g < w.heap.size
  · exact hlt
  · unfold F2 at h; simp [Array.getElem?_eq_none (Nat.le_of_not_lt hlt)] at h
theorem F4.later (h : F4 w g t x y z u) (hb : Below w.heap.size w w') : F4 w' g t x y z u := by
  have := h.lt
  unfold F4
  rw [hb.block g this]; exact h
theorem F2.later (h : F2 w g t x y) (hb : Below w.heap.size w w') : F2 w' g t x y := by
  have := h.lt
  unfold F2
  rw [hb.block g this]; exact h
theorem F4.cells (h : F4 w g t x y z u) : w.cell? ⟨g, 0, none⟩ = some x ∧ w.cell? ⟨g, 1, none⟩ = some y ∧ w.cell? ⟨g, 2, none⟩ = some z ∧ w.cell? ⟨g, 3, none⟩ = some u := by
  unfold F4 at h
  simp [World.cell?, h]
theorem F2.cells (h : F2 w g t x y) : w.cell? ⟨g, 0, none⟩ = some x ∧ w.cell? ⟨g, 1, none⟩ = some y := by
  unfold F2 at h
  simp [World.cell?, h]
theorem F4.frozen (h : F4 w g t x y z u) : w.frozen? ⟨g, 0, none⟩ = false ∧ w.frozen? ⟨g, 1, none⟩ = false ∧ w.frozen? ⟨g, 2, none⟩ = false ∧ w.frozen? ⟨g, 3, none⟩ = false := by
  unfold F4 at h
  simp [World.frozen?, h]
theorem F2.frozen (h : F2 w g t x y) : w.frozen? ⟨g, 0, none⟩ = false ∧ w.frozen? ⟨g, 1, none⟩ = false := by
  unfold F2 at h
  simp [World.frozen?, h]
theorem f4_new (w : World) (x y z u : Value) (t : TypeId) : F4 (w.alloc (.cells #[x, y, z, u] t)) w.heap.size t x y z u := heap_alloc_new _ _
theorem f2_new (w : World) (x y : Value) (t : TypeId) : F2 (w.alloc (.cells #[x, y] t)) w.heap.size t x y := heap_alloc_new _ _
theorem F4.set (h : F4 w g t x y z u) (x' y' z' u' : Value) : F4 ((((w.setCell ⟨g, 0, none⟩ x').setCell ⟨g, 1, none⟩ y').setCell ⟨g, 2, none⟩ z').setCell ⟨g, 3, none⟩ u') g t x' y' z' u' :=
  set_block8 (set_block8 (set_block8 (set_block8 h)))
theorem F2.set (h : F2 w g t x y) (x' y' : Value) : F2 ((w.setCell ⟨g, 0, none⟩ x').setCell ⟨g, 1, none⟩ y') g t x' y' := set_block8 (set_block8 h)
theorem below_set4 {B : Nat} {a : World} (h : Below B a w) (hg : B ≤ g) (hs : B ≤ a.heap.size) (x' y' z' u' : Value) : Below B a ((((w.setCell ⟨g, 0, none⟩ x').setCell ⟨g, 1, none⟩ y').setCell ⟨g, 2, none⟩ z').setCell ⟨g, 3, none⟩ u') :=
  below_inn h (((((In.refl g (g + 1) w).set1 0 _).set1 1 _).set1 2 _).set1 3 _) hg hs
end
theorem lt_pair {A : Int} (h : 0 ≤ A ∧ A < 340282366920938463463374607431768211456) : Lt A 2 := by
  have e : (18446744073709551616 : Int) ^ 2 = 340282366920938463463374607431768211456 := by decide
  exact ⟨h.1, by rw [e]; exact h.2⟩
/-- a power as the program keeps it -/
def frV (hi lo x : Int) (b : Bool) : Value := .agg #[.int .u64 hi, .int .u64 lo, .int .i64 x, .bool b]
set_option maxHeartbeats 1600000 in
set_option maxRecDepth 100000 in
theorem array8_any {a : Option Addr} {c : Nat} {lo hi : Int} {w : World} (h : RowC w a 2 c [lo, hi]) :
    Calls Tryz.prog 154 #[.slice a 2 c] w fun e w' => e = .returned (.agg #[.int .u64 hi, .int .u64 lo]) ∧ Below w.heap.size w w' := by
  obtain ⟨b, off, rfl, hlt, c0, c1⟩ : ∃ b off, a = some ⟨b, off, none⟩ ∧ b < w.heap.size ∧ w.cell? ⟨b, off, none⟩ = some (.int .u64 lo) ∧ w.cell? ⟨b, off + 1, none⟩ = some (.int .u64 hi) := by
    rcases h.1.2 with h' | ⟨b, off, h1, h2, h3⟩
    · omega
    · exact ⟨b, off, h1, h2, by have := h3 0 (by omega); simpa using this, by have := h3 1 (by omega); simpa using this⟩
  have hb0 := alloc_below (w := w) (.cells #[.int .u64 0, .int .u64 0] 114)
  have t0 := f2_new w (.int .u64 0) (.int .u64 0) 114
  have n1 : ¬ b = w.heap.size := by omega
  have n2 : ¬ w.heap.size = b := by omega
  go_enter Tryz.func154, Tryz.ntmps154
  go_wp2
  go_region
  all_goals (try go_wp2)
  all_goals (refine bodyPost_ret (v := .agg #[.int .u64 hi, .int .u64 lo]) (by simp [results, Tryz.results154, go_sem]) rfl ?_)
  all_goals exact ⟨rfl, below_drewN (alloc_below (w := w) (.cells #[.int .u64 hi, .int .u64 lo] 114)) 1⟩
set_option maxHeartbeats 1600000 in
set_option maxRecDepth 100000 in
theorem cut8_less {a : Option Addr} {n c k : Nat} {xs : List Int} {w : World} (hr : RowC w a n c xs) (hn : Nm xs (5 ^ k)) (hk : k ≤ 55) :
    Calls Tryz.prog 120 #[.slice a n c] w fun e w' => e = .returned (frV (pV k / 18446744073709551616) (pV k % 18446744073709551616) (pX k) true) ∧ Below w.heap.size w w' := by
  obtain ⟨pv, px, hb8⟩ := pV_less hk
  have hT : inT (k : Int) := ⟨by omega, by omega⟩
  have rg := pV_rng hT
  have pw := pV_words hT
  have lt2 : Lt (5 ^ k * 2 ^ (128 - bN k) : Int) 2 := lt_pair (by rw [← pv]; exact ⟨by omega, rg.2.1⟩)
  have hbc := fun w' (hb : Below w.heap.size w w') => natBits_any (hr.later hb) hn.ws (by have := hn.len; have := hr.1.1; omega)
  rw [hn.num, bits_five] at hbc
  have hsc := fun w' (hb : Below w.heap.size w w') => shlQ (hr.later hb) hn (128 - bN k) (by omega) lt2 (by omega)
  rw [← pv, show ((128 - bN k : Nat) : Int) = -((bN k : Int) - 128) by omega] at hsc
  obtain ⟨B, hB⟩ : ∃ B : Int, B = (bN k : Int) := ⟨_, rfl⟩
  rw [← hB] at hbc hsc px
  have hB0 : 0 ≤ B := by omega
  have hB1 : B ≤ 128 := by omega
  have HX : Hid (pX (k : Int) = B - 128) := px
  have HW := pw.1
  have HV : Hid (words (pV (k : Int)) = [pV (k : Int) % 18446744073709551616, pV (k : Int) / 18446744073709551616]) := HW
  have d1 : decide (B - 128 ≤ 0) = true := by simp; omega
  clear pv px hb8 rg pw lt2 hB HW
  generalize pV (k : Int) = V at *
  have t0 := f4_new w (.int .u64 0) (.int .u64 0) (.int .i64 0) (.bool false) 116
  have hb0 := alloc_below (w := w) (.cells #[.int .u64 0, .int .u64 0, .int .i64 0, .bool false] 116)
  obtain ⟨w0, hw0⟩ : ∃ w0, w0 = w.alloc (.cells #[.int .u64 0, .int .u64 0, .int .i64 0, .bool false] 116) := ⟨_, rfl⟩
  rw [← hw0] at t0 hb0
  obtain ⟨g, hg⟩ : ∃ g, g = w.heap.size := ⟨_, rfl⟩
  have HG : Hid (w.heap.size = g) := hg.symm
  rw [← hg] at t0
  have hbc0 := hbc w0 hb0
  go_enter Tryz.func120, Tryz.ntmps120
  go_wp2_with fail
  rw [← hw0, ← hg]
  clear hw0 hg hbc
  refine hbc0.mono ?_
  rintro e w1 ⟨rfl, hb⟩
  have hB := hb0.trans (hb.mono hb0.size)
  have t1 := t0.later hb
  have hs1 := hsc w1 hB
  clear hb0 hb t0 hbc0 hsc
  go_wp2_with fail
  refine hs1.mono ?_
  rintro e w2 ⟨xa, xn, xc, xl, rfl, rx, nx, EX, hb⟩
  have hB2 := hB.trans (hb.mono hB.size)
  have t2 := t1.later hb
  rw [EX.out, HV.out] at rx
  obtain rfl : 2 = xn := rx.1.1
  have ha := array8_any rx
  clear hs1 hB t1 hb EX nx
  go_wp2_with fail
  refine ha.mono ?_
  rintro e w3 ⟨rfl, hb⟩
  have hB3 := hB2.trans (hb.mono hB2.size)
  have t3 := t2.later hb
  obtain ⟨x0, x1, x2, x3⟩ := t3.cells
  obtain ⟨z0, z1, z2, z3⟩ := t3.frozen
  clear ha hB2 t2 hb rx
  go_wp2
  obtain ⟨j0, j1, j2, j3⟩ := (t3.set (.int .u64 (V / 18446744073709551616)) (.int .u64 (V % 18446744073709551616)) (.int .i64 (B - 128)) (.bool true)).cells
  refine bodyPost_ret (v := frV (V / 18446744073709551616) (V % 18446744073709551616) (B - 128) true) (by simp [results, Tryz.results120, go_sem, frV, j0, j1, j2, j3]) rfl ?_
  exact ⟨by rw [HX.out], below_set4 hB3 (by rw [HG.out]; exact Nat.le_refl _) (Nat.le_refl _) _ _ _ _⟩
set_option maxHeartbeats 1600000 in
set_option maxRecDepth 100000 in
theorem cut8_more {a : Option Addr} {n c k : Nat} {xs : List Int} {w : World} (hr : RowC w a n c xs) (hn : Nm xs (5 ^ k)) (h1 : 55 < k) (hk : k ≤ 347) :
    Calls Tryz.prog 120 #[.slice a n c] w fun e w' => e = .returned (frV (pV k / 18446744073709551616) (pV k % 18446744073709551616) (pX k) false) ∧ Below w.heap.size w w' := by
  obtain ⟨pv, px, hb8⟩ := pV_more hk h1
  have hb9 := (bN_pos hk).1
  have hT : inT (k : Int) := ⟨by omega, by omega⟩
  have pw := pV_words hT
  have l5 := five_lt8 (n := k) (by omega)
  have hbc := fun w' (hb : Below w.heap.size w w') => natBits_any (hr.later hb) hn.ws (by have := hn.len; have := hr.1.1; omega)
  rw [hn.num, bits_five] at hbc
  have hsc := fun w' (hb : Below w.heap.size w w') => shrQ (hr.later hb) hn (bN k - 128) (by omega) (l5.mono (show 13 ≤ 4096 by omega)) (Nat.le_refl _) (S := decide ((5 : Int) ^ k % 2 ^ (bN k - 128) ≠ 0)) rfl
  generalize decide ((5 : Int) ^ k % 2 ^ (bN k - 128) ≠ 0) = S at hsc
  rw [← pv, show ((bN k - 128 : Nat) : Int) = (bN k : Int) - 128 by omega] at hsc
  obtain ⟨B, hB⟩ : ∃ B : Int, B = (bN k : Int) := ⟨_, rfl⟩
  rw [← hB] at hbc hsc px
  have hB0 : 128 < B := by omega
  have hB1 : B ≤ 900 := by omega
  have HX : Hid (pX (k : Int) = B - 128) := px
  have HW := pw.1
  have HV : Hid (words (pV (k : Int)) = [pV (k : Int) % 18446744073709551616, pV (k : Int) / 18446744073709551616]) := HW
  have d1 : decide (B - 128 ≤ 0) = false := by simp; omega
  clear pv px hb8 hb9 pw l5 hB HW
  generalize pV (k : Int) = V at *
  have t0 := f4_new w (.int .u64 0) (.int .u64 0) (.int .i64 0) (.bool false) 116
  have hb0 := alloc_below (w := w) (.cells #[.int .u64 0, .int .u64 0, .int .i64 0, .bool false] 116)
  obtain ⟨w0, hw0⟩ : ∃ w0, w0 = w.alloc (.cells #[.int .u64 0, .int .u64 0, .int .i64 0, .bool false] 116) := ⟨_, rfl⟩
  rw [← hw0] at t0 hb0
  obtain ⟨g, hg⟩ : ∃ g, g = w.heap.size := ⟨_, rfl⟩
  have HG : Hid (w.heap.size = g) := hg.symm
  rw [← hg] at t0
  have hbc0 := hbc w0 hb0
  go_enter Tryz.func120, Tryz.ntmps120
  go_wp2_with fail
  rw [← hw0, ← hg]
  clear hw0 hg hbc
  refine hbc0.mono ?_
  rintro e w1 ⟨rfl, hb⟩
  have hB := hb0.trans (hb.mono hb0.size)
  have t1 := t0.later hb
  have hs1 := hsc w1 hB
  clear hb0 hb t0 hbc0 hsc
  go_wp2_with fail
  refine hs1.mono ?_
  rintro e w2 ⟨xa, xn, xc, xl, rfl, rx, nx, EX, hb⟩
  have hB2 := hB.trans (hb.mono hB.size)
  have t2 := t1.later hb
  rw [EX.out, HV.out] at rx
  obtain rfl : 2 = xn := rx.1.1
  have ha := array8_any rx
  clear hs1 hB t1 hb EX nx
  go_wp2_with fail
  refine ha.mono ?_
  rintro e w3 ⟨rfl, hb⟩
  have hB3 := hB2.trans (hb.mono hB2.size)
  have t3 := t2.later hb
  obtain ⟨x0, x1, x2, x3⟩ := t3.cells
  obtain ⟨z0, z1, z2, z3⟩ := t3.frozen
  clear ha hB2 t2 hb rx
  go_wp2
  obtain ⟨j0, j1, j2, j3⟩ := (t3.set (.int .u64 (V / 18446744073709551616)) (.int .u64 (V % 18446744073709551616)) (.int .i64 (B - 128)) (.bool false)).cells
  refine bodyPost_ret (v := frV (V / 18446744073709551616) (V % 18446744073709551616) (B - 128) false) (by simp [results, Tryz.results120, go_sem, frV, j0, j1, j2, j3]) rfl ?_
  exact ⟨by rw [HX.out], below_set4 hB3 (by rw [HG.out]; exact Nat.le_refl _) (Nat.le_refl _) _ _ _ _⟩
set_option maxHeartbeats 1600000 in
set_option maxRecDepth 100000 in
theorem divided8_any {a : Option Addr} {n c k : Nat} {xs : List Int} {w : World} (hr : RowC w a n c xs) (hn : Nm xs (5 ^ k)) (hlen : n ≤ 3800000) (h1 : 1 ≤ k) (hk : k ≤ 348) :
    Calls Tryz.prog 119 #[.slice a n c] w fun e w' => e = .returned (frV (pV (-(k : Int)) / 18446744073709551616) (pV (-(k : Int)) % 18446744073709551616) (pX (-(k : Int))) false) ∧ Below w.heap.size w w' := by
  obtain ⟨pv, px⟩ := pV_under hk h1
  have hb9 := bN_neg hk h1
  have hT : inT (-(k : Int)) := ⟨by omega, by omega⟩
  have pw := pV_words hT
  have hbc := fun w' (hb : Below w.heap.size w w') => natBits_any (hr.later hb) hn.ws (by have := hn.len; have := hr.1.1; omega)
  rw [hn.num, bits_five] at hbc
  have p5 : (0 : Int) < 5 ^ k := Int.pow_pos (by omega)
  have hfr := fun w' => natFrom_any (v := 1) (by omega) w'
  obtain ⟨B, hB⟩ : ∃ B : Int, B = (bN k : Int) := ⟨_, rfl⟩
  rw [← hB] at hbc px
  have hB0 : 0 ≤ B := by omega
  have hB1 : B ≤ 850 := by omega
  have HB : Hid (B = (bN k : Int)) := hB
  have HX : Hid (pX (-(k : Int)) = -(B + 127)) := px
  have HW := pw.1
  have HV : Hid (words (pV (-(k : Int))) = [pV (-(k : Int)) % 18446744073709551616, pV (-(k : Int)) / 18446744073709551616]) := HW
  have HP : Hid (pV (-(k : Int)) = 2 ^ (bN k + 127) / 5 ^ k) := pv
  clear pv px pw hB HW
  generalize pV (-(k : Int)) = V at *
  generalize pX (-(k : Int)) = X at *
  have t0 := f4_new w (.int .u64 0) (.int .u64 0) (.int .i64 0) (.bool false) 116
  have hb0 := alloc_below (w := w) (.cells #[.int .u64 0, .int .u64 0, .int .i64 0, .bool false] 116)
  obtain ⟨w0, hw0⟩ : ∃ w0, w0 = w.alloc (.cells #[.int .u64 0, .int .u64 0, .int .i64 0, .bool false] 116) := ⟨_, rfl⟩
  rw [← hw0] at t0 hb0
  obtain ⟨g, hg⟩ : ∃ g, g = w.heap.size := ⟨_, rfl⟩
  have HG : Hid (w.heap.size = g) := hg.symm
  rw [← hg] at t0
  have hbc0 := hbc w0 hb0
  go_enter Tryz.func119, Tryz.ntmps119
  go_wp2_with fail
  rw [← hw0, ← hg]
  clear hw0 hg hbc
  refine hbc0.mono ?_
  rintro e w1 ⟨rfl, hb⟩
  have hB := hb0.trans (hb.mono hb0.size)
  have t1 := t0.later hb
  clear hb0 hb t0 hbc0
  go_wp2_with fail
  refine (hfr w1).mono ?_
  rintro e w2 ⟨v, rfl, ho, hb⟩
  have hB2 := hB.trans (hb.mono hB.size)
  have t2 := t1.later hb
  obtain ⟨oa, on, oc, ol, rfl, ro, no, _⟩ := ho.opens lt_one (by omega)
  have lt2 := (lt_one.pow2 (t := bN k + 127)).mono (show 1 + ((bN k + 127) / 64 + 1) ≤ 30 by omega)
  have hs1 := shlQ ro no (bN k + 127) (by omega) lt2 (by omega)
  rw [show ((bN k + 127 : Nat) : Int) = B + 128 - 1 by rw [HB.out]; omega] at hs1
  clear hB t1 hb ho hfr
  go_wp2_with fail
  refine hs1.mono ?_
  rintro e w3 ⟨xa, xn, xc, xl, rfl, rx, nx, EX, hb⟩
  have hB3 := hB2.trans (hb.mono hB2.size)
  have t3 := t2.later hb
  have hxl : xn ≤ 3800000 := by
    have := lt2.len
    rw [← EX.out, rx.1.1] at this
    omega
  have hd := divMod_any rx (hr.later hB3) nx.ws hn.ws hxl hlen (by rw [hn.num]; exact p5)
  rw [nx.num, hn.num, Int.one_mul, ← HP.out, HV.out] at hd
  clear hs1 hB2 t2 hb EX ro no
  go_wp2_with fail
  refine hd.mono ?_
  rintro e w4 ⟨v1, v2, rfl, o1, o2, hb, _⟩
  have hB4 := hB3.trans (hb.mono hB3.size)
  have t4 := t3.later hb
  obtain ⟨qa, qc, rfl, rq⟩ := o1.readsC
  have ha := array8_any (show RowC w4 qa 2 qc _ from rq)
  clear hd hB3 t3 hb o1 o2 rx nx
  go_wp2_with fail
  refine ha.mono ?_
  rintro e w5 ⟨rfl, hb⟩
  have hB5 := hB4.trans (hb.mono hB4.size)
  have t5 := t4.later hb
  obtain ⟨x0, x1, x2, x3⟩ := t5.cells
  obtain ⟨z0, z1, z2, z3⟩ := t5.frozen
  clear ha hB4 t4 hb rq
  go_wp2
  obtain ⟨j0, j1, j2, j3⟩ := (t5.set (.int .u64 (V / 18446744073709551616)) (.int .u64 (V % 18446744073709551616)) (.int .i64 (-(B + 128 - 1))) (.bool false)).cells
  refine bodyPost_ret (v := frV (V / 18446744073709551616) (V % 18446744073709551616) (-(B + 128 - 1)) false) (by simp [results, Tryz.results119, go_sem, frV, j0, j1, j2, j3]) rfl ?_
  exact ⟨by rw [HX.out, show -(B + 128 - 1) = -(B + 127) by omega], below_set4 hB5 (by rw [HG.out]; exact Nat.le_refl _) (Nat.le_refl _) _ _ _ _⟩
theorem five8_len {k : Nat} {K : Int} (hK : K = k) (h : k ≤ 348) (w : World) :
    Calls Tryz.prog 103 #[.int .i64 K] w fun e w' => ∃ a l c ls, e = .returned (.tuple #[.slice a l c, .int .i64 0]) ∧ RowC w' a l c ls ∧ (Nm ls (5 ^ k) ∧ l ≤ 13) ∧ Below w.heap.size w w' := by
  subst hK
  have f := five_any (k : Int) (by omega) (by omega) w
  have E1 : pwE 112899 (k : Int) = 0 := by unfold pwE; rw [if_neg (by omega), if_neg (by omega)]
  have E2 : pwL 5 112899 (k : Int) = words (5 ^ k) := by unfold pwL; rw [if_neg (by omega), if_neg (by omega), Int.toNat_natCast]
  rw [E1, E2] at f
  refine f.mono ?_
  rintro e w' ⟨v, rfl, ho, hb⟩
  have hl := (five_lt8 h).len
  obtain ⟨a, l, c, ls, rfl, hr, hn, hw⟩ := ho.opens (five_lt8 h) (by omega)
  rw [← hw.out, hr.1.1] at hl
  exact ⟨a, l, c, ls, rfl, hr, ⟨hn, hl⟩, hb⟩
theorem outside8_no {e : Int} (h : inT e) (w : World) : Calls Tryz.prog 118 #[.int .i64 e] w fun r w' => r = .returned (.bool false) ∧ w = w' := by
  unfold inT at h
  have d1 : decide (e < -348) = false := by simp; omega
  have d2 : decide (e > 347) = false := by simp; omega
  have d3 : decide (347 < e) = false := by simp; omega
  go_enter Tryz.func118, Tryz.ntmps118
  go_wp2
  go_ret
  exact ⟨rfl, rfl⟩
set_option maxHeartbeats 1600000 in
set_option maxRecDepth 100000 in
theorem reckon8_neg {e : Int} (h : inT e) (he : e < 0) (w : World) :
    Calls Tryz.prog 73 #[.int .i64 e] w fun r w' => r = .returned (.tuple #[frV (pV e / 18446744073709551616) (pV e % 18446744073709551616) (pX e) (pW e), .int .i64 0]) ∧ Below w.heap.size w w' := by
  have ho := fun w => outside8_no h w
  obtain ⟨k, hk⟩ : ∃ k : Nat, e = -(k : Int) := ⟨(-e).toNat, by omega⟩
  have HT := h
  unfold inT at h
  have pw : Hid (pW e = false) := by show _ = _; rw [pW_is e HT]; simp; omega
  have hf := fun w => five8_len (k := k) (K := -e) (by omega) (by omega) w
  have l5 := five_lt8 (n := k) (by omega)
  have hk0 : 1 ≤ k := by omega
  have hk9 : k ≤ 348 := by omega
  have d1 : decide (e < 0) = true := by simp; omega
  have mx : max e (-e) = -e := by omega
  have t0 := f4_new w (.int .u64 0) (.int .u64 0) (.int .i64 0) (.bool false) 116
  have hb0 := alloc_below (w := w) (.cells #[.int .u64 0, .int .u64 0, .int .i64 0, .bool false] 116)
  obtain ⟨g, hg⟩ : ∃ g, g = w.heap.size := ⟨_, rfl⟩
  have HG : Hid (w.heap.size = g) := hg.symm
  rw [← hg] at t0
  have HK : Hid (e = -(k : Int)) := hk
  clear hk HT
  go_enter Tryz.func73, Tryz.ntmps73
  go_wp2_with fail
  rw [← hg]
  generalize w.alloc (.cells #[.int .u64 0, .int .u64 0, .int .i64 0, .bool false] 116) = w0 at *
  clear hg
  refine (ho _).mono ?_
  rintro r w1 ⟨rfl, rfl⟩
  have hb1 := alloc_below (w := w0) (.cells #[.func (.func 119) #[] #[], .func (.func 120) #[] #[]] 164)
  have s1 := f2_new w0 (.func (.func 119) #[] #[]) (.func (.func 120) #[] #[]) 164
  have t1 := t0.later hb1
  have hB1 := hb0.trans (hb1.mono hb0.size)
  have gh := t0.lt
  clear ho t0 hb0 hb1
  go_wp2_with fail
  obtain ⟨q, hq⟩ : ∃ q, q = w0.heap.size := ⟨_, rfl⟩
  rw [← hq] at s1 gh
  rw [← hq]
  generalize w0.alloc (.cells #[.func (.func 119) #[] #[], .func (.func 120) #[] #[]] 164) = w1 at *
  clear hq
  refine (hf w1).mono ?_
  rintro r w2 ⟨fa, fn, fc, fs, rfl, rf, ⟨nf, lf⟩, hb⟩
  have s2 := s1.later hb
  have t2 := t1.later hb
  have hB2 := hB1.trans (hb.mono hB1.size)
  obtain ⟨y0, y1⟩ := s2.cells
  have hc := divided8_any rf nf (by omega) hk0 hk9
  rw [← HK.out] at hc
  clear hf hB1 hb s1 t1 s2
  go_wp2_with fail
  refine hc.mono ?_
  rintro r w3 ⟨rfl, hb⟩
  have hB3 := hB2.trans (hb.mono hB2.size)
  have t3 := t2.later hb
  obtain ⟨x0, x1, x2, x3⟩ := t3.cells
  obtain ⟨z0, z1, z2, z3⟩ := t3.frozen
  clear hc hB2 hb t2 y0 y1 rf nf
  unfold frV
  go_wp2
  obtain ⟨j0, j1, j2, j3⟩ := (t3.set (.int .u64 (pV e / 18446744073709551616)) (.int .u64 (pV e % 18446744073709551616)) (.int .i64 (pX e)) (.bool false)).cells
  refine bodyPost_ret (v := .tuple #[.agg #[.int .u64 (pV e / 18446744073709551616), .int .u64 (pV e % 18446744073709551616), .int .i64 (pX e), .bool false], .int .i64 0]) (by simp [results, Tryz.results73, go_sem, j0, j1, j2, j3]) rfl ?_
  exact ⟨by rw [pw.out]; rfl, below_set4 hB3 (by rw [HG.out]; exact Nat.le_refl _) (Nat.le_refl _) _ _ _ _⟩
set_option maxHeartbeats 1600000 in
set_option maxRecDepth 100000 in
theorem reckon8_less {e : Int} (h : inT e) (he : 0 ≤ e ∧ e ≤ 55) (w : World) :
    Calls Tryz.prog 73 #[.int .i64 e] w fun r w' => r = .returned (.tuple #[frV (pV e / 18446744073709551616) (pV e % 18446744073709551616) (pX e) (pW e), .int .i64 0]) ∧ Below w.heap.size w w' := by
  have ho := fun w => outside8_no h w
  obtain ⟨k, hk⟩ : ∃ k : Nat, e = (k : Int) := ⟨(e).toNat, by omega⟩
  have HT := h
  unfold inT at h
  have pw : Hid (pW e = true) := by show _ = _; rw [pW_is e HT]; simp; omega
  have hf := fun w => five8_len (k := k) (K := e) (by omega) (by omega) w
  have l5 := five_lt8 (n := k) (by omega)
  have hk0 : 0 ≤ k := by omega
  have hk9 : k ≤ 55 := by omega
  have d1 : decide (e < 0) = false := by simp; omega
  have mx : max e (-e) = e := by omega
  have t0 := f4_new w (.int .u64 0) (.int .u64 0) (.int .i64 0) (.bool false) 116
  have hb0 := alloc_below (w := w) (.cells #[.int .u64 0, .int .u64 0, .int .i64 0, .bool false] 116)
  obtain ⟨g, hg⟩ : ∃ g, g = w.heap.size := ⟨_, rfl⟩
  have HG : Hid (w.heap.size = g) := hg.symm
  rw [← hg] at t0
  have HK : Hid (e = (k : Int)) := hk
  clear hk HT
  go_enter Tryz.func73, Tryz.ntmps73
  go_wp2_with fail
  rw [← hg]
  generalize w.alloc (.cells #[.int .u64 0, .int .u64 0, .int .i64 0, .bool false] 116) = w0 at *
  clear hg
  refine (ho _).mono ?_
  rintro r w1 ⟨rfl, rfl⟩
  have hb1 := alloc_below (w := w0) (.cells #[.func (.func 119) #[] #[], .func (.func 120) #[] #[]] 164)
  have s1 := f2_new w0 (.func (.func 119) #[] #[]) (.func (.func 120) #[] #[]) 164
  have t1 := t0.later hb1
  have hB1 := hb0.trans (hb1.mono hb0.size)
  have gh := t0.lt
  clear ho t0 hb0 hb1
  go_wp2_with fail
  obtain ⟨q, hq⟩ : ∃ q, q = w0.heap.size := ⟨_, rfl⟩
  rw [← hq] at s1 gh
  rw [← hq]
  generalize w0.alloc (.cells #[.func (.func 119) #[] #[], .func (.func 120) #[] #[]] 164) = w1 at *
  clear hq
  refine (hf w1).mono ?_
  rintro r w2 ⟨fa, fn, fc, fs, rfl, rf, ⟨nf, lf⟩, hb⟩
  have s2 := s1.later hb
  have t2 := t1.later hb
  have hB2 := hB1.trans (hb.mono hB1.size)
  obtain ⟨y0, y1⟩ := s2.cells
  have hc := cut8_less rf nf hk9
  rw [← HK.out] at hc
  clear hf hB1 hb s1 t1 s2
  go_wp2_with fail
  refine hc.mono ?_
  rintro r w3 ⟨rfl, hb⟩
  have hB3 := hB2.trans (hb.mono hB2.size)
  have t3 := t2.later hb
  obtain ⟨x0, x1, x2, x3⟩ := t3.cells
  obtain ⟨z0, z1, z2, z3⟩ := t3.frozen
  clear hc hB2 hb t2 y0 y1 rf nf
  unfold frV
  go_wp2
  obtain ⟨j0, j1, j2, j3⟩ := (t3.set (.int .u64 (pV e / 18446744073709551616)) (.int .u64 (pV e % 18446744073709551616)) (.int .i64 (pX e)) (.bool true)).cells
  refine bodyPost_ret (v := .tuple #[.agg #[.int .u64 (pV e / 18446744073709551616), .int .u64 (pV e % 18446744073709551616), .int .i64 (pX e), .bool true], .int .i64 0]) (by simp [results, Tryz.results73, go_sem, j0, j1, j2, j3]) rfl ?_
  exact ⟨by rw [pw.out]; rfl, below_set4 hB3 (by rw [HG.out]; exact Nat.le_refl _) (Nat.le_refl _) _ _ _ _⟩
set_option maxHeartbeats 1600000 in
set_option maxRecDepth 100000 in
theorem reckon8_more {e : Int} (h : inT e) (he : 55 < e) (w : World) :
    Calls Tryz.prog 73 #[.int .i64 e] w fun r w' => r = .returned (.tuple #[frV (pV e / 18446744073709551616) (pV e % 18446744073709551616) (pX e) (pW e), .int .i64 0]) ∧ Below w.heap.size w w' := by
  have ho := fun w => outside8_no h w
  obtain ⟨k, hk⟩ : ∃ k : Nat, e = (k : Int) := ⟨(e).toNat, by omega⟩
  have HT := h
  unfold inT at h
  have pw : Hid (pW e = false) := by show _ = _; rw [pW_is e HT]; simp; omega
  have hf := fun w => five8_len (k := k) (K := e) (by omega) (by omega) w
  have l5 := five_lt8 (n := k) (by omega)
  have hk0 : 0 ≤ k := by omega
  have hk9 : k ≤ 347 := by omega
  have hk1 : 55 < k := by omega
  have d1 : decide (e < 0) = false := by simp; omega
  have mx : max e (-e) = e := by omega
  have t0 := f4_new w (.int .u64 0) (.int .u64 0) (.int .i64 0) (.bool false) 116
  have hb0 := alloc_below (w := w) (.cells #[.int .u64 0, .int .u64 0, .int .i64 0, .bool false] 116)
  obtain ⟨g, hg⟩ : ∃ g, g = w.heap.size := ⟨_, rfl⟩
  have HG : Hid (w.heap.size = g) := hg.symm
  rw [← hg] at t0
  have HK : Hid (e = (k : Int)) := hk
  clear hk HT
  go_enter Tryz.func73, Tryz.ntmps73
  go_wp2_with fail
  rw [← hg]
  generalize w.alloc (.cells #[.int .u64 0, .int .u64 0, .int .i64 0, .bool false] 116) = w0 at *
  clear hg
  refine (ho _).mono ?_
  rintro r w1 ⟨rfl, rfl⟩
  have hb1 := alloc_below (w := w0) (.cells #[.func (.func 119) #[] #[], .func (.func 120) #[] #[]] 164)
  have s1 := f2_new w0 (.func (.func 119) #[] #[]) (.func (.func 120) #[] #[]) 164
  have t1 := t0.later hb1
  have hB1 := hb0.trans (hb1.mono hb0.size)
  have gh := t0.lt
  clear ho t0 hb0 hb1
  go_wp2_with fail
  obtain ⟨q, hq⟩ : ∃ q, q = w0.heap.size := ⟨_, rfl⟩
  rw [← hq] at s1 gh
  rw [← hq]
  generalize w0.alloc (.cells #[.func (.func 119) #[] #[], .func (.func 120) #[] #[]] 164) = w1 at *
  clear hq
  refine (hf w1).mono ?_
  rintro r w2 ⟨fa, fn, fc, fs, rfl, rf, ⟨nf, lf⟩, hb⟩
  have s2 := s1.later hb
  have t2 := t1.later hb
  have hB2 := hB1.trans (hb.mono hB1.size)
  obtain ⟨y0, y1⟩ := s2.cells
  have hc := cut8_more rf nf hk1 hk9
  rw [← HK.out] at hc
  clear hf hB1 hb s1 t1 s2
  go_wp2_with fail
  refine hc.mono ?_
  rintro r w3 ⟨rfl, hb⟩
  have hB3 := hB2.trans (hb.mono hB2.size)
  have t3 := t2.later hb
  obtain ⟨x0, x1, x2, x3⟩ := t3.cells
  obtain ⟨z0, z1, z2, z3⟩ := t3.frozen
  clear hc hB2 hb t2 y0 y1 rf nf
  unfold frV
  go_wp2
  obtain ⟨j0, j1, j2, j3⟩ := (t3.set (.int .u64 (pV e / 18446744073709551616)) (.int .u64 (pV e % 18446744073709551616)) (.int .i64 (pX e)) (.bool false)).cells
  refine bodyPost_ret (v := .tuple #[.agg #[.int .u64 (pV e / 18446744073709551616), .int .u64 (pV e % 18446744073709551616), .int .i64 (pX e), .bool false], .int .i64 0]) (by simp [results, Tryz.results73, go_sem, j0, j1, j2, j3]) rfl ?_
  exact ⟨by rw [pw.out]; rfl, below_set4 hB3 (by rw [HG.out]; exact Nat.le_refl _) (Nat.le_refl _) _ _ _ _⟩
theorem reckon8_in {e : Int} (h : inT e) (w : World) :
    Calls Tryz.prog 73 #[.int .i64 e] w fun r w' => r = .returned (.tuple #[frV (pV e / 18446744073709551616) (pV e % 18446744073709551616) (pX e) (pW e), .int .i64 0]) ∧ Below w.heap.size w w' := by
  by_cases h0 : e < 0
  · exact reckon8_neg h h0 w
  · by_cases h1 : e ≤ 55
    · exact reckon8_less h ⟨by omega, h1⟩ w
    · exact reckon8_more h (by omega) w
end Go.Proofs.YtlaendbngekghaaGreatDoor

/- package power: next; Five, Whole, Above, Log2, Log10; the statements' alive. -/
namespace Go.Proofs.YtlaendbngekghaaGreatDoor
open Go.ChangeShapes Go.WideShapes Go.ChangeAt Go.RowKit
open Na Ar
set_option linter.unusedVariables false
namespace Na
theorem next_lo {V : Int} (h0 : 0 ≤ V) : addLo (V % 18446744073709551616) 1 0 = (V + 1) % 18446744073709551616 := by unfold addLo; omega
theorem next_c {V : Int} (h0 : 0 ≤ V) : addHi (V % 18446744073709551616) 1 0 = (V % 18446744073709551616 + 1) / 18446744073709551616 := by unfold addHi; simp
theorem next_hi {V : Int} (h0 : 0 ≤ V) (h : V + 1 < 340282366920938463463374607431768211456) : addLo (V / 18446744073709551616) 0 ((V % 18446744073709551616 + 1) / 18446744073709551616) = (V + 1) / 18446744073709551616 ∧
    addHi (V / 18446744073709551616) 0 ((V % 18446744073709551616 + 1) / 18446744073709551616) = 0 := by unfold addLo addHi; omega
end Na
theorem or_none {x : Int} (h : U x) : bits .or .u64 x 0 = x := by
  rw [u64_or _ _ h.1 h.2 (by omega) (by omega)]
  have := h.1
  simp
  omega
set_option maxHeartbeats 1600000 in
set_option maxRecDepth 100000 in
theorem next8_any {V x : Int} {b : Bool} (h0 : 0 ≤ V) (h1 : V + 1 < 340282366920938463463374607431768211456) (hx0 : -1000 ≤ x) (hx1 : x ≤ 1000) (w : World) :
    Calls Tryz.prog 76 #[frV (V / 18446744073709551616) (V % 18446744073709551616) x b] w fun r w' => r = .returned (frV ((V + 1) / 18446744073709551616) ((V + 1) % 18446744073709551616) x b) ∧ Below w.heap.size w w' := by
  have uh : U (V / 18446744073709551616) := by unfold U; omega
  have ul : U (V % 18446744073709551616) := by unfold U; omega
  have uc : U ((V % 18446744073709551616 + 1) / 18446744073709551616) := by unfold U; omega
  have un : U ((V + 1) / 18446744073709551616) := by unfold U; omega
  have A1 := fun w => add_any ul (show U 1 by unfold U; omega) (show U 0 by unfold U; omega) w
  have A2 := fun w => add_any uh (show U 0 by unfold U; omega) uc w
  rw [next_lo h0, next_c h0] at A1
  rw [(next_hi h0 h1).1, (next_hi h0 h1).2] at A2
  have O := or_none un
  have HO : Hid (bits .or .u64 ((V + 1) / 18446744073709551616) 0 = (V + 1) / 18446744073709551616) := O
  unfold frV
  generalize V / 18446744073709551616 = hi at *
  generalize (V % 18446744073709551616 + 1) / 18446744073709551616 = c at *
  generalize V % 18446744073709551616 = lo at *
  generalize (V + 1) / 18446744073709551616 = hi' at *
  generalize (V + 1) % 18446744073709551616 = lo' at *
  clear h0 h1
  go_enter Tryz.func76, Tryz.ntmps76
  go_wp2_with fail
  refine (A1 _).mono ?_
  rintro r w9 ⟨p1, q1, rfl, rfl, rfl, rfl⟩
  go_wp2_with fail
  refine (A2 _).mono ?_
  rintro r w9 ⟨p, q, rfl, rfl, rfl, rfl⟩
  go_wp2
  refine bodyPost_ret (v := .agg #[.int .u64 p, .int .u64 p1, .int .i64 x, .bool b]) (by simp [results, Tryz.results76, go_sem]) rfl ?_
  refine ⟨rfl, ?_⟩
  repeat (first | exact Below.refl _ _ | refine Below.alloc ?_ (by simp <;> omega) _)
theorem results8_tmp4 {fn : Func} {t u v x : Tmp} (h : fn.results = #[.tmp t, .tmp u, .tmp v, .tmp x]) (tmps : Array Value) (P : Program) (w : World) :
    (results fn tmps).run P w = .ok (.tuple #[tmps.getD t undef, tmps.getD u undef, tmps.getD v undef, tmps.getD x undef]) w := by
  simp [results, h]
/-- what is not below -/
def abV (e : Int) : Int := if pW e = true then pV e else pV e + 1
theorem abV_in {e : Int} (h : pW e = true) : abV e = pV e := by unfold abV; rw [if_pos h]
theorem abV_out {e : Int} (h : pW e = false) : abV e = pV e + 1 := by unfold abV; rw [if_neg (by rw [h]; simp)]
set_option maxHeartbeats 1600000 in
set_option maxRecDepth 100000 in
theorem five8_raw {e H L X E : Int} {B : Bool} {w : World} (hr : Calls Tryz.prog 73 #[.int .i64 e] w fun r w' => r = .returned (.tuple #[frV H L X B, .int .i64 E]) ∧ Below w.heap.size w w') :
    Calls Tryz.prog 27 #[.int .i64 e] w fun r w' => r = .returned (.tuple #[.int .u64 H, .int .u64 L, .int .i64 X, .int .i64 E]) ∧ Below w.heap.size w w' := by
  go_enter Tryz.func27, Tryz.ntmps27
  go_wp2_with fail
  refine hr.mono ?_
  rintro r w1 ⟨rfl, hb⟩
  unfold frV
  have hb1 := alloc_below (w := w1) (.cells #[.int .u64 H, .int .u64 L, .int .i64 X, .bool B] 116)
  have hB := hb.trans (hb1.mono hb.size)
  clear hb hb1 hr
  go_wp2
  go_region
  all_goals (try go_wp2)
  all_goals (refine bodyPost_ret (results8_tmp4 rfl _ _ _) rfl ?_)
  all_goals exact ⟨rfl, below_drewN hB 1⟩
theorem five8_in {e : Int} (h : inT e) (w : World) : Calls Tryz.prog 27 #[.int .i64 e] w fun r w' => r = .returned (.tuple #[.int .u64 (pV e / 18446744073709551616), .int .u64 (pV e % 18446744073709551616), .int .i64 (pX e), .int .i64 0]) ∧ Below w.heap.size w w' :=
  five8_raw (reckon8_in h w)
set_option maxHeartbeats 1600000 in
set_option maxRecDepth 100000 in
theorem above8_in {e : Int} (h : inT e) (w : World) :
    Calls Tryz.prog 29 #[.int .i64 e] w fun r w' => r = .returned (.tuple #[.int .u64 (abV e / 18446744073709551616), .int .u64 (abV e % 18446744073709551616), .int .i64 (pX e), .int .i64 0]) ∧ Below w.heap.size w w' := by
  have hr := reckon8_in h w
  by_cases hw : pW e = true
  · rw [abV_in hw]
    rw [hw] at hr
    generalize pV e / 18446744073709551616 = H at *
    generalize pV e % 18446744073709551616 = L at *
    generalize pX e = X at *
    clear hw
    go_enter Tryz.func29, Tryz.ntmps29
    go_wp2_with fail
    refine hr.mono ?_
    rintro r w1 ⟨rfl, hb⟩
    unfold frV
    have hb1 := alloc_below (w := w1) (.cells #[.int .u64 H, .int .u64 L, .int .i64 X, .bool true] 116)
    have hB := hb.trans (hb1.mono hb.size)
    clear hb hb1 hr
    go_wp2
    go_region
    all_goals (try go_wp2)
    all_goals (refine bodyPost_ret (results8_tmp4 rfl _ _ _) rfl ?_)
    all_goals exact ⟨rfl, below_drewN hB 1⟩
  · have hw : pW e = false := by simpa using hw
    have rg := pV_rng h
    have rx := pX_rng h
    have hn := fun w => next8_any (b := false) (V := pV e) (x := pX e) (by omega) (rg.2.2 hw) rx.1 rx.2 w
    rw [abV_out hw]
    rw [hw] at hr
    unfold frV at hn hr
    generalize pV e / 18446744073709551616 = H at *
    generalize pV e % 18446744073709551616 = L at *
    generalize (pV e + 1) / 18446744073709551616 = H' at *
    generalize (pV e + 1) % 18446744073709551616 = L' at *
    generalize pX e = X at *
    clear hw rg rx
    go_enter Tryz.func29, Tryz.ntmps29
    go_wp2_with fail
    refine hr.mono ?_
    rintro r w1 ⟨rfl, hb⟩
    have hb1 := alloc_below (w := w1) (.cells #[.int .u64 H, .int .u64 L, .int .i64 X, .bool false] 116)
    have t1 := f4_new w1 (.int .u64 H) (.int .u64 L) (.int .i64 X) (.bool false) 116
    have hB := hb.trans (hb1.mono hb.size)
    have hs := hb.size
    clear hb hb1 hr
    go_wp2_with fail
    obtain ⟨g, hg⟩ : ∃ g, g = w1.heap.size := ⟨_, rfl⟩
    rw [← hg] at t1 hs
    rw [← hg]
    generalize w1.alloc (.cells #[.int .u64 H, .int .u64 L, .int .i64 X, .bool false] 116) = w2 at *
    refine (hn _).mono ?_
    rintro r w3 ⟨rfl, hb⟩
    have t3 := t1.later hb
    have hB3 := hB.trans (hb.mono hB.size)
    obtain ⟨x0, x1, x2, x3⟩ := t3.cells
    obtain ⟨z0, z1, z2, z3⟩ := t3.frozen
    obtain ⟨j0, j1, j2, j3⟩ := (t3.set (.int .u64 H') (.int .u64 L') (.int .i64 X) (.bool false)).cells
    have hB4 := below_set4 hB3 hs (Nat.le_refl _) (.int .u64 H') (.int .u64 L') (.int .i64 X) (.bool false)
    clear hn hb hB hB3 t1 hg
    go_wp2
    generalize (((w3.setCell ⟨g, 0, none⟩ (.int .u64 H')).setCell ⟨g, 1, none⟩ (.int .u64 L')).setCell ⟨g, 2, none⟩ (.int .i64 X)).setCell ⟨g, 3, none⟩ (.bool false) = w4 at *
    clear x0 x1 x2 x3 z0 z1 z2 z3 t3
    go_region
    all_goals (try go_wp2)
    all_goals (refine bodyPost_ret (results8_tmp4 rfl _ _ _) rfl ?_)
    all_goals exact ⟨rfl, below_drewN hB4 1⟩
namespace Na
end Na
end Go.Proofs.YtlaendbngekghaaGreatDoor

/- package lemire: Small, Fast. -/
namespace Go.Proofs.YtlaendbngekghaaGreatDoor
open Go.ChangeShapes Go.WideShapes Go.ChangeAt Go.RowKit
open Na Ar
set_option linter.unusedVariables false
/-- the table of the exact powers of ten -/
def TenVar (w : World) : Prop := ∀ k, k < 23 → w.cell? ⟨0, k, none⟩ = some (.int .u64 (tenP k))
theorem TenVar.lt {w : World} (h : TenVar w) : 0 < w.heap.size := by
  have := h 0 (by omega)
  unfold World.cell? at this
  apply Decidable.byContradiction
  intro hc
  rw [Array.getElem?_eq_none (by show w.heap.size ≤ 0; omega)] at this
  cases this
theorem TenVar.later {w w' : World} (h : TenVar w) (hb : Below w.heap.size w w') : TenVar w' := fun k hk => by
  rw [hb.cell (p := ⟨0, k, none⟩) h.lt]
  exact h k hk
namespace Ar
theorem round_none {B : Int} {neg : Bool} (hB : 0 < B) : RoundIs 0 B false false 0 0 0 := by
  refine ⟨0, ⟨by omega, by decide, by rw [num_zero']; omega, Or.inr ?_⟩, Or.inl ⟨Or.inl ?_, rfl, rfl⟩⟩
  · rw [show (0 : Int) + 1 = 1 by rfl, num_one']; omega
  · unfold agn
    rw [num_zero', Int.zero_mul, if_neg (by omega), if_pos rfl]; rfl
end Ar
set_option maxHeartbeats 1600000 in
theorem lemSmall_any {m e : Int} (hm : U m) (i0 : -9223372036854775808 ≤ e) (i1 : e ≤ 9223372036854775807) {w : World} (hT : TenVar w) :
    Calls Tryz.prog 9 #[.int .u64 m, .int .i64 e] w fun r w' => ∃ b, r = .returned (.tuple #[.int .u64 b, .bool (smallOk m e)]) ∧ (smallOk m e = true → SmlI m e b) ∧ (smallOk m e = false → b = 0) ∧ U b ∧ Below w.heap.size w w' := by
  have hm0 : 0 ≤ m := hm.1
  cases hok : smallOk m e
  · unfold smallOk at hok
    rw [decide_eq_false_iff_not] at hok
    by_cases h1 : m ≤ 9007199254740992
    · have d1 : decide (m > 9007199254740992) = false := by simp; omega
      have d1' : decide (9007199254740992 < m) = false := by simp; omega
      by_cases h2 : e ≤ -23
      · have d2 : decide (e ≤ -23) = true := by simp; omega
        clear hok
        go_enter Tryz.func9, Tryz.ntmps9
        go_wp2
        go_ret2
        exact ⟨_, rfl, fun h => (by cases h), fun _ => rfl, U_zero, Below.refl _ _⟩
      · have d2 : decide (e ≤ -23) = false := by simp; omega
        have d3 : decide (e ≥ 23) = true := by simp; omega
        have d3' : decide (23 ≤ e) = true := by simp; omega
        clear hok h2
        go_enter Tryz.func9, Tryz.ntmps9
        go_wp2
        go_ret2
        exact ⟨_, rfl, fun h => (by cases h), fun _ => rfl, U_zero, Below.refl _ _⟩
    · have d1 : decide (m > 9007199254740992) = true := by simp; omega
      have d1' : decide (9007199254740992 < m) = true := by simp; omega
      clear hok h1
      go_enter Tryz.func9, Tryz.ntmps9
      go_wp2
      go_ret2
      exact ⟨_, rfl, fun h => (by cases h), fun _ => rfl, U_zero, Below.refl _ _⟩
  · unfold smallOk at hok
    rw [decide_eq_true_eq] at hok
    obtain ⟨k1, k2, k3⟩ := hok
    have d1 : decide (m > 9007199254740992) = false := by simp; omega
    have d1' : decide (9007199254740992 < m) = false := by simp; omega
    have d2 : decide (e ≤ -23) = false := by simp; omega
    have d3 : decide (e ≥ 23) = false := by simp; omega
    have d3' : decide (23 ≤ e) = false := by simp; omega
    by_cases hz : m = 0
    · have HS : Hid (SmlI 0 e 0) := by
        show SmlI 0 e 0
        unfold SmlI
        have e0 : scA 0 0 = 0 := by unfold scA; rw [Int.zero_mul]
        split
        · rw [Int.zero_mul, e0]; exact round_none (neg := false) (scB_pos' (by omega))
        · rw [e0]; exact round_none (neg := false) (scB_pos' (Int.pow_pos (by omega)))
      subst hz
      clear hm0 hm
      go_enter Tryz.func9, Tryz.ntmps9
      go_wp2
      go_ret2
      exact ⟨_, rfl, fun _ => HS.out, fun h => (by cases h), U_zero, Below.refl _ _⟩
    · have z : (m == 0) = false := beq_no hz
      by_cases hn : e < 0
      · obtain ⟨k, hk⟩ : ∃ k : Nat, e = -(k : Int) := ⟨(-e).toNat, by omega⟩
        have hk23 : k < 23 := by omega
        have d4 : decide (e < 0) = true := by simp; omega
        have hc := hT k hk23
        have hneg : -e = (k : Int) := by omega
        have hB := fun w => byTen_any hk23 hm hz k1 w
        have HS : Hid (∀ b, RoundIs (scA m 0) (scB (10 ^ k) 0) false false 0 b 0 → SmlI m e b) := fun b h => by
          unfold SmlI
          rw [if_neg (by omega), hneg, Int.toNat_natCast]
          exact h
        clear hk
        go_enter Tryz.func9, Tryz.ntmps9
        go_wp2_with fail
        refine (hB _).mono ?_
        rintro r w1 ⟨b, rfl, hr, ub, hg⟩
        have HQ : Hid (SmlI m e b) := HS.out b hr
        clear hr HS hB
        go_wp2
        go_ret2
        exact ⟨_, rfl, fun _ => HQ.out, fun h => (by cases h), ub, hg.2⟩
      · obtain ⟨k, hk⟩ : ∃ k : Nat, e = (k : Int) := ⟨e.toNat, by omega⟩
        have hk23 : k < 23 := by omega
        have hc := hT k hk23
        have hB := fun w => timesTen_any hk23 hm hz k1 w
        have HS : Hid (∀ b, RoundIs (scA (m * 10 ^ k) 0) (scB 1 0) false false 0 b 0 → SmlI m e b) := fun b h => by
          unfold SmlI
          rw [if_pos (by omega), hk, Int.toNat_natCast]
          exact h
        subst hk
        have d4 : decide ((k : Int) < 0) = false := by simp
        go_enter Tryz.func9, Tryz.ntmps9
        go_wp2_with fail
        refine (hB _).mono ?_
        rintro r w1 ⟨b, rfl, hr, ub, hg⟩
        have HQ : Hid (SmlI m (k : Int) b) := HS.out b hr
        clear hr HS hB
        go_wp2
        go_ret2
        exact ⟨_, rfl, fun _ => HQ.out, fun h => (by cases h), ub, hg.2⟩
namespace Ar
/-- what Fast answers -/
def FastIs (m e b E : Int) : Prop :=
  ((m = 0 ∨ e < -348) ∧ b = 0 ∧ E = 0) ∨ (m ≠ 0 ∧ 347 < e ∧ b = 0 ∧ E = 70) ∨
  (m ≠ 0 ∧ inT e ∧ ∃ b1 E1 b2 E2, RoundIs (scA (pV e * m) (pX e + e)) (scB 1 (pX e + e)) false false 0 b1 E1 ∧ RoundIs (scA (abV e * m) (pX e + e)) (scB 1 (pX e + e)) false false 0 b2 E2 ∧
    ((b1 = b2 ∧ E1 = E2 ∧ b = b1 ∧ E = E1) ∨ (¬ (b1 = b2 ∧ E1 = E2) ∧ b = 0 ∧ E = 100)))
end Ar
set_option maxHeartbeats 1600000 in
theorem lemFast_any {m e : Int} (hm : U m) (i0 : -9223372036854775808 ≤ e) (i1 : e ≤ 9223372036854775807) (w : World) :
    Calls Tryz.prog 10 #[.int .u64 m, .int .i64 e] w fun r w' => ∃ b E, r = .returned (.tuple #[.int .u64 b, .int .i64 E]) ∧ FastIs m e b E ∧ U b ∧ Below w.heap.size w w' := by
  by_cases hz : m = 0
  · subst hz
    have HQ : Hid (FastIs 0 e 0 0) := Or.inl ⟨Or.inl rfl, rfl, rfl⟩
    go_enter Tryz.func10, Tryz.ntmps10
    go_wp2
    go_ret2
    exact ⟨_, _, rfl, HQ.out, U_zero, Below.refl _ _⟩
  · have z : (m == 0) = false := beq_no hz
    by_cases h1 : e < -348
    · have HQ : Hid (FastIs m e 0 0) := Or.inl ⟨Or.inr h1, rfl, rfl⟩
      have d1 : decide (e < -348) = true := by simp; omega
      go_enter Tryz.func10, Tryz.ntmps10
      go_wp2
      go_ret2
      exact ⟨_, _, rfl, HQ.out, U_zero, Below.refl _ _⟩
    · have d1 : decide (e < -348) = false := by simp; omega
      by_cases h2 : 347 < e
      · have HQ : Hid (FastIs m e 0 70) := Or.inr (Or.inl ⟨hz, h2, rfl, rfl⟩)
        have d2 : decide (347 < e) = true := by simp; omega
        have d2' : decide (e > 347) = true := by simp; omega
        go_enter Tryz.func10, Tryz.ntmps10
        go_wp2
        go_ret2
        exact ⟨_, _, rfl, HQ.out, U_zero, Below.refl _ _⟩
      · have d2 : decide (347 < e) = false := by simp; omega
        have d2' : decide (e > 347) = false := by simp; omega
        have hin : inT e := ⟨by omega, by omega⟩
        obtain ⟨r0, r1, r2⟩ := pV_rng hin
        obtain ⟨x0, x1⟩ := pX_rng hin
        have a0 : 170141183460469231731687303715884105728 ≤ abV e ∧ abV e < 340282366920938463463374607431768211456 := by
          cases hw : pW e
          · rw [abV_out hw]; have := r2 hw; omega
          · rw [abV_in hw]; omega
        have hF := fun w => five8_in hin w
        have hA := fun w => above8_in hin w
        have hP1 := fun w => product_any (m := m) (hi := pV e / 18446744073709551616) (lo := pV e % 18446744073709551616) (x := pX e + e) hm hz (by unfold U; omega) (by omega) (by unfold U; omega) (by omega) (by omega) w
        have hP2 := fun w => product_any (m := m) (hi := abV e / 18446744073709551616) (lo := abV e % 18446744073709551616) (x := pX e + e) hm hz (by unfold U; omega) (by omega) (by unfold U; omega) (by omega) (by omega) w
        have e1 : pV e / 18446744073709551616 * 18446744073709551616 + pV e % 18446744073709551616 = pV e := by omega
        have e2' : abV e / 18446744073709551616 * 18446744073709551616 + abV e % 18446744073709551616 = abV e := by omega
        rw [e1] at hP1
        rw [e2'] at hP2
        have HF : Hid (∀ b1 E1 b2 E2 b E, RoundIs (scA (pV e * m) (pX e + e)) (scB 1 (pX e + e)) false false 0 b1 E1 → RoundIs (scA (abV e * m) (pX e + e)) (scB 1 (pX e + e)) false false 0 b2 E2 → ((b1 = b2 ∧ E1 = E2 ∧ b = b1 ∧ E = E1) ∨ (¬ (b1 = b2 ∧ E1 = E2) ∧ b = 0 ∧ E = 100)) → FastIs m e b E) := fun b1 E1 b2 E2 b E q1 q2 q3 => Or.inr (Or.inr ⟨hz, hin, b1, E1, b2, E2, q1, q2, q3⟩)
        generalize pV e / 18446744073709551616 = H1 at *
        generalize pV e % 18446744073709551616 = L1 at *
        generalize abV e / 18446744073709551616 = H2 at *
        generalize abV e % 18446744073709551616 = L2 at *
        clear e1 e2' a0 r0 r1 r2
        generalize pX e = X at *
        go_enter Tryz.func10, Tryz.ntmps10
        go_wp2_with fail
        refine (hF _).mono ?_
        rintro r w1 ⟨rfl, hb1⟩
        clear hF
        go_wp2_with fail
        refine (hP1 _).mono ?_
        rintro r w2 ⟨b1, E1, rfl, hr1, ub1, hg⟩
        have HR1 : Hid (RoundIs (scA (pV e * m) (X + e)) (scB 1 (X + e)) false false 0 b1 E1) := hr1
        have hB := hb1.trans (hg.2.mono hb1.size)
        clear hP1 hr1 hg hb1
        go_wp2_with fail
        refine (hA _).mono ?_
        rintro r w3 ⟨rfl, hb⟩
        have hB := hB.trans (hb.mono hB.size)
        clear hA hb
        go_wp2_with fail
        refine (hP2 _).mono ?_
        rintro r w4 ⟨b2, E2, rfl, hr2, ub2, hg⟩
        have HR2 : Hid (RoundIs (scA (abV e * m) (X + e)) (scB 1 (X + e)) false false 0 b2 E2) := hr2
        have hB := hB.trans (hg.2.mono hB.size)
        clear hP2 hr2 hg
        by_cases hb : b1 = b2
        · by_cases hE : E1 = E2
          · have HQ : Hid (FastIs m e b1 E1) := HF.out _ _ _ _ _ _ HR1.out HR2.out (Or.inl ⟨hb, hE, rfl, rfl⟩)
            have t1 : (b1 != b2) = false := bne_of hb
            have t2 : (E1 != E2) = false := bne_of hE
            clear HF hb hE HR1 HR2
            go_wp2
            go_ret2
            exact ⟨_, _, rfl, HQ.out, ub1, hB⟩
          · have HQ : Hid (FastIs m e 0 100) := HF.out _ _ _ _ _ _ HR1.out HR2.out (Or.inr ⟨fun q => hE q.2, rfl, rfl⟩)
            have t1 : (b1 != b2) = false := bne_of hb
            have t2 : (E1 != E2) = true := bne_yes hE
            clear HF hb hE HR1 HR2
            go_wp2
            go_ret2
            exact ⟨_, _, rfl, HQ.out, U_zero, hB⟩
        · have HQ : Hid (FastIs m e 0 100) := HF.out _ _ _ _ _ _ HR1.out HR2.out (Or.inr ⟨fun q => hb q.1, rfl, rfl⟩)
          have t1 : (b1 != b2) = true := bne_yes hb
          clear HF hb HR1 HR2
          go_wp2
          go_ret2
          exact ⟨_, _, rfl, HQ.out, U_zero, hB⟩
end Go.Proofs.YtlaendbngekghaaGreatDoor

/- Plain numbers: where Fast is sure it is the number itself, rounded. -/
namespace Go.Proofs.YtlaendbngekghaaGreatDoor
open Go.RowKit
open Na Ar
set_option linter.unusedVariables false
namespace Ar
/-- the number m times ten to the e, by a numerator and a denominator -/
def exN (m e : Int) : Int := if 0 ≤ e then m * 10 ^ e.toNat else m
def exD (e : Int) : Int := if 0 ≤ e then 1 else 10 ^ (-e).toNat
theorem exD_pos (e : Int) : 0 < exD e := by unfold exD; split; omega; exact Int.pow_pos (by omega)
def ExIs (m e b E : Int) : Prop := RoundIs (scA (exN m e) 0) (scB (exD e) 0) false false 0 b E
theorem small_ex {m e b : Int} (h : SmlI m e b) : ExIs m e b 0 := by
  unfold SmlI at h
  unfold ExIs exN exD
  by_cases h0 : 0 ≤ e
  · rw [if_pos h0] at h; rw [if_pos h0, if_pos h0]; exact h
  · rw [if_neg h0] at h; rw [if_neg h0, if_neg h0]; exact h
theorem scB_flat (D : Int) : scB D 0 = D := by unfold scB; rw [e2_zero (by omega), Int.mul_one]
theorem ex_uniq {m e b E b' E' : Int} (h : ExIs m e b E) (h' : ExIs m e b' E') : b = b' ∧ E = E' := roundIs_uniq (scB_pos' (exD_pos e)) h h'
/-! ### there is an answer; the order -/
theorem bel_some {A B : Int} (hA : 0 ≤ A) : ∃ d, BelP A B d := by
  have key : ∀ (n : Nat) (lo hi : Int), hi - lo = n → HalfI A B lo hi → ∃ d, BelP A B d := by
    intro n
    induction n with
    | zero => exact fun lo hi e h => ⟨lo, hav_end h (by omega)⟩
    | succ n ih =>
      intro lo hi e h
      by_cases hq : numW hi * B ≤ A
      · exact ⟨hi, hav_end (hav_up h (by omega) (Int.le_refl _) hq) (by omega)⟩
      · exact ih lo (hi - 1) (by omega) (hav_down h (by omega) (Int.le_refl _) (by omega))
  exact key (mostP - 0).toNat 0 mostP (by decide) (hav_start hA)
theorem round_some {A B : Int} (hA : 0 ≤ A) : ∃ b E, RoundIs A B false false 0 b E := by
  obtain ⟨d, hd⟩ := bel_some (B := B) hA
  by_cases h : agn A B (numW d) false = 0 ∨ upP A B false false 0 d = false
  · exact ⟨_, _, d, hd, Or.inl ⟨h, rfl, rfl⟩⟩
  · have h1 : agn A B (numW d) false ≠ 0 := fun q => h (Or.inl q)
    have h2 : upP A B false false 0 d = true := by
      cases hu : upP A B false false 0 d
      · exact absurd (Or.inr hu) h
      · rfl
    by_cases hm : d = mostP
    · exact ⟨_, _, d, hd, Or.inr ⟨⟨h1, h2⟩, Or.inl ⟨hm, rfl, rfl⟩⟩⟩
    · exact ⟨_, _, d, hd, Or.inr ⟨⟨h1, h2⟩, Or.inr ⟨by have := hd.2.1; omega, rfl, rfl⟩⟩⟩
theorem round_over {A B b E : Int} (hB : 0 < B) (h : RoundIs A B false false 0 b E) : (E = 70 ∧ b = 0 ∧ (numW mostP + nxtN mostP) * B ≤ 2 * A) ∨ (E = 0 ∧ 0 ≤ b ∧ b ≤ mostP ∧ 2 * A < (numW mostP + nxtN mostP) * B) := by
  rcases even_near hB h with h | ⟨h, d, d0, d1, hb, h2, h3, _⟩
  · exact Or.inl h
  · right
    have hs : sgB false = 0 := rfl
    rw [hs, Int.add_zero] at hb
    refine ⟨h, by omega, by omega, ?_⟩
    by_cases hm : d = mostP
    · subst hm
      by_cases hq : 2 * A = (numW mostP + nxtN mostP) * B
      · exact absurd rfl (h3 hq).2
      · omega
    · have hs2 := num_succ d0 (by omega)
      have n1 := num_mono (p := d) (q := mostP) d0 d1 (Int.le_refl _)
      have n2 := num_mono (p := d + 1) (q := mostP) (by omega) (by omega) (Int.le_refl _)
      have n3 := nxt_gt mostP
      rw [hs2] at n2
      have : (numW d + nxtN d) * B < (numW mostP + nxtN mostP) * B := Int.mul_lt_mul_of_pos_right (by omega) hB
      omega
/-- the greater number's answer is not below -/
theorem round_rise {A B A' B' b E b' E' : Int} (hB : 0 < B) (hB' : 0 < B') (hl : A * B' ≤ A' * B) (h : RoundIs A B false false 0 b E) (h' : RoundIs A' B' false false 0 b' E') :
    (E' = 70 ∧ b' = 0) ∨ (E = 0 ∧ E' = 0 ∧ b ≤ b') := by
  rcases round_over hB' h' with ⟨q1, q2, _⟩ | ⟨q1, q2, q3, q4⟩
  · exact Or.inl ⟨q1, q2⟩
  · right
    rcases round_over hB h with ⟨r1, r2, r3⟩ | ⟨r1, r2, r3, r4⟩
    · exfalso
      have a1 : (numW mostP + nxtN mostP) * B * B' ≤ 2 * A * B' := Int.mul_le_mul_of_nonneg_right r3 (by omega)
      have a2 : 2 * A' * B < (numW mostP + nxtN mostP) * B' * B := Int.mul_lt_mul_of_pos_right q4 hB
      have a3 : (numW mostP + nxtN mostP) * B' * B = (numW mostP + nxtN mostP) * B * B' := by rw [Int.mul_assoc, Int.mul_comm B', ← Int.mul_assoc]
      rw [Int.mul_assoc 2 A' B] at a2
      rw [Int.mul_assoc 2 A B'] at a1
      omega
    · exact ⟨r1, q1, round_mono hB hB' hl h h' r1 q1⟩
/-- between two that are rounded alike -/
theorem round_between {A B A1 B1 A2 B2 b E : Int} (hA : 0 ≤ A) (hB : 0 < B) (hB1 : 0 < B1) (hB2 : 0 < B2) (l1 : A1 * B ≤ A * B1) (l2 : A * B2 ≤ A2 * B) (h1 : RoundIs A1 B1 false false 0 b E) (h2 : RoundIs A2 B2 false false 0 b E) : RoundIs A B false false 0 b E := by
  obtain ⟨b', E', h⟩ := round_some (B := B) hA
  have r1 := round_rise hB1 hB l1 h1 h
  have r2 := round_rise hB hB2 l2 h h2
  rcases r1 with ⟨q1, q2⟩ | ⟨q1, q2, q3⟩
  · rcases r2 with ⟨s1, s2⟩ | ⟨s1, s2, s3⟩
    · rw [q1, q2] at h; rw [s1, s2]; exact h
    · omega
  · rcases r2 with ⟨s1, s2⟩ | ⟨s1, s2, s3⟩
    · omega
    · have e1 : b' = b := by omega
      rw [q2] at h; rw [q1, ← e1]; exact h
/-! ### the bounds of the table -/
theorem p10 (n : Nat) : (10 : Int) ^ n = 5 ^ n * 2 ^ n := by rw [← Int.mul_pow]; rfl
/-- five to the e, by a numerator and a denominator -/
def fvN (e : Int) : Int := if 0 ≤ e then 5 ^ e.toNat else 1
def fvD (e : Int) : Int := if 0 ≤ e then 1 else 5 ^ (-e).toNat
/-- powers, with the exponent out of sight -/
def t10 (n : Nat) : Int := 10 ^ n
theorem t10_cast (n : Nat) : ((10 ^ n : Nat) : Int) = t10 n := by unfold t10; rw [Int.natCast_pow]; rfl
theorem t10_pos (n : Nat) : 0 < t10 n := Int.pow_pos (by omega)
theorem t10_mono {a b : Nat} (h : a ≤ b) : t10 a ≤ t10 b := by
  unfold t10
  have e : (10 : Int) ^ b = 10 ^ a * 10 ^ (b - a) := by rw [← Int.pow_add]; congr 1; omega
  rw [e]
  have p1 : (0 : Int) < 10 ^ a := Int.pow_pos (by omega)
  have p2 : (0 : Int) < 10 ^ (b - a) := Int.pow_pos (by omega)
  have := Int.mul_le_mul_of_nonneg_left (show (1 : Int) ≤ 10 ^ (b - a) by omega) (Int.le_of_lt p1)
  omega
theorem e2_cast (n : Nat) : ((2 ^ n : Nat) : Int) = e2 (n : Int) := by unfold e2; rw [Int.toNat_natCast, Int.natCast_pow]; rfl
theorem blt_cast {a b : Nat} (h : Nat.blt (2 ^ a) (10 ^ b) = true) : e2 (a : Int) < t10 b := by
  rw [← e2_cast, ← t10_cast]
  exact Int.ofNat_lt.mpr (Nat.blt_eq.mp h)
theorem npow_split {b a c n : Nat} (h : a = c + n) : b ^ a = b ^ c * b ^ n := by rw [h, Nat.pow_add]
theorem tab_split {V X T n : Nat} {e : Int} (h : -(n : Int) ≤ e) : (V * 2 ^ X * 5 ^ n ≤ 5 ^ (e + n).toNat * 2 ^ T → (V : Int) * e2 (X : Int) * fvD e ≤ fvN e * e2 (T : Int)) ∧
    (5 ^ (e + n).toNat * 2 ^ T ≤ V * 2 ^ X * 5 ^ n → fvN e * e2 (T : Int) ≤ (V : Int) * e2 (X : Int) * fvD e) := by
  unfold fvN fvD
  have hf : ∀ n : Nat, ((5 ^ n : Nat) : Int) = 5 ^ n := fun n => by rw [Int.natCast_pow]; rfl
  rw [← e2_cast, ← e2_cast]
  generalize (2 : Nat) ^ T = T
  have h5 : 0 < (5 : Nat) ^ n := Nat.pow_pos (by omega)
  by_cases h0 : 0 ≤ e
  · rw [if_pos h0, if_pos h0, Int.mul_one, npow_split (show (e + n).toNat = e.toNat + n by omega), ← hf]
    generalize (5 : Nat) ^ n = F at *
    generalize (5 : Nat) ^ e.toNat = G at *
    generalize (2 : Nat) ^ X = P at *
    constructor
    · intro q
      have : V * P ≤ G * T := by
        apply Nat.le_of_mul_le_mul_right _ h5
        rw [Nat.mul_right_comm G T F]; exact q
      exact_mod_cast this
    · intro q
      have : G * T ≤ V * P := by
        apply Nat.le_of_mul_le_mul_right _ h5
        rw [Nat.mul_right_comm G T F]; exact q
      exact_mod_cast this
  · rw [if_neg h0, if_neg h0, Int.one_mul]
    have e1 : (5 : Nat) ^ n = 5 ^ (e + n).toNat * 5 ^ (-e).toNat := npow_split (by omega)
    have h6 : 0 < (5 : Nat) ^ (e + n).toNat := Nat.pow_pos (by omega)
    rw [e1, ← hf]
    generalize (5 : Nat) ^ (e + n).toNat = F at *
    generalize (5 : Nat) ^ (-e).toNat = G at *
    generalize (2 : Nat) ^ X = P at *
    constructor
    · intro q
      have : V * P * G ≤ T := by
        apply Nat.le_of_mul_le_mul_right _ h6
        rw [Nat.mul_comm T F, Nat.mul_assoc, Nat.mul_comm G F]; exact q
      exact_mod_cast this
    · intro q
      have : T ≤ V * P * G := by
        apply Nat.le_of_mul_le_mul_right _ h6
        rw [Nat.mul_comm T F, Nat.mul_assoc (V * P), Nat.mul_comm G F]; exact q
      exact_mod_cast this
theorem pX_is {e : Int} (h : inT e) : pX e + 1000 = (xN (e + 348).toNat : Int) := by unfold pX; omega
theorem tab_lo {e : Int} (h : inT e) : pV e * e2 (pX e + 1000) * fvD e ≤ fvN e * e2 ((1000 : Nat) : Int) := by
  have hi : (e + 348).toNat < 696 := by unfold inT at h; omega
  have := (tab_split (V := vN (e + 348).toNat) (X := xN (e + 348).toNat) (T := 1000) (n := 348) h.1).1 (vN_main hi).1
  rw [pX_is h]
  exact this
theorem tab_hi {e : Int} (h : inT e) : fvN e * e2 ((1000 : Nat) : Int) ≤ abV e * e2 (pX e + 1000) * fvD e := by
  have hi : (e + 348).toNat < 696 := by unfold inT at h; omega
  obtain ⟨m1, m2, m3⟩ := vN_main hi
  rw [pX_is h]
  cases hw : pW e
  · rw [abV_out hw]
    exact (tab_split (V := vN (e + 348).toNat + 1) (X := xN (e + 348).toNat) (T := 1000) (n := 348) h.1).2 (Nat.le_of_lt m2)
  · rw [abV_in hw]
    exact (tab_split (V := vN (e + 348).toNat) (X := xN (e + 348).toNat) (T := 1000) (n := 348) h.1).2 (Nat.le_of_eq (m3.mp hw).symm)
/-- two numbers with powers of two, held against one another -/
theorem hold_le {P D N x : Int} {K : Nat} (hx : 0 ≤ x + K) (hK : 1074 ≤ K) : (P * D * e2 (x + K) ≤ N * e2 K → scA P x * scB D 0 ≤ scA N 0 * scB 1 x) ∧ (N * e2 K ≤ P * D * e2 (x + K) → scA N 0 * scB 1 x ≤ scA P x * scB D 0) := by
  have hsc : scA P x * scB D 0 = P * D * e2 (x + 1074) := by rw [scB_flat]; unfold scA; rw [Int.mul_right_comm]
  have hsn : scA N 0 * scB 1 x = N * (e2 1074 * e2 (-(x + 1074))) := by unfold scA scB; rw [Int.one_mul, Int.zero_add, Int.mul_assoc]
  rw [hsc, hsn]
  by_cases h : 0 ≤ x + 1074
  · rw [e2_zero (k := -(x + 1074)) (by omega), Int.mul_one]
    have s1 : e2 (x + K) = e2 (x + 1074) * e2 (K - 1074) := by rw [← e2_add h (by omega)]; congr 1; omega
    have s2 : e2 (K : Int) = e2 1074 * e2 (K - 1074) := by rw [← e2_add (by omega) (by omega)]; congr 1; omega
    rw [s1, s2, ← Int.mul_assoc, ← Int.mul_assoc]
    have hp := e2_pos ((K : Int) - 1074)
    exact ⟨fun q => Int.le_of_mul_le_mul_right q hp, fun q => Int.le_of_mul_le_mul_right q hp⟩
  · rw [e2_zero (k := x + 1074) (by omega), Int.mul_one, ← e2_add (by omega) (by omega)]
    have s2 : e2 (K : Int) = e2 (1074 + -(x + 1074)) * e2 (x + K) := by rw [← e2_add (by omega) hx]; congr 1; omega
    rw [s2, ← Int.mul_assoc]
    have hp := e2_pos (x + K)
    exact ⟨fun q => Int.le_of_mul_le_mul_right q hp, fun q => Int.le_of_mul_le_mul_right q hp⟩
theorem ten_parts (m e : Int) (h0 : -348 ≤ e) (h1 : e ≤ 347) : exN m e * e2 (3000 : Nat) * fvD e = m * fvN e * exD e * e2 (e + (3000 : Nat)) := by
  unfold exN exD fvN fvD
  by_cases h : 0 ≤ e
  · rw [if_pos h, if_pos h, if_pos h, if_pos h, p10, e2_add h (by omega), Int.mul_one, Int.mul_one]
    have : e2 e = 2 ^ e.toNat := rfl
    rw [this]
    generalize e2 ((3000 : Nat) : Int) = Z
    generalize (5 : Int) ^ e.toNat = F
    generalize (2 : Int) ^ e.toNat = G
    grind
  · rw [if_neg h, if_neg h, if_neg h, if_neg h, p10, Int.mul_one]
    have s : e2 ((3000 : Nat) : Int) = 2 ^ (-e).toNat * e2 (e + (3000 : Nat)) := by
      have : (2 : Int) ^ (-e).toNat = e2 (-e) := rfl
      rw [this, ← e2_add (by omega) (by omega)]; congr 1; omega
    rw [s]
    generalize e2 (e + (3000 : Nat)) = Z
    generalize (5 : Int) ^ (-e).toNat = F
    generalize (2 : Int) ^ (-e).toNat = G
    grind
theorem fvD_pos (e : Int) : 0 < fvD e := by unfold fvD; split; omega; exact Int.pow_pos (by omega)
/-- what the table says, said of the numbers that are rounded -/
theorem bound_both {m e V : Int} (hm : 0 ≤ m) (h : inT e) : (V * e2 (pX e + 1000) * fvD e ≤ fvN e * e2 ((1000 : Nat) : Int) → scA (V * m) (pX e + e) * scB (exD e) 0 ≤ scA (exN m e) 0 * scB 1 (pX e + e)) ∧
    (fvN e * e2 ((1000 : Nat) : Int) ≤ V * e2 (pX e + 1000) * fvD e → scA (exN m e) 0 * scB 1 (pX e + e) ≤ scA (V * m) (pX e + e) * scB (exD e) 0) := by
  obtain ⟨x0, x1⟩ := pX_rng h
  have hh := h
  unfold inT at hh
  obtain ⟨q1, q2⟩ := hold_le (P := V * m) (D := exD e) (N := exN m e) (x := pX e + e) (K := 3000) (by omega) (by omega)
  have hf := fvD_pos e
  have hD := exD_pos e
  have tp := ten_parts m e hh.1 hh.2
  have s1 : e2 (pX e + e + (3000 : Nat)) = e2 (pX e + 1000) * e2 (e + 2000) := by rw [← e2_add (by omega) (by omega)]; congr 1; omega
  have s2 : e2 (e + (3000 : Nat)) = e2 ((1000 : Nat) : Int) * e2 (e + 2000) := by rw [← e2_add (by omega) (by omega)]; congr 1; omega
  have hZ := e2_pos (e + 2000)
  rw [s2] at tp
  rw [s1] at q1 q2
  generalize e2 ((3000 : Nat) : Int) = K at *
  generalize e2 (pX e + 1000) = A1 at *
  generalize e2 ((1000 : Nat) : Int) = A2 at *
  generalize e2 (e + 2000) = Z at *
  generalize exN m e = N at *
  generalize exD e = D at *
  generalize fvN e = F at *
  generalize fvD e = G at *
  have hmz : 0 ≤ m * D * Z := Int.mul_nonneg (Int.mul_nonneg hm (by omega)) (by omega)
  have g1 : V * m * D * (A1 * Z) * G = V * A1 * G * (m * D * Z) := by grind
  have g2 : N * K * G = F * A2 * (m * D * Z) := by rw [tp]; grind
  constructor
  · intro q
    apply q1
    apply Int.le_of_mul_le_mul_right _ hf
    rw [g1, g2]
    exact Int.mul_le_mul_of_nonneg_right q hmz
  · intro q
    apply q2
    apply Int.le_of_mul_le_mul_right _ hf
    rw [g1, g2]
    exact Int.mul_le_mul_of_nonneg_right q hmz
theorem exN_nonneg {m : Int} (h : 0 ≤ m) (e : Int) : 0 ≤ exN m e := by
  unfold exN
  split
  · exact Int.mul_nonneg h (Int.le_of_lt (Int.pow_pos (by omega)))
  · exact h
theorem scA_nonneg {N : Int} (h : 0 ≤ N) (x : Int) : 0 ≤ scA N x := Int.mul_nonneg h (Int.le_of_lt (e2_pos _))
theorem tens_low : Nat.blt (2 ^ 1139) (10 ^ 349) = true := by kernel_rfl
theorem tens_high : Nat.blt (2 ^ 1024) (10 ^ 348) = true := by kernel_rfl
/-- a sure answer is the number itself, rounded -/
theorem sure_ex {m e b E : Int} (hm : U m) (h : FastIs m e b E) (hE : E ≠ 100) : ExIs m e b E := by
  have hm0 : 0 ≤ m := hm.1
  rcases h with ⟨h, rfl, rfl⟩ | ⟨hz, h, rfl, rfl⟩ | ⟨hz, hin, b1, E1, b2, E2, r1, r2, h⟩
  · by_cases hz : m = 0
    · subst hz
      have : scA (exN 0 e) 0 = 0 := by unfold scA exN; split <;> simp
      unfold ExIs
      rw [this]
      exact round_none (neg := false) (scB_pos' (exD_pos e))
    · have he : e < -348 := h.resolve_left hz
      unfold ExIs
      have hN : exN m e = m := by unfold exN; rw [if_neg (by omega)]
      have hD : exD e = 10 ^ (-e).toNat := by unfold exD; rw [if_neg (by omega)]
      rw [hN, hD, scB_flat]
      have hpos : 0 < scA m 0 := Int.mul_pos (by omega) (e2_pos _)
      have hs : sgB false = 0 := rfl
      have := (round_tiny (A := scA m 0) (B := 10 ^ (-e).toNat) (mode := 0) (more := false) (neg := false) (Int.pow_pos (by omega)) (Or.inl hpos) (by omega) ?_).2 (by omega)
      · rw [hs] at this; exact this
      · have k1 : 2 * scA m 0 < e2 ((1139 : Nat) : Int) := by
          unfold scA
          have e3 : e2 ((1139 : Nat) : Int) = e2 65 * e2 (0 + 1074) := by rw [← e2_add (by omega) (by omega)]; congr 1
          have e4 : e2 65 = 36893488147419103232 := rfl
          rw [e3, e4]
          have hp := e2_pos (0 + 1074)
          have : 2 * (m * e2 (0 + 1074)) = 2 * m * e2 (0 + 1074) := by rw [Int.mul_assoc]
          rw [this]
          apply Int.mul_lt_mul_of_pos_right _ hp
          unfold U at hm
          omega
        have k2 := blt_cast (a := 1139) (b := 349) tens_low
        have k3 : t10 349 ≤ t10 (-e).toNat := t10_mono (by omega)
        have k4 : (10 : Int) ^ (-e).toNat = t10 (-e).toNat := rfl
        rw [k4]
        omega
  · unfold ExIs
    have hN : exN m e = m * 10 ^ e.toNat := by unfold exN; rw [if_pos (by omega)]
    have hD : exD e = 1 := by unfold exD; rw [if_pos (by omega)]
    rw [hN, hD, scB_flat]
    refine (round_huge (A := scA (m * 10 ^ e.toNat) 0) (B := 1) (mode := 0) (more := false) (neg := false) (by omega) (huge_of (by omega) ?_)).1 (by omega)
    unfold scA
    rw [Int.mul_one]
    have s : e2 2098 = e2 ((1024 : Nat) : Int) * e2 (0 + 1074) := by rw [← e2_add (by omega) (by omega)]; congr 1
    rw [s]
    apply Int.mul_le_mul_of_nonneg_right _ (Int.le_of_lt (e2_pos _))
    have k2 := blt_cast (a := 1024) (b := 348) tens_high
    have k3 : t10 348 ≤ t10 e.toNat := t10_mono (by omega)
    have k5 : (10 : Int) ^ e.toNat = t10 e.toNat := rfl
    rw [k5]
    have p3 := t10_pos e.toNat
    have k4 : 1 * t10 e.toNat ≤ m * t10 e.toNat := Int.mul_le_mul_of_nonneg_right (by omega) (by omega)
    omega
  · rcases h with ⟨rfl, rfl, rfl, rfl⟩ | ⟨_, _, h⟩
    · exact round_between (scA_nonneg (exN_nonneg hm0 e) 0) (scB_pos' (exD_pos e)) (scB_pos' (by omega)) (scB_pos' (by omega)) ((bound_both hm0 hin).1 (tab_lo hin)) ((bound_both hm0 hin).2 (tab_hi hin)) r1 r2
    · exact absurd h hE
end Ar
end Go.Proofs.YtlaendbngekghaaGreatDoor

/- Plain numbers: atof: decimals by their digits and exponents. -/
namespace Go.Proofs.YtlaendbngekghaaGreatDoor
open Go.RowKit
open Ar
set_option linter.unusedVariables false
namespace Ar
theorem scA_flat (N : Int) : scA N 0 = N * pTwo 1074 := rfl
theorem ex_neg {N b E : Int} {k : Nat} (hk : 0 < k) : ExIs N (-(k : Int)) b E ↔ RoundIs (N * pTwo 1074) (pTen k) false false 0 b E := by
  have h1 : exN N (-(k : Int)) = N := by unfold exN; rw [if_neg (by omega)]
  have h2 : exD (-(k : Int)) = pTen k := by unfold exD; rw [if_neg (by omega), Int.neg_neg, Int.toNat_natCast]; rfl
  unfold ExIs
  rw [h1, h2, scB_flat, scA_flat]
theorem ex_pos {N b E : Int} {k : Nat} : ExIs N (k : Int) b E ↔ RoundIs (N * pTen k * pTwo 1074) 1 false false 0 b E := by
  have h1 : exN N (k : Int) = N * pTen k := by unfold exN; rw [if_pos (by omega), Int.toNat_natCast]; rfl
  have h2 : exD (k : Int) = 1 := by unfold exD; rw [if_pos (by omega)]
  unfold ExIs
  rw [h1, h2, scB_flat, scA_flat]
/-- zeros behind, the exponent less: the same number -/
theorem ex_shift {m e b E : Int} (t : Nat) : ExIs (m * pTen t) e b E ↔ ExIs m (e + t) b E := by
  apply round_cross (scB_pos' (exD_pos e)) (scB_pos' (exD_pos (e + t)))
  rw [scB_flat, scB_flat]
  unfold scA
  rw [Int.mul_right_comm, Int.mul_right_comm (exN m (e + t))]
  apply congrArg (· * e2 (0 + 1074))
  have key : ∀ a b c : Nat, a = b + c → (10 : Int) ^ a = 10 ^ b * 10 ^ c := fun a b c h => by rw [h, Int.pow_add]
  unfold exN exD pTen
  by_cases h : 0 ≤ e
  · rw [if_pos h, if_pos (by omega), if_pos (by omega), if_pos h, Int.mul_one, Int.mul_one, key (e + t).toNat t e.toNat (by omega), Int.mul_assoc]
  · by_cases h0 : 0 ≤ e + t
    · rw [if_neg h, if_pos h0, if_pos h0, if_neg h, Int.mul_one, Int.mul_assoc, ← key t (e + t).toNat (-e).toNat (by omega)]
    · rw [if_neg h, if_neg h0, if_neg h0, if_neg h, Int.mul_assoc, ← key (-e).toNat t (-(e + t)).toNat (by omega)]
theorem exN_mono {m n e : Int} (h : m ≤ n) : exN m e ≤ exN n e := by
  unfold exN
  split
  · exact Int.mul_le_mul_of_nonneg_right h (Int.le_of_lt (Int.pow_pos (by omega)))
  · exact h
/-- between two that are rounded alike -/
theorem ex_between {m n N e b E : Int} (h0 : 0 ≤ m) (h1 : m ≤ N) (h2 : N ≤ n) (q1 : ExIs m e b E) (q2 : ExIs n e b E) : ExIs N e b E := by
  have hB := scB_pos' (x := 0) (exD_pos e)
  have mono : ∀ {a c : Int}, a ≤ c → scA (exN a e) 0 * scB (exD e) 0 ≤ scA (exN c e) 0 * scB (exD e) 0 := fun {a c} h =>
    Int.mul_le_mul_of_nonneg_right (Int.mul_le_mul_of_nonneg_right (exN_mono h) (Int.le_of_lt (e2_pos _))) (Int.le_of_lt hB)
  exact round_between (scA_nonneg (exN_nonneg (by omega) e) 0) hB hB hB (mono h1) (mono h2) q1 q2
theorem pT_lt {a b : Nat} (h : Nat.blt (2 ^ a) (10 ^ b) = true) : pTwo a < pTen b := by
  have h2 := Int.ofNat_lt.mpr (Nat.blt_eq.mp h)
  rw [cTen, cTwo] at h2
  exact h2
theorem low_nat : Nat.blt (2 ^ 1075) (10 ^ 324) = true := by kernel_rfl
theorem high_nat : Nat.blt (2 ^ 1024) (10 ^ 309) = true := by kernel_rfl
/-- below half the least pattern -/
theorem ex_tiny {N e : Int} {L : Nat} (h0 : 0 < N) (h1 : N < pTen L) (h : (L : Int) + e ≤ -324) : ExIs N e 0 0 := by
  obtain ⟨k, rfl⟩ : ∃ k : Nat, e = -(k : Int) := ⟨(-e).toNat, by omega⟩
  rw [ex_neg (by omega)]
  have hs : sgB false = 0 := rfl
  have p := pTwo_pos 1074
  have := (round_tiny (A := N * pTwo 1074) (B := pTen k) (mode := 0) (more := false) (neg := false) (pTen_pos _) (Or.inl (Int.mul_pos h0 p)) (Int.le_of_lt (Int.mul_pos h0 p)) ?_).2 (by omega)
  · rw [hs] at this; exact this
  · have e1 : pTen k = pTen L * pTen (k - L) := by rw [← pTen_add]; congr 1; omega
    have e2' : pTen 324 ≤ pTen (k - L) := pTen_mono (by omega)
    have e3 := pT_lt low_nat
    have e4 : pTwo 1075 = pTwo 1074 * 2 := by
      have := pTwo_add 1074 1
      exact this
    have q : 2 * (N * pTwo 1074) = N * pTwo 1075 := by rw [e4]; simp only [Int.mul_left_comm, Int.mul_comm]
    rw [q, e1]
    have r1 : N * pTwo 1075 < N * pTen (k - L) := Int.mul_lt_mul_of_pos_left (by omega) h0
    have r2 : N * pTen (k - L) ≤ pTen L * pTen (k - L) := Int.mul_le_mul_of_nonneg_right (by omega) (Int.le_of_lt (pTen_pos _))
    omega
/-- beyond the reach -/
theorem ex_huge {N e : Int} {L : Nat} (h1 : pTen L ≤ N) (h : 309 ≤ (L : Int) + e) : ExIs N e 0 70 := by
  have pl := pTen_pos L
  have hN : 0 < N := by omega
  have base : pTwo 1024 * exD e ≤ exN N e := by
    have hh := pT_lt high_nat
    by_cases he : 0 ≤ e
    · obtain ⟨k, rfl⟩ : ∃ k : Nat, e = (k : Int) := ⟨e.toNat, by omega⟩
      have a1 : exN N (k : Int) = N * pTen k := by unfold exN; rw [if_pos (by omega), Int.toNat_natCast]; rfl
      have a2 : exD (k : Int) = 1 := by unfold exD; rw [if_pos (by omega)]
      rw [a1, a2, Int.mul_one]
      have e1 : pTen (L + k) = pTen L * pTen k := pTen_add _ _
      have e2' : pTen 309 ≤ pTen (L + k) := pTen_mono (by omega)
      have e3 : pTen L * pTen k ≤ N * pTen k := Int.mul_le_mul_of_nonneg_right h1 (Int.le_of_lt (pTen_pos _))
      omega
    · obtain ⟨k, rfl⟩ : ∃ k : Nat, e = -(k : Int) := ⟨(-e).toNat, by omega⟩
      have a1 : exN N (-(k : Int)) = N := by unfold exN; rw [if_neg (by omega)]
      have a2 : exD (-(k : Int)) = pTen k := by unfold exD; rw [if_neg (by omega), Int.neg_neg, Int.toNat_natCast]; rfl
      rw [a1, a2]
      have e1 : pTen L = pTen (L - k) * pTen k := by rw [← pTen_add]; congr 1; omega
      have e2' : pTen 309 ≤ pTen (L - k) := pTen_mono (by omega)
      have e3 : pTwo 1024 * pTen k ≤ pTen (L - k) * pTen k := Int.mul_le_mul_of_nonneg_right (by omega) (Int.le_of_lt (pTen_pos _))
      omega
  unfold ExIs
  rw [scB_flat]
  refine (round_huge (mode := 0) (more := false) (neg := false) (exD_pos e) (huge_of (exD_pos e) ?_)).1 (by omega)
  have s : e2 2098 = pTwo 1024 * e2 (0 + 1074) := by
    have : pTwo 1024 = e2 1024 := rfl
    rw [this, ← e2_add (by omega) (by omega)]; congr 1
  unfold scA
  rw [s, Int.mul_right_comm]
  exact Int.mul_le_mul_of_nonneg_right base (Int.le_of_lt (e2_pos _))
/-- digits times a power of five, and twos -/
theorem ex_five {N b E : Int} {k : Nat} (h : RoundIs (scA (N * 5 ^ k) (k : Int)) (scB 1 (k : Int)) false false 0 b E) : ExIs N (k : Int) b E := by
  rw [ex_pos]
  have e1 : scB 1 (k : Int) = 1 := by unfold scB; rw [e2_zero (by omega), Int.mul_one]
  have e3 : e2 ((k : Int) + 1074) = pTwo k * pTwo 1074 := by
    rw [e2_add (by omega) (by omega)]
    have : e2 (k : Int) = pTwo k := by unfold e2 pTwo; rw [Int.toNat_natCast]
    rw [this]; rfl
  have e4 : (5 : Int) ^ k = pFive k := rfl
  rw [e1] at h
  unfold scA at h
  rw [e3, e4] at h
  have : N * pTen k * pTwo 1074 = N * pFive k * (pTwo k * pTwo 1074) := by
    rw [pTen_split]
    generalize pFive k = F
    generalize pTwo k = P
    generalize pTwo 1074 = Q
    simp only [Int.mul_assoc]
  rw [this]; exact h
/-- many digits: only whether there is something behind the 768th -/
theorem ex_short {H r e b E : Int} {t : Nat} (hH : pTen 767 ≤ H) (hr0 : 0 < r) (hr1 : r < pTen (t + 1)) :
    ExIs (H * 10 + 1) (e + t) b E ↔ ExIs (H * pTen (t + 1) + r) e b E := by
  have p10 : pTen 1 = 10 := rfl
  by_cases hs : 0 ≤ e + t + 1
  · have g1 : ExIs (H * pTen (t + 1) + r) e 0 70 := by
      refine ex_huge (L := 767 + (t + 1)) ?_ (by omega)
      rw [pTen_add]
      have := Int.mul_le_mul_of_nonneg_right hH (Int.le_of_lt (pTen_pos (t + 1)))
      omega
    have g2 : ExIs (H * 10 + 1) (e + t) 0 70 := by
      refine ex_huge (L := 767 + 1) ?_ (by omega)
      rw [pTen_add, p10]
      omega
    constructor
    · intro h
      obtain ⟨rfl, rfl⟩ := ex_uniq h g2
      exact g1
    · intro h
      obtain ⟨rfl, rfl⟩ := ex_uniq h g1
      exact g2
  · obtain ⟨k, hk⟩ : ∃ k : Nat, e + t + 1 = -(k : Int) := ⟨(-(e + t + 1)).toNat, by omega⟩
    have i1 : e + t = -((1 + k : Nat) : Int) := by omega
    have i2 : e = -((t + 1 + k : Nat) : Int) := by omega
    rw [i1, ex_neg (by omega)]
    conv => rhs; rw [i2]
    rw [ex_neg (by omega)]
    have d1 := dec_sticky (H := H) (r := 1) (mode := 0) (b := b) (e := E) (t := 1) (k := k) (neg := false) hH (by omega) (by rw [p10]; omega)
    have d2 := dec_sticky (H := H) (r := r) (mode := 0) (b := b) (e := E) (t := t + 1) (k := k) (neg := false) hH hr0 hr1
    rw [p10] at d1
    exact d1.trans d2.symm
end Ar
end Go.Proofs.YtlaendbngekghaaGreatDoor

