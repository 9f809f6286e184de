import Derived.Deep.QuietTactic
import Derived.BigQuiet
import Derived.Laws.EntriesVeiled
import Derived.Below
import Derived.ChangeOld
import Derived.Deep.DeepCutAuto
import Derived.Deep.RegionWith
import Derived.KernelRfl
import Derived.Laws.BitsAllLaws
import Derived.Laws.CopyRow
import Derived.Laws.IdiomCopy
import Derived.Laws.IdiomRangeMap
import Derived.Laws.IdiomStrings
import Derived.Laws.RangeAny
import Derived.Laws.Strings3
import Derived.Lib.OthersKept
import Derived.Lib.Strings
import Derived.Lib.TrimByte
import Derived.Lib.Walk
import Derived.OpenShut
import Derived.OwnWalk
import Derived.ProofKit
import Derived.Scope
import Derived.ShutString
import Derived.WalkKit
import Derived.WalkLawsBesides
import Derived.WalkMore
import Derived.WalkSpells
import Derived.Test.YtalglldkjbinbaaGreatDoorPe1
import Derived.Test.YtalglldkjbinbaaGreatDoorPe2
import Derived.Test.YtalglldkjbinbaaGreatDoorPe3
import Derived.Test.YtalglldkjbinbaaGreatDoorPe5
import Derived.Test.YtalglldkjbinbaaGreatDoorPe6
import Derived.Test.YtalglldkjbinbaaGreatDoorPe13
/- package power: a power of the table. -/
namespace Go.Proofs.YtalglldkjbinbaaGreatDoor
open Go.ChangeShapes Go.WideShapes Go.ChangeAt Go.RowKit
open Na Ar
set_option linter.unusedVariables false
/-- a struct of four cells, one of two, each in its block -/
def F4 (w : World) (g : Nat) (t : TypeId) (x y z u : Value) : Prop := w.heap[g]? = some (.cells #[x, y, z, u] t (0, 0))
def F2 (w : World) (g : Nat) (t : TypeId) (x y : Value) : Prop := w.heap[g]? = some (.cells #[x, y] t (0, 0))
theorem set_block8 {w : World} {g i : Nat} {c : Array Value} {t : TypeId} {f : Nat × Nat} {v : Value} (h : w.heap[g]? = some (.cells c t f)) : (w.setCell ⟨g, i, none⟩ v).heap[g]? = some (.cells (c.setIfInBounds i v) t f) := by
  simp [World.setCell, Array.getElem?_modify, h]
section
variable {w w' : World} {g : Nat} {t : TypeId} {x y z u : Value}
theorem F4.lt (h : F4 w g t x y z u) : g < w.heap.size := by
  by_cases hlt : g < w.heap.size
  · exact hlt
  · unfold F4 at h; simp [Array.getElem?_eq_none (Nat.le_of_not_lt hlt)] at h
theorem F2.lt (h : F2 w g t x y) : g < w.heap.size := by
  by_cases hlt : g < w.heap.size
  · exact hlt
  · unfold F2 at h; simp [Array.getElem?_eq_none (Nat.le_of_not_lt hlt)] at h
theorem F4.later (h : F4 w g t x y z u) (hb : Below w.heap.size w w') : F4 w' g t x y z u := by
  have := h.lt
  unfold F4
  rw [hb.block g this]; exact h
theorem F2.later (h : F2 w g t x y) (hb : Below w.heap.size w w') : F2 w' g t x y := by
  have := h.lt
  unfold F2
  rw [hb.block g this]; exact h
theorem F4.cells (h : F4 w g t x y z u) : w.cell? ⟨g, 0, none⟩ = some x ∧ w.cell? ⟨g, 1, none⟩ = some y ∧ w.cell? ⟨g, 2, none⟩ = some z ∧ w.cell? ⟨g, 3, none⟩ = some u := by
  unfold F4 at h
  simp [World.cell?, h]
theorem F2.cells (h : F2 w g t x y) : w.cell? ⟨g, 0, none⟩ = some x ∧ w.cell? ⟨g, 1, none⟩ = some y := by
  unfold F2 at h
  simp [World.cell?, h]
theorem F4.frozen (h : F4 w g t x y z u) : w.frozen? ⟨g, 0, none⟩ = false ∧ w.frozen? ⟨g, 1, none⟩ = false ∧ w.frozen? ⟨g, 2, none⟩ = false ∧ w.frozen? ⟨g, 3, none⟩ = false := by
  unfold F4 at h
  simp [World.frozen?, h]
theorem F2.frozen (h : F2 w g t x y) : w.frozen? ⟨g, 0, none⟩ = false ∧ w.frozen? ⟨g, 1, none⟩ = false := by
  unfold F2 at h
  simp [World.frozen?, h]
theorem f4_new (w : World) (x y z u : Value) (t : TypeId) : F4 (w.alloc (.cells #[x, y, z, u] t)) w.heap.size t x y z u := heap_alloc_new _ _
theorem f2_new (w : World) (x y : Value) (t : TypeId) : F2 (w.alloc (.cells #[x, y] t)) w.heap.size t x y := heap_alloc_new _ _
theorem F4.set (h : F4 w g t x y z u) (x' y' z' u' : Value) : F4 ((((w.setCell ⟨g, 0, none⟩ x').setCell ⟨g, 1, none⟩ y').setCell ⟨g, 2, none⟩ z').setCell ⟨g, 3, none⟩ u') g t x' y' z' u' :=
  set_block8 (set_block8 (set_block8 (set_block8 h)))
theorem F2.set (h : F2 w g t x y) (x' y' : Value) : F2 ((w.setCell ⟨g, 0, none⟩ x').setCell ⟨g, 1, none⟩ y') g t x' y' := set_block8 (set_block8 h)
theorem below_set4 {B : Nat} {a : World} (h : Below B a w) (hg : B ≤ g) (hs : B ≤ a.heap.size) (x' y' z' u' : Value) : Below B a ((((w.setCell ⟨g, 0, none⟩ x').setCell ⟨g, 1, none⟩ y').setCell ⟨g, 2, none⟩ z').setCell ⟨g, 3, none⟩ u') :=
  below_inn h (((((In.refl g (g + 1) w).set1 0 _).set1 1 _).set1 2 _).set1 3 _) hg hs
end
theorem lt_pair {A : Int} (h : 0 ≤ A ∧ A < 340282366920938463463374607431768211456) : Lt A 2 := by
  have e : (18446744073709551616 : Int) ^ 2 = 340282366920938463463374607431768211456 := by decide
  exact ⟨h.1, by rw [e]; exact h.2⟩
/-- a power as the program keeps it -/
def frV (hi lo x : Int) (b : Bool) : Value := .agg #[.int .u64 hi, .int .u64 lo, .int .i64 x, .bool b]
set_option maxHeartbeats 1600000 in
set_option maxRecDepth 100000 in
theorem array8_any {a : Option Addr} {c : Nat} {lo hi : Int} {w : World} (h : RowC w a 2 c [lo, hi]) :
    Calls Tryz.prog 143 #[.slice a 2 c] w fun e w' => e = .returned (.agg #[.int .u64 hi, .int .u64 lo]) ∧ Below w.heap.size w w' := by
  obtain ⟨b, off, rfl, hlt, c0, c1⟩ : ∃ b off, a = some ⟨b, off, none⟩ ∧ b < w.heap.size ∧ w.cell? ⟨b, off, none⟩ = some (.int .u64 lo) ∧ w.cell? ⟨b, off + 1, none⟩ = some (.int .u64 hi) := by
    rcases h.1.2 with h' | ⟨b, off, h1, h2, h3⟩
    · omega
    · exact ⟨b, off, h1, h2, by have := h3 0 (by omega); simpa using this, by have := h3 1 (by omega); simpa using this⟩
  have hb0 := alloc_below (w := w) (.cells #[.int .u64 0, .int .u64 0] 128)
  have t0 := f2_new w (.int .u64 0) (.int .u64 0) 128
  have n1 : ¬ b = w.heap.size := by omega
  have n2 : ¬ w.heap.size = b := by omega
  go_enter Tryz.func143, Tryz.ntmps143
  go_wp2
  go_region
  all_goals (try go_wp2)
  all_goals (refine bodyPost_ret (v := .agg #[.int .u64 hi, .int .u64 lo]) (by simp [results, Tryz.results143, go_sem]) rfl ?_)
  all_goals exact ⟨rfl, below_drewN (alloc_below (w := w) (.cells #[.int .u64 hi, .int .u64 lo] 128)) 1⟩
set_option maxHeartbeats 1600000 in
set_option maxRecDepth 100000 in
theorem cut8_less {a : Option Addr} {n c k : Nat} {xs : List Int} {w : World} (hr : RowC w a n c xs) (hn : Nm xs (5 ^ k)) (hk : k ≤ 55) :
    Calls Tryz.prog 142 #[.slice a n c] w fun e w' => e = .returned (frV (pV k / 18446744073709551616) (pV k % 18446744073709551616) (pX k) true) ∧ Below w.heap.size w w' := by
  obtain ⟨pv, px, hb8⟩ := pV_less hk
  have hT : inT (k : Int) := ⟨by omega, by omega⟩
  have rg := pV_rng hT
  have pw := pV_words hT
  have lt2 : Lt (5 ^ k * 2 ^ (128 - bN k) : Int) 2 := lt_pair (by rw [← pv]; exact ⟨by omega, rg.2.1⟩)
  have hbc := fun w' (hb : Below w.heap.size w w') => natBits_any (hr.later hb) hn.ws (by have := hn.len; have := hr.1.1; omega)
  rw [hn.num, bits_five] at hbc
  have hsc := fun w' (hb : Below w.heap.size w w') => shlQ (hr.later hb) hn (128 - bN k) (by omega) lt2 (by omega)
  rw [← pv, show ((128 - bN k : Nat) : Int) = -((bN k : Int) - 128) by omega] at hsc
  obtain ⟨B, hB⟩ : ∃ B : Int, B = (bN k : Int) := ⟨_, rfl⟩
  rw [← hB] at hbc hsc px
  have hB0 : 0 ≤ B := by omega
  have hB1 : B ≤ 128 := by omega
  have HX : Hid (pX (k : Int) = B - 128) := px
  have HW := pw.1
  have HV : Hid (words (pV (k : Int)) = [pV (k : Int) % 18446744073709551616, pV (k : Int) / 18446744073709551616]) := HW
  have d1 : decide (B - 128 ≤ 0) = true := by simp; omega
  clear pv px hb8 rg pw lt2 hB HW
  generalize pV (k : Int) = V at *
  have t0 := f4_new w (.int .u64 0) (.int .u64 0) (.int .i64 0) (.bool false) 143
  have hb0 := alloc_below (w := w) (.cells #[.int .u64 0, .int .u64 0, .int .i64 0, .bool false] 143)
  obtain ⟨w0, hw0⟩ : ∃ w0, w0 = w.alloc (.cells #[.int .u64 0, .int .u64 0, .int .i64 0, .bool false] 143) := ⟨_, rfl⟩
  rw [← hw0] at t0 hb0
  obtain ⟨g, hg⟩ : ∃ g, g = w.heap.size := ⟨_, rfl⟩
  have HG : Hid (w.heap.size = g) := hg.symm
  rw [← hg] at t0
  have hbc0 := hbc w0 hb0
  go_enter Tryz.func142, Tryz.ntmps142
  go_wp2_with fail
  rw [← hw0, ← hg]
  clear hw0 hg hbc
  refine hbc0.mono ?_
  rintro e w1 ⟨rfl, hb⟩
  have hB := hb0.trans (hb.mono hb0.size)
  have t1 := t0.later hb
  have hs1 := hsc w1 hB
  clear hb0 hb t0 hbc0 hsc
  go_wp2_with fail
  refine hs1.mono ?_
  rintro e w2 ⟨xa, xn, xc, xl, rfl, rx, nx, EX, hb⟩
  have hB2 := hB.trans (hb.mono hB.size)
  have t2 := t1.later hb
  rw [EX.out, HV.out] at rx
  obtain rfl : 2 = xn := rx.1.1
  have ha := array8_any rx
  clear hs1 hB t1 hb EX nx
  go_wp2_with fail
  refine ha.mono ?_
  rintro e w3 ⟨rfl, hb⟩
  have hB3 := hB2.trans (hb.mono hB2.size)
  have t3 := t2.later hb
  obtain ⟨x0, x1, x2, x3⟩ := t3.cells
  obtain ⟨z0, z1, z2, z3⟩ := t3.frozen
  clear ha hB2 t2 hb rx
  go_wp2
  obtain ⟨j0, j1, j2, j3⟩ := (t3.set (.int .u64 (V / 18446744073709551616)) (.int .u64 (V % 18446744073709551616)) (.int .i64 (B - 128)) (.bool true)).cells
  refine bodyPost_ret (v := frV (V / 18446744073709551616) (V % 18446744073709551616) (B - 128) true) (by simp [results, Tryz.results142, go_sem, frV, j0, j1, j2, j3]) rfl ?_
  exact ⟨by rw [HX.out], below_set4 hB3 (by rw [HG.out]; exact Nat.le_refl _) (Nat.le_refl _) _ _ _ _⟩
set_option maxHeartbeats 1600000 in
set_option maxRecDepth 100000 in
theorem cut8_more {a : Option Addr} {n c k : Nat} {xs : List Int} {w : World} (hr : RowC w a n c xs) (hn : Nm xs (5 ^ k)) (h1 : 55 < k) (hk : k ≤ 347) :
    Calls Tryz.prog 142 #[.slice a n c] w fun e w' => e = .returned (frV (pV k / 18446744073709551616) (pV k % 18446744073709551616) (pX k) false) ∧ Below w.heap.size w w' := by
  obtain ⟨pv, px, hb8⟩ := pV_more hk h1
  have hb9 := (bN_pos hk).1
  have hT : inT (k : Int) := ⟨by omega, by omega⟩
  have pw := pV_words hT
  have l5 := five_lt8 (n := k) (by omega)
  have hbc := fun w' (hb : Below w.heap.size w w') => natBits_any (hr.later hb) hn.ws (by have := hn.len; have := hr.1.1; omega)
  rw [hn.num, bits_five] at hbc
  have hsc := fun w' (hb : Below w.heap.size w w') => shrQ (hr.later hb) hn (bN k - 128) (by omega) (l5.mono (show 13 ≤ 4096 by omega)) (Nat.le_refl _) (S := decide ((5 : Int) ^ k % 2 ^ (bN k - 128) ≠ 0)) rfl
  generalize decide ((5 : Int) ^ k % 2 ^ (bN k - 128) ≠ 0) = S at hsc
  rw [← pv, show ((bN k - 128 : Nat) : Int) = (bN k : Int) - 128 by omega] at hsc
  obtain ⟨B, hB⟩ : ∃ B : Int, B = (bN k : Int) := ⟨_, rfl⟩
  rw [← hB] at hbc hsc px
  have hB0 : 128 < B := by omega
  have hB1 : B ≤ 900 := by omega
  have HX : Hid (pX (k : Int) = B - 128) := px
  have HW := pw.1
  have HV : Hid (words (pV (k : Int)) = [pV (k : Int) % 18446744073709551616, pV (k : Int) / 18446744073709551616]) := HW
  have d1 : decide (B - 128 ≤ 0) = false := by simp; omega
  clear pv px hb8 hb9 pw l5 hB HW
  generalize pV (k : Int) = V at *
  have t0 := f4_new w (.int .u64 0) (.int .u64 0) (.int .i64 0) (.bool false) 143
  have hb0 := alloc_below (w := w) (.cells #[.int .u64 0, .int .u64 0, .int .i64 0, .bool false] 143)
  obtain ⟨w0, hw0⟩ : ∃ w0, w0 = w.alloc (.cells #[.int .u64 0, .int .u64 0, .int .i64 0, .bool false] 143) := ⟨_, rfl⟩
  rw [← hw0] at t0 hb0
  obtain ⟨g, hg⟩ : ∃ g, g = w.heap.size := ⟨_, rfl⟩
  have HG : Hid (w.heap.size = g) := hg.symm
  rw [← hg] at t0
  have hbc0 := hbc w0 hb0
  go_enter Tryz.func142, Tryz.ntmps142
  go_wp2_with fail
  rw [← hw0, ← hg]
  clear hw0 hg hbc
  refine hbc0.mono ?_
  rintro e w1 ⟨rfl, hb⟩
  have hB := hb0.trans (hb.mono hb0.size)
  have t1 := t0.later hb
  have hs1 := hsc w1 hB
  clear hb0 hb t0 hbc0 hsc
  go_wp2_with fail
  refine hs1.mono ?_
  rintro e w2 ⟨xa, xn, xc, xl, rfl, rx, nx, EX, hb⟩
  have hB2 := hB.trans (hb.mono hB.size)
  have t2 := t1.later hb
  rw [EX.out, HV.out] at rx
  obtain rfl : 2 = xn := rx.1.1
  have ha := array8_any rx
  clear hs1 hB t1 hb EX nx
  go_wp2_with fail
  refine ha.mono ?_
  rintro e w3 ⟨rfl, hb⟩
  have hB3 := hB2.trans (hb.mono hB2.size)
  have t3 := t2.later hb
  obtain ⟨x0, x1, x2, x3⟩ := t3.cells
  obtain ⟨z0, z1, z2, z3⟩ := t3.frozen
  clear ha hB2 t2 hb rx
  go_wp2
  obtain ⟨j0, j1, j2, j3⟩ := (t3.set (.int .u64 (V / 18446744073709551616)) (.int .u64 (V % 18446744073709551616)) (.int .i64 (B - 128)) (.bool false)).cells
  refine bodyPost_ret (v := frV (V / 18446744073709551616) (V % 18446744073709551616) (B - 128) false) (by simp [results, Tryz.results142, go_sem, frV, j0, j1, j2, j3]) rfl ?_
  exact ⟨by rw [HX.out], below_set4 hB3 (by rw [HG.out]; exact Nat.le_refl _) (Nat.le_refl _) _ _ _ _⟩
set_option maxHeartbeats 1600000 in
set_option maxRecDepth 100000 in
theorem divided8_any {a : Option Addr} {n c k : Nat} {xs : List Int} {w : World} (hr : RowC w a n c xs) (hn : Nm xs (5 ^ k)) (hlen : n ≤ 3800000) (h1 : 1 ≤ k) (hk : k ≤ 348) :
    Calls Tryz.prog 141 #[.slice a n c] w fun e w' => e = .returned (frV (pV (-(k : Int)) / 18446744073709551616) (pV (-(k : Int)) % 18446744073709551616) (pX (-(k : Int))) false) ∧ Below w.heap.size w w' := by
  obtain ⟨pv, px⟩ := pV_under hk h1
  have hb9 := bN_neg hk h1
  have hT : inT (-(k : Int)) := ⟨by omega, by omega⟩
  have pw := pV_words hT
  have hbc := fun w' (hb : Below w.heap.size w w') => natBits_any (hr.later hb) hn.ws (by have := hn.len; have := hr.1.1; omega)
  rw [hn.num, bits_five] at hbc
  have p5 : (0 : Int) < 5 ^ k := Int.pow_pos (by omega)
  have hfr := fun w' => natFrom_any (v := 1) (by omega) w'
  obtain ⟨B, hB⟩ : ∃ B : Int, B = (bN k : Int) := ⟨_, rfl⟩
  rw [← hB] at hbc px
  have hB0 : 0 ≤ B := by omega
  have hB1 : B ≤ 850 := by omega
  have HB : Hid (B = (bN k : Int)) := hB
  have HX : Hid (pX (-(k : Int)) = -(B + 127)) := px
  have HW := pw.1
  have HV : Hid (words (pV (-(k : Int))) = [pV (-(k : Int)) % 18446744073709551616, pV (-(k : Int)) / 18446744073709551616]) := HW
  have HP : Hid (pV (-(k : Int)) = 2 ^ (bN k + 127) / 5 ^ k) := pv
  clear pv px pw hB HW
  generalize pV (-(k : Int)) = V at *
  generalize pX (-(k : Int)) = X at *
  have t0 := f4_new w (.int .u64 0) (.int .u64 0) (.int .i64 0) (.bool false) 143
  have hb0 := alloc_below (w := w) (.cells #[.int .u64 0, .int .u64 0, .int .i64 0, .bool false] 143)
  obtain ⟨w0, hw0⟩ : ∃ w0, w0 = w.alloc (.cells #[.int .u64 0, .int .u64 0, .int .i64 0, .bool false] 143) := ⟨_, rfl⟩
  rw [← hw0] at t0 hb0
  obtain ⟨g, hg⟩ : ∃ g, g = w.heap.size := ⟨_, rfl⟩
  have HG : Hid (w.heap.size = g) := hg.symm
  rw [← hg] at t0
  have hbc0 := hbc w0 hb0
  go_enter Tryz.func141, Tryz.ntmps141
  go_wp2_with fail
  rw [← hw0, ← hg]
  clear hw0 hg hbc
  refine hbc0.mono ?_
  rintro e w1 ⟨rfl, hb⟩
  have hB := hb0.trans (hb.mono hb0.size)
  have t1 := t0.later hb
  clear hb0 hb t0 hbc0
  go_wp2_with fail
  refine (hfr w1).mono ?_
  rintro e w2 ⟨v, rfl, ho, hb⟩
  have hB2 := hB.trans (hb.mono hB.size)
  have t2 := t1.later hb
  obtain ⟨oa, on, oc, ol, rfl, ro, no, _⟩ := ho.opens lt_one (by omega)
  have lt2 := (lt_one.pow2 (t := bN k + 127)).mono (show 1 + ((bN k + 127) / 64 + 1) ≤ 30 by omega)
  have hs1 := shlQ ro no (bN k + 127) (by omega) lt2 (by omega)
  rw [show ((bN k + 127 : Nat) : Int) = B + 128 - 1 by rw [HB.out]; omega] at hs1
  clear hB t1 hb ho hfr
  go_wp2_with fail
  refine hs1.mono ?_
  rintro e w3 ⟨xa, xn, xc, xl, rfl, rx, nx, EX, hb⟩
  have hB3 := hB2.trans (hb.mono hB2.size)
  have t3 := t2.later hb
  have hxl : xn ≤ 3800000 := by
    have := lt2.len
    rw [← EX.out, rx.1.1] at this
    omega
  have hd := divMod_any rx (hr.later hB3) nx.ws hn.ws hxl hlen (by rw [hn.num]; exact p5)
  rw [nx.num, hn.num, Int.one_mul, ← HP.out, HV.out] at hd
  clear hs1 hB2 t2 hb EX ro no
  go_wp2_with fail
  refine hd.mono ?_
  rintro e w4 ⟨v1, v2, rfl, o1, o2, hb, _⟩
  have hB4 := hB3.trans (hb.mono hB3.size)
  have t4 := t3.later hb
  obtain ⟨qa, qc, rfl, rq⟩ := o1.readsC
  have ha := array8_any (show RowC w4 qa 2 qc _ from rq)
  clear hd hB3 t3 hb o1 o2 rx nx
  go_wp2_with fail
  refine ha.mono ?_
  rintro e w5 ⟨rfl, hb⟩
  have hB5 := hB4.trans (hb.mono hB4.size)
  have t5 := t4.later hb
  obtain ⟨x0, x1, x2, x3⟩ := t5.cells
  obtain ⟨z0, z1, z2, z3⟩ := t5.frozen
  clear ha hB4 t4 hb rq
  go_wp2
  obtain ⟨j0, j1, j2, j3⟩ := (t5.set (.int .u64 (V / 18446744073709551616)) (.int .u64 (V % 18446744073709551616)) (.int .i64 (-(B + 128 - 1))) (.bool false)).cells
  refine bodyPost_ret (v := frV (V / 18446744073709551616) (V % 18446744073709551616) (-(B + 128 - 1)) false) (by simp [results, Tryz.results141, go_sem, frV, j0, j1, j2, j3]) rfl ?_
  exact ⟨by rw [HX.out, show -(B + 128 - 1) = -(B + 127) by omega], below_set4 hB5 (by rw [HG.out]; exact Nat.le_refl _) (Nat.le_refl _) _ _ _ _⟩
theorem five8_len {k : Nat} {K : Int} (hK : K = k) (h : k ≤ 348) (w : World) :
    Calls Tryz.prog 52 #[.int .i64 K] w fun e w' => ∃ a l c ls, e = .returned (.tuple #[.slice a l c, .int .i64 0]) ∧ RowC w' a l c ls ∧ (Nm ls (5 ^ k) ∧ l ≤ 13) ∧ Below w.heap.size w w' := by
  subst hK
  have f := five_any (k : Int) (by omega) (by omega) w
  have E1 : pwE 112899 (k : Int) = 0 := by unfold pwE; rw [if_neg (by omega), if_neg (by omega)]
  have E2 : pwL 5 112899 (k : Int) = words (5 ^ k) := by unfold pwL; rw [if_neg (by omega), if_neg (by omega), Int.toNat_natCast]
  rw [E1, E2] at f
  refine f.mono ?_
  rintro e w' ⟨v, rfl, ho, hb⟩
  have hl := (five_lt8 h).len
  obtain ⟨a, l, c, ls, rfl, hr, hn, hw⟩ := ho.opens (five_lt8 h) (by omega)
  rw [← hw.out, hr.1.1] at hl
  exact ⟨a, l, c, ls, rfl, hr, ⟨hn, hl⟩, hb⟩
theorem outside8_no {e : Int} (h : inT e) (w : World) : Calls Tryz.prog 140 #[.int .i64 e] w fun r w' => r = .returned (.bool false) ∧ w = w' := by
  unfold inT at h
  have d1 : decide (e < -348) = false := by simp; omega
  have d2 : decide (e > 347) = false := by simp; omega
  have d3 : decide (347 < e) = false := by simp; omega
  go_enter Tryz.func140, Tryz.ntmps140
  go_wp2
  go_ret
  exact ⟨rfl, rfl⟩
set_option maxHeartbeats 1600000 in
set_option maxRecDepth 100000 in
theorem reckon8_neg {e : Int} (h : inT e) (he : e < 0) (w : World) :
    Calls Tryz.prog 129 #[.int .i64 e] w fun r w' => r = .returned (.tuple #[frV (pV e / 18446744073709551616) (pV e % 18446744073709551616) (pX e) (pW e), .int .i64 0]) ∧ Below w.heap.size w w' := by
  have ho := fun w => outside8_no h w
  obtain ⟨k, hk⟩ : ∃ k : Nat, e = -(k : Int) := ⟨(-e).toNat, by omega⟩
  have HT := h
  unfold inT at h
  have pw : Hid (pW e = false) := by show _ = _; rw [pW_is e HT]; simp; omega
  have hf := fun w => five8_len (k := k) (K := -e) (by omega) (by omega) w
  have l5 := five_lt8 (n := k) (by omega)
  have hk0 : 1 ≤ k := by omega
  have hk9 : k ≤ 348 := by omega
  have d1 : decide (e < 0) = true := by simp; omega
  have mx : max e (-e) = -e := by omega
  have t0 := f4_new w (.int .u64 0) (.int .u64 0) (.int .i64 0) (.bool false) 143
  have hb0 := alloc_below (w := w) (.cells #[.int .u64 0, .int .u64 0, .int .i64 0, .bool false] 143)
  obtain ⟨g, hg⟩ : ∃ g, g = w.heap.size := ⟨_, rfl⟩
  have HG : Hid (w.heap.size = g) := hg.symm
  rw [← hg] at t0
  have HK : Hid (e = -(k : Int)) := hk
  clear hk HT
  go_enter Tryz.func129, Tryz.ntmps129
  go_wp2_with fail
  rw [← hg]
  generalize w.alloc (.cells #[.int .u64 0, .int .u64 0, .int .i64 0, .bool false] 143) = w0 at *
  clear hg
  refine (ho _).mono ?_
  rintro r w1 ⟨rfl, rfl⟩
  have hb1 := alloc_below (w := w0) (.cells #[.func (.func 141) #[] #[], .func (.func 142) #[] #[]] 155)
  have s1 := f2_new w0 (.func (.func 141) #[] #[]) (.func (.func 142) #[] #[]) 155
  have t1 := t0.later hb1
  have hB1 := hb0.trans (hb1.mono hb0.size)
  have gh := t0.lt
  clear ho t0 hb0 hb1
  go_wp2_with fail
  obtain ⟨q, hq⟩ : ∃ q, q = w0.heap.size := ⟨_, rfl⟩
  rw [← hq] at s1 gh
  rw [← hq]
  generalize w0.alloc (.cells #[.func (.func 141) #[] #[], .func (.func 142) #[] #[]] 155) = w1 at *
  clear hq
  refine (hf w1).mono ?_
  rintro r w2 ⟨fa, fn, fc, fs, rfl, rf, ⟨nf, lf⟩, hb⟩
  have s2 := s1.later hb
  have t2 := t1.later hb
  have hB2 := hB1.trans (hb.mono hB1.size)
  obtain ⟨y0, y1⟩ := s2.cells
  have hc := divided8_any rf nf (by omega) hk0 hk9
  rw [← HK.out] at hc
  clear hf hB1 hb s1 t1 s2
  go_wp2_with fail
  refine hc.mono ?_
  rintro r w3 ⟨rfl, hb⟩
  have hB3 := hB2.trans (hb.mono hB2.size)
  have t3 := t2.later hb
  obtain ⟨x0, x1, x2, x3⟩ := t3.cells
  obtain ⟨z0, z1, z2, z3⟩ := t3.frozen
  clear hc hB2 hb t2 y0 y1 rf nf
  unfold frV
  go_wp2
  obtain ⟨j0, j1, j2, j3⟩ := (t3.set (.int .u64 (pV e / 18446744073709551616)) (.int .u64 (pV e % 18446744073709551616)) (.int .i64 (pX e)) (.bool false)).cells
  refine bodyPost_ret (v := .tuple #[.agg #[.int .u64 (pV e / 18446744073709551616), .int .u64 (pV e % 18446744073709551616), .int .i64 (pX e), .bool false], .int .i64 0]) (by simp [results, Tryz.results129, go_sem, j0, j1, j2, j3]) rfl ?_
  exact ⟨by rw [pw.out]; rfl, below_set4 hB3 (by rw [HG.out]; exact Nat.le_refl _) (Nat.le_refl _) _ _ _ _⟩
set_option maxHeartbeats 1600000 in
set_option maxRecDepth 100000 in
theorem reckon8_less {e : Int} (h : inT e) (he : 0 ≤ e ∧ e ≤ 55) (w : World) :
    Calls Tryz.prog 129 #[.int .i64 e] w fun r w' => r = .returned (.tuple #[frV (pV e / 18446744073709551616) (pV e % 18446744073709551616) (pX e) (pW e), .int .i64 0]) ∧ Below w.heap.size w w' := by
  have ho := fun w => outside8_no h w
  obtain ⟨k, hk⟩ : ∃ k : Nat, e = (k : Int) := ⟨(e).toNat, by omega⟩
  have HT := h
  unfold inT at h
  have pw : Hid (pW e = true) := by show _ = _; rw [pW_is e HT]; simp; omega
  have hf := fun w => five8_len (k := k) (K := e) (by omega) (by omega) w
  have l5 := five_lt8 (n := k) (by omega)
  have hk0 : 0 ≤ k := by omega
  have hk9 : k ≤ 55 := by omega
  have d1 : decide (e < 0) = false := by simp; omega
  have mx : max e (-e) = e := by omega
  have t0 := f4_new w (.int .u64 0) (.int .u64 0) (.int .i64 0) (.bool false) 143
  have hb0 := alloc_below (w := w) (.cells #[.int .u64 0, .int .u64 0, .int .i64 0, .bool false] 143)
  obtain ⟨g, hg⟩ : ∃ g, g = w.heap.size := ⟨_, rfl⟩
  have HG : Hid (w.heap.size = g) := hg.symm
  rw [← hg] at t0
  have HK : Hid (e = (k : Int)) := hk
  clear hk HT
  go_enter Tryz.func129, Tryz.ntmps129
  go_wp2_with fail
  rw [← hg]
  generalize w.alloc (.cells #[.int .u64 0, .int .u64 0, .int .i64 0, .bool false] 143) = w0 at *
  clear hg
  refine (ho _).mono ?_
  rintro r w1 ⟨rfl, rfl⟩
  have hb1 := alloc_below (w := w0) (.cells #[.func (.func 141) #[] #[], .func (.func 142) #[] #[]] 155)
  have s1 := f2_new w0 (.func (.func 141) #[] #[]) (.func (.func 142) #[] #[]) 155
  have t1 := t0.later hb1
  have hB1 := hb0.trans (hb1.mono hb0.size)
  have gh := t0.lt
  clear ho t0 hb0 hb1
  go_wp2_with fail
  obtain ⟨q, hq⟩ : ∃ q, q = w0.heap.size := ⟨_, rfl⟩
  rw [← hq] at s1 gh
  rw [← hq]
  generalize w0.alloc (.cells #[.func (.func 141) #[] #[], .func (.func 142) #[] #[]] 155) = w1 at *
  clear hq
  refine (hf w1).mono ?_
  rintro r w2 ⟨fa, fn, fc, fs, rfl, rf, ⟨nf, lf⟩, hb⟩
  have s2 := s1.later hb
  have t2 := t1.later hb
  have hB2 := hB1.trans (hb.mono hB1.size)
  obtain ⟨y0, y1⟩ := s2.cells
  have hc := cut8_less rf nf hk9
  rw [← HK.out] at hc
  clear hf hB1 hb s1 t1 s2
  go_wp2_with fail
  refine hc.mono ?_
  rintro r w3 ⟨rfl, hb⟩
  have hB3 := hB2.trans (hb.mono hB2.size)
  have t3 := t2.later hb
  obtain ⟨x0, x1, x2, x3⟩ := t3.cells
  obtain ⟨z0, z1, z2, z3⟩ := t3.frozen
  clear hc hB2 hb t2 y0 y1 rf nf
  unfold frV
  go_wp2
  obtain ⟨j0, j1, j2, j3⟩ := (t3.set (.int .u64 (pV e / 18446744073709551616)) (.int .u64 (pV e % 18446744073709551616)) (.int .i64 (pX e)) (.bool true)).cells
  refine bodyPost_ret (v := .tuple #[.agg #[.int .u64 (pV e / 18446744073709551616), .int .u64 (pV e % 18446744073709551616), .int .i64 (pX e), .bool true], .int .i64 0]) (by simp [results, Tryz.results129, go_sem, j0, j1, j2, j3]) rfl ?_
  exact ⟨by rw [pw.out]; rfl, below_set4 hB3 (by rw [HG.out]; exact Nat.le_refl _) (Nat.le_refl _) _ _ _ _⟩
set_option maxHeartbeats 1600000 in
set_option maxRecDepth 100000 in
theorem reckon8_more {e : Int} (h : inT e) (he : 55 < e) (w : World) :
    Calls Tryz.prog 129 #[.int .i64 e] w fun r w' => r = .returned (.tuple #[frV (pV e / 18446744073709551616) (pV e % 18446744073709551616) (pX e) (pW e), .int .i64 0]) ∧ Below w.heap.size w w' := by
  have ho := fun w => outside8_no h w
  obtain ⟨k, hk⟩ : ∃ k : Nat, e = (k : Int) := ⟨(e).toNat, by omega⟩
  have HT := h
  unfold inT at h
  have pw : Hid (pW e = false) := by show _ = _; rw [pW_is e HT]; simp; omega
  have hf := fun w => five8_len (k := k) (K := e) (by omega) (by omega) w
  have l5 := five_lt8 (n := k) (by omega)
  have hk0 : 0 ≤ k := by omega
  have hk9 : k ≤ 347 := by omega
  have hk1 : 55 < k := by omega
  have d1 : decide (e < 0) = false := by simp; omega
  have mx : max e (-e) = e := by omega
  have t0 := f4_new w (.int .u64 0) (.int .u64 0) (.int .i64 0) (.bool false) 143
  have hb0 := alloc_below (w := w) (.cells #[.int .u64 0, .int .u64 0, .int .i64 0, .bool false] 143)
  obtain ⟨g, hg⟩ : ∃ g, g = w.heap.size := ⟨_, rfl⟩
  have HG : Hid (w.heap.size = g) := hg.symm
  rw [← hg] at t0
  have HK : Hid (e = (k : Int)) := hk
  clear hk HT
  go_enter Tryz.func129, Tryz.ntmps129
  go_wp2_with fail
  rw [← hg]
  generalize w.alloc (.cells #[.int .u64 0, .int .u64 0, .int .i64 0, .bool false] 143) = w0 at *
  clear hg
  refine (ho _).mono ?_
  rintro r w1 ⟨rfl, rfl⟩
  have hb1 := alloc_below (w := w0) (.cells #[.func (.func 141) #[] #[], .func (.func 142) #[] #[]] 155)
  have s1 := f2_new w0 (.func (.func 141) #[] #[]) (.func (.func 142) #[] #[]) 155
  have t1 := t0.later hb1
  have hB1 := hb0.trans (hb1.mono hb0.size)
  have gh := t0.lt
  clear ho t0 hb0 hb1
  go_wp2_with fail
  obtain ⟨q, hq⟩ : ∃ q, q = w0.heap.size := ⟨_, rfl⟩
  rw [← hq] at s1 gh
  rw [← hq]
  generalize w0.alloc (.cells #[.func (.func 141) #[] #[], .func (.func 142) #[] #[]] 155) = w1 at *
  clear hq
  refine (hf w1).mono ?_
  rintro r w2 ⟨fa, fn, fc, fs, rfl, rf, ⟨nf, lf⟩, hb⟩
  have s2 := s1.later hb
  have t2 := t1.later hb
  have hB2 := hB1.trans (hb.mono hB1.size)
  obtain ⟨y0, y1⟩ := s2.cells
  have hc := cut8_more rf nf hk1 hk9
  rw [← HK.out] at hc
  clear hf hB1 hb s1 t1 s2
  go_wp2_with fail
  refine hc.mono ?_
  rintro r w3 ⟨rfl, hb⟩
  have hB3 := hB2.trans (hb.mono hB2.size)
  have t3 := t2.later hb
  obtain ⟨x0, x1, x2, x3⟩ := t3.cells
  obtain ⟨z0, z1, z2, z3⟩ := t3.frozen
  clear hc hB2 hb t2 y0 y1 rf nf
  unfold frV
  go_wp2
  obtain ⟨j0, j1, j2, j3⟩ := (t3.set (.int .u64 (pV e / 18446744073709551616)) (.int .u64 (pV e % 18446744073709551616)) (.int .i64 (pX e)) (.bool false)).cells
  refine bodyPost_ret (v := .tuple #[.agg #[.int .u64 (pV e / 18446744073709551616), .int .u64 (pV e % 18446744073709551616), .int .i64 (pX e), .bool false], .int .i64 0]) (by simp [results, Tryz.results129, go_sem, j0, j1, j2, j3]) rfl ?_
  exact ⟨by rw [pw.out]; rfl, below_set4 hB3 (by rw [HG.out]; exact Nat.le_refl _) (Nat.le_refl _) _ _ _ _⟩
theorem reckon8_in {e : Int} (h : inT e) (w : World) :
    Calls Tryz.prog 129 #[.int .i64 e] w fun r w' => r = .returned (.tuple #[frV (pV e / 18446744073709551616) (pV e % 18446744073709551616) (pX e) (pW e), .int .i64 0]) ∧ Below w.heap.size w w' := by
  by_cases h0 : e < 0
  · exact reckon8_neg h h0 w
  · by_cases h1 : e ≤ 55
    · exact reckon8_less h ⟨by omega, h1⟩ w
    · exact reckon8_more h (by omega) w
end Go.Proofs.YtalglldkjbinbaaGreatDoor

/- package power: next; Five, Whole, Above, Log2, Log10; the statements' alive. -/
namespace Go.Proofs.YtalglldkjbinbaaGreatDoor
open Go.ChangeShapes Go.WideShapes Go.ChangeAt Go.RowKit
open Na Ar
set_option linter.unusedVariables false
namespace Na
theorem next_lo {V : Int} (h0 : 0 ≤ V) : addLo (V % 18446744073709551616) 1 0 = (V + 1) % 18446744073709551616 := by unfold addLo; omega
theorem next_c {V : Int} (h0 : 0 ≤ V) : addHi (V % 18446744073709551616) 1 0 = (V % 18446744073709551616 + 1) / 18446744073709551616 := by unfold addHi; simp
theorem next_hi {V : Int} (h0 : 0 ≤ V) (h : V + 1 < 340282366920938463463374607431768211456) : addLo (V / 18446744073709551616) 0 ((V % 18446744073709551616 + 1) / 18446744073709551616) = (V + 1) / 18446744073709551616 ∧
    addHi (V / 18446744073709551616) 0 ((V % 18446744073709551616 + 1) / 18446744073709551616) = 0 := by unfold addLo addHi; omega
end Na
theorem or_none {x : Int} (h : U x) : bits .or .u64 x 0 = x := by
  rw [u64_or _ _ h.1 h.2 (by omega) (by omega)]
  have := h.1
  simp
  omega
set_option maxHeartbeats 1600000 in
set_option maxRecDepth 100000 in
theorem next8_any {V x : Int} {b : Bool} (h0 : 0 ≤ V) (h1 : V + 1 < 340282366920938463463374607431768211456) (hx0 : -1000 ≤ x) (hx1 : x ≤ 1000) (w : World) :
    Calls Tryz.prog 130 #[frV (V / 18446744073709551616) (V % 18446744073709551616) x b] w fun r w' => r = .returned (frV ((V + 1) / 18446744073709551616) ((V + 1) % 18446744073709551616) x b) ∧ Below w.heap.size w w' := by
  have uh : U (V / 18446744073709551616) := by unfold U; omega
  have ul : U (V % 18446744073709551616) := by unfold U; omega
  have uc : U ((V % 18446744073709551616 + 1) / 18446744073709551616) := by unfold U; omega
  have un : U ((V + 1) / 18446744073709551616) := by unfold U; omega
  have A1 := fun w => add_any ul (show U 1 by unfold U; omega) (show U 0 by unfold U; omega) w
  have A2 := fun w => add_any uh (show U 0 by unfold U; omega) uc w
  rw [next_lo h0, next_c h0] at A1
  rw [(next_hi h0 h1).1, (next_hi h0 h1).2] at A2
  have O := or_none un
  have HO : Hid (bits .or .u64 ((V + 1) / 18446744073709551616) 0 = (V + 1) / 18446744073709551616) := O
  unfold frV
  generalize V / 18446744073709551616 = hi at *
  generalize (V % 18446744073709551616 + 1) / 18446744073709551616 = c at *
  generalize V % 18446744073709551616 = lo at *
  generalize (V + 1) / 18446744073709551616 = hi' at *
  generalize (V + 1) % 18446744073709551616 = lo' at *
  clear h0 h1
  go_enter Tryz.func130, Tryz.ntmps130
  go_wp2_with fail
  refine (A1 _).mono ?_
  rintro r w9 ⟨p1, q1, rfl, rfl, rfl, rfl⟩
  go_wp2_with fail
  refine (A2 _).mono ?_
  rintro r w9 ⟨p, q, rfl, rfl, rfl, rfl⟩
  go_wp2
  refine bodyPost_ret (v := .agg #[.int .u64 p, .int .u64 p1, .int .i64 x, .bool b]) (by simp [results, Tryz.results130, go_sem]) rfl ?_
  refine ⟨rfl, ?_⟩
  repeat (first | exact Below.refl _ _ | refine Below.alloc ?_ (by simp <;> omega) _)
theorem results8_tmp4 {fn : Func} {t u v x : Tmp} (h : fn.results = #[.tmp t, .tmp u, .tmp v, .tmp x]) (tmps : Array Value) (P : Program) (w : World) :
    (results fn tmps).run P w = .ok (.tuple #[tmps.getD t undef, tmps.getD u undef, tmps.getD v undef, tmps.getD x undef]) w := by
  simp [results, h]
/-- what is not below -/
def abV (e : Int) : Int := if pW e = true then pV e else pV e + 1
theorem abV_in {e : Int} (h : pW e = true) : abV e = pV e := by unfold abV; rw [if_pos h]
theorem abV_out {e : Int} (h : pW e = false) : abV e = pV e + 1 := by unfold abV; rw [if_neg (by rw [h]; simp)]
set_option maxHeartbeats 1600000 in
set_option maxRecDepth 100000 in
theorem above8_in {e : Int} (h : inT e) (w : World) :
    Calls Tryz.prog 102 #[.int .i64 e] w fun r w' => r = .returned (.tuple #[.int .u64 (abV e / 18446744073709551616), .int .u64 (abV e % 18446744073709551616), .int .i64 (pX e), .int .i64 0]) ∧ Below w.heap.size w w' := by
  have hr := reckon8_in h w
  by_cases hw : pW e = true
  · rw [abV_in hw]
    rw [hw] at hr
    generalize pV e / 18446744073709551616 = H at *
    generalize pV e % 18446744073709551616 = L at *
    generalize pX e = X at *
    clear hw
    go_enter Tryz.func102, Tryz.ntmps102
    go_wp2_with fail
    refine hr.mono ?_
    rintro r w1 ⟨rfl, hb⟩
    unfold frV
    have hb1 := alloc_below (w := w1) (.cells #[.int .u64 H, .int .u64 L, .int .i64 X, .bool true] 143)
    have hB := hb.trans (hb1.mono hb.size)
    clear hb hb1 hr
    go_wp2
    go_region
    all_goals (try go_wp2)
    all_goals (refine bodyPost_ret (results8_tmp4 rfl _ _ _) rfl ?_)
    all_goals exact ⟨rfl, below_drewN hB 1⟩
  · have hw : pW e = false := by simpa using hw
    have rg := pV_rng h
    have rx := pX_rng h
    have hn := fun w => next8_any (b := false) (V := pV e) (x := pX e) (by omega) (rg.2.2 hw) rx.1 rx.2 w
    rw [abV_out hw]
    rw [hw] at hr
    unfold frV at hn hr
    generalize pV e / 18446744073709551616 = H at *
    generalize pV e % 18446744073709551616 = L at *
    generalize (pV e + 1) / 18446744073709551616 = H' at *
    generalize (pV e + 1) % 18446744073709551616 = L' at *
    generalize pX e = X at *
    clear hw rg rx
    go_enter Tryz.func102, Tryz.ntmps102
    go_wp2_with fail
    refine hr.mono ?_
    rintro r w1 ⟨rfl, hb⟩
    have hb1 := alloc_below (w := w1) (.cells #[.int .u64 H, .int .u64 L, .int .i64 X, .bool false] 143)
    have t1 := f4_new w1 (.int .u64 H) (.int .u64 L) (.int .i64 X) (.bool false) 143
    have hB := hb.trans (hb1.mono hb.size)
    have hs := hb.size
    clear hb hb1 hr
    go_wp2_with fail
    obtain ⟨g, hg⟩ : ∃ g, g = w1.heap.size := ⟨_, rfl⟩
    rw [← hg] at t1 hs
    rw [← hg]
    generalize w1.alloc (.cells #[.int .u64 H, .int .u64 L, .int .i64 X, .bool false] 143) = w2 at *
    refine (hn _).mono ?_
    rintro r w3 ⟨rfl, hb⟩
    have t3 := t1.later hb
    have hB3 := hB.trans (hb.mono hB.size)
    obtain ⟨x0, x1, x2, x3⟩ := t3.cells
    obtain ⟨z0, z1, z2, z3⟩ := t3.frozen
    obtain ⟨j0, j1, j2, j3⟩ := (t3.set (.int .u64 H') (.int .u64 L') (.int .i64 X) (.bool false)).cells
    have hB4 := below_set4 hB3 hs (Nat.le_refl _) (.int .u64 H') (.int .u64 L') (.int .i64 X) (.bool false)
    clear hn hb hB hB3 t1 hg
    go_wp2
    generalize (((w3.setCell ⟨g, 0, none⟩ (.int .u64 H')).setCell ⟨g, 1, none⟩ (.int .u64 L')).setCell ⟨g, 2, none⟩ (.int .i64 X)).setCell ⟨g, 3, none⟩ (.bool false) = w4 at *
    clear x0 x1 x2 x3 z0 z1 z2 z3 t3
    go_region
    all_goals (try go_wp2)
    all_goals (refine bodyPost_ret (results8_tmp4 rfl _ _ _) rfl ?_)
    all_goals exact ⟨rfl, below_drewN hB4 1⟩
theorem log10_in {e : Int} (h : -1200 ≤ e ∧ e ≤ 1200) (w : World) : Calls Tryz.prog 101 #[.int .i64 e] w fun r w' => r = .returned (.tuple #[.int .i64 (e * 315653 / 1048576), .int .i64 0]) ∧ Below w.heap.size w w' := by
  have d1 : decide (e < -1200) = false := by simp; omega
  have d2 : decide (e > 1200) = false := by simp; omega
  have d3 : decide (1200 < e) = false := by simp; omega
  go_enter Tryz.func101, Tryz.ntmps101
  go_wp2
  go_ret2
  exact ⟨rfl, Below.refl _ _⟩
namespace Na
end Na
end Go.Proofs.YtalglldkjbinbaaGreatDoor

/- package lemire: Small, Fast. -/
namespace Go.Proofs.YtalglldkjbinbaaGreatDoor
open Go.ChangeShapes Go.WideShapes Go.ChangeAt Go.RowKit
open Na Ar
set_option linter.unusedVariables false
/-- the table of the exact powers of ten -/
def TenVar (w : World) : Prop := ∀ k, k < 23 → w.cell? ⟨0, k, none⟩ = some (.int .u64 (tenP k))
theorem TenVar.lt {w : World} (h : TenVar w) : 0 < w.heap.size := by
  have := h 0 (by omega)
  unfold World.cell? at this
  apply Decidable.byContradiction
  intro hc
  rw [Array.getElem?_eq_none (by show w.heap.size ≤ 0; omega)] at this
  cases this
theorem TenVar.later {w w' : World} (h : TenVar w) (hb : Below w.heap.size w w') : TenVar w' := fun k hk => by
  rw [hb.cell (p := ⟨0, k, none⟩) h.lt]
  exact h k hk
namespace Ar
end Ar
namespace Ar
end Ar
end Go.Proofs.YtalglldkjbinbaaGreatDoor

/- Plain numbers: where Fast is sure it is the number itself, rounded. -/
namespace Go.Proofs.YtalglldkjbinbaaGreatDoor
open Go.RowKit
open Na Ar
set_option linter.unusedVariables false
namespace Ar
/-- the number m times ten to the e, by a numerator and a denominator -/
def exN (m e : Int) : Int := if 0 ≤ e then m * 10 ^ e.toNat else m
def exD (e : Int) : Int := if 0 ≤ e then 1 else 10 ^ (-e).toNat
def ExIs (m e b E : Int) : Prop := RoundIs (scA (exN m e) 0) (scB (exD e) 0) false false 0 b E
/-! ### there is an answer; the order -/
theorem bel_some {A B : Int} (hA : 0 ≤ A) : ∃ d, BelP A B d := by
  have key : ∀ (n : Nat) (lo hi : Int), hi - lo = n → HalfI A B lo hi → ∃ d, BelP A B d := by
    intro n
    induction n with
    | zero => exact fun lo hi e h => ⟨lo, hav_end h (by omega)⟩
    | succ n ih =>
      intro lo hi e h
      by_cases hq : numW hi * B ≤ A
      · exact ⟨hi, hav_end (hav_up h (by omega) (Int.le_refl _) hq) (by omega)⟩
      · exact ih lo (hi - 1) (by omega) (hav_down h (by omega) (Int.le_refl _) (by omega))
  exact key (mostP - 0).toNat 0 mostP (by decide) (hav_start hA)
theorem round_some {A B : Int} (hA : 0 ≤ A) : ∃ b E, RoundIs A B false false 0 b E := by
  obtain ⟨d, hd⟩ := bel_some (B := B) hA
  by_cases h : agn A B (numW d) false = 0 ∨ upP A B false false 0 d = false
  · exact ⟨_, _, d, hd, Or.inl ⟨h, rfl, rfl⟩⟩
  · have h1 : agn A B (numW d) false ≠ 0 := fun q => h (Or.inl q)
    have h2 : upP A B false false 0 d = true := by
      cases hu : upP A B false false 0 d
      · exact absurd (Or.inr hu) h
      · rfl
    by_cases hm : d = mostP
    · exact ⟨_, _, d, hd, Or.inr ⟨⟨h1, h2⟩, Or.inl ⟨hm, rfl, rfl⟩⟩⟩
    · exact ⟨_, _, d, hd, Or.inr ⟨⟨h1, h2⟩, Or.inr ⟨by have := hd.2.1; omega, rfl, rfl⟩⟩⟩
/-! ### the bounds of the table -/
theorem p10 (n : Nat) : (10 : Int) ^ n = 5 ^ n * 2 ^ n := by rw [← Int.mul_pow]; rfl
end Ar
end Go.Proofs.YtalglldkjbinbaaGreatDoor

/- layer 12: what is rounded to a pattern, by the ends of its interval; the digits that are told, as numbers that are read back. -/
namespace Go.Proofs.YtalglldkjbinbaaGreatDoor
open Go.RowKit
open Na Ar
set_option linter.unusedVariables false
namespace Ry
theorem num_lt' {p q : Int} (h0 : 0 ≤ p) (h1 : p < q) (h2 : q ≤ mostP) : numW p < numW q := by
  have a := num_succ h0 (show p < mostP by omega)
  have b := nxt_gt p
  have c := num_mono (p := p + 1) (q := q) (by omega) (by omega) h2
  omega
/-- rounded to a pattern above 0: between the middles, at one of them just if it is even -/
theorem round_ends {A B p : Int} (hA : 0 ≤ A) (hB : 0 < B) (h0 : 0 < p) (h1 : p ≤ mostP) : RoundIs A B false false 0 p 0 ↔
    ((numW (p - 1) + numW p) * B ≤ 2 * A ∧ 2 * A ≤ (numW p + nxtN p) * B ∧ (((numW (p - 1) + numW p) * B = 2 * A ∨ 2 * A = (numW p + nxtN p) * B) → p % 2 = 0)) := by
  have s0 : sgB false = 0 := rfl
  constructor
  · intro h
    rcases even_near hB h with ⟨e, _⟩ | ⟨_, d, d0, d1, hb, g1, g2, g3⟩
    · omega
    · rw [s0, Int.add_zero] at hb
      subst hb
      obtain ⟨g4, g5⟩ := g3 (by omega)
      exact ⟨g4, g1, fun q => by rcases q with q | q; exact g5 q; exact (g2 q).1⟩
  · rintro ⟨a1, a2, a3⟩
    obtain ⟨b, E, h⟩ := round_some (B := B) hA
    have hm := most_odd
    have up : ∀ q : Int, 0 ≤ q → q < mostP → nxtN q = numW (q + 1) := fun q q0 q1 => (num_succ q0 q1).symm
    rcases even_near hB h with ⟨e, e', g⟩ | ⟨e, d, d0, d1, hb, g1, g2, g3⟩
    · exfalso
      by_cases z : p = mostP
      · rw [z] at a2 a3
        have := a3 (Or.inr (by omega))
        omega
      · have n1 := num_lt' (p := p) (q := mostP) (by omega) (by omega) (Int.le_refl _)
        have n2 := num_mono (p := p + 1) (q := mostP) (by omega) (by omega) (Int.le_refl _)
        have n3 := nxt_gt mostP
        rw [← up p (by omega) (by omega)] at n2
        have : (numW p + nxtN p) * B < (numW mostP + nxtN mostP) * B := Int.mul_lt_mul_of_pos_right (by omega) hB
        omega
    · rw [s0, Int.add_zero] at hb
      rcases Int.lt_trichotomy d p with l | l | l
      · exfalso
        have u := up d d0 (by omega)
        by_cases z : d = p - 1
        · have u2 : nxtN d = numW p := by rw [u]; congr 1; omega
          rw [u2, z] at g1 g2
          have q1 := (g2 (by omega)).1
          have q2 := a3 (Or.inl (by omega))
          omega
        · have n1 := num_lt' (p := d) (q := p - 1) d0 (by omega) (by omega)
          have n2 := num_mono (p := d + 1) (q := p) (by omega) (by omega) h1
          rw [← u] at n2
          have : (numW d + nxtN d) * B < (numW (p - 1) + numW p) * B := Int.mul_lt_mul_of_pos_right (by omega) hB
          omega
      · rw [e, hb, l] at h; exact h
      · exfalso
        obtain ⟨g4, g5⟩ := g3 (by omega)
        have u := up p (by omega) (by omega)
        by_cases z : d - 1 = p
        · have u2 : nxtN p = numW d := by rw [u]; congr 1; omega
          rw [z, ← u2] at g4 g5
          have q1 := g5 (by omega)
          have q2 := a3 (Or.inr (by omega))
          omega
        · have n1 := num_mono (p := p) (q := d - 1) (by omega) (by omega) (by omega)
          have n2 := num_lt' (p := p + 1) (q := d) (by omega) (by omega) d1
          rw [← u] at n2
          have : (numW p + nxtN p) * B < (numW (d - 1) + numW d) * B := Int.mul_lt_mul_of_pos_right (by omega) hB
          omega
/-- a pattern's mantissa and its scale -/
def mP (p : Int) : Nat := (spM p).toNat
def iP (p : Int) : Nat := (spX p + 1074).toNat
theorem parts_of {p : Int} (h0 : 0 < p) (h1 : p ≤ mostP) : 0 < mP p ∧ mP p < 9007199254740992 ∧ iP p < 2046 ∧ (mP p : Int) = spM p ∧ (iP p : Int) = spX p + 1074 ∧ p % 2 = spM p % 2 ∧
    2 * (numW p + nxtN p) = ((4 * mP p + 2 : Nat) : Int) * 2 ^ iP p ∧ 2 * (numW (p - 1) + numW p) = ((4 * mP p - dnR (mP p) (iP p) : Nat) : Int) * 2 ^ iP p ∧ numW p = (mP p : Int) * 2 ^ iP p := by
  obtain ⟨f1, f2, f3⟩ := fields_of (p := p) (by omega) h1
  obtain ⟨g1, g2, g3⟩ := fields_of (p := p - 1) (by omega) (by omega)
  have hs := num_succ (p := p - 1) (by omega) (by omega)
  rw [show p - 1 + 1 = p by omega] at hs
  have pos : 0 < (2 : Int) ^ iP p := Int.pow_pos (by omega)
  have hsp : spM p = if ef p = 0 then fr p else 4503599627370496 + fr p := by unfold spM; rw [if_neg (by omega)]
  have hsx : spX p = if ef p = 0 then -1074 else ef p - 1075 := by unfold spX; rw [if_neg (by omega)]
  have hsx' : spX (p - 1) = if ef (p - 1) = 0 then -1074 else ef (p - 1) - 1075 := by unfold spX; rw [if_neg (by omega)]
  have hp : p = ef p * 4503599627370496 + fr p := by omega
  have hfr : 0 ≤ fr p ∧ fr p < 4503599627370496 := by omega
  have m0 : 0 < spM p ∧ spM p < 9007199254740992 := by rw [hsp]; split <;> omega
  have em : (mP p : Int) = spM p := by unfold mP; omega
  have x0 : -1074 ≤ spX p ∧ spX p ≤ 971 := by rw [hsx]; split <;> omega
  have ei : (iP p : Int) = spX p + 1074 := by unfold iP; omega
  have en : numW p = (mP p : Int) * 2 ^ iP p := by rw [em]; rfl
  have es : stepN p = iP p := rfl
  refine ⟨by omega, by omega, by omega, em, ei, ?_, ?_, ?_, en⟩
  · rw [hsp]; split <;> omega
  · unfold nxtN
    rw [es, en]
    generalize (2 : Int) ^ iP p = P at *
    rw [Int.natCast_add, Int.natCast_mul, Int.add_mul, Int.mul_assoc]
    generalize (mP p : Int) * P = Q
    omega
  · have e1 : numW p = numW (p - 1) + 2 ^ stepN (p - 1) := hs
    have hst : stepN (p - 1) = (spX (p - 1) + 1074).toNat := rfl
    have key : 2 * (2 : Int) ^ stepN (p - 1) = (dnR (mP p) (iP p) : Int) * 2 ^ iP p := by
      unfold dnR
      split
      · rename_i c
        have : iP p = stepN (p - 1) + 1 := by
          rw [hst]
          have : spM p = 4503599627370496 := by omega
          rw [hsp] at this
          rw [hsx'] 
          rw [hsx] at ei
          split at this
          · omega
          · rename_i c1
            rw [if_neg c1] at ei
            have : ef (p - 1) = ef p - 1 := by omega
            rw [this]
            split <;> omega
        rw [this, Int.pow_succ]
        generalize (2 : Int) ^ stepN (p - 1) = Q
        simp
        omega
      · rename_i c
        have : stepN (p - 1) = iP p := by
          rw [hst, hsx']
          by_cases z : ef p = 0
          · rw [if_pos z] at hsx
            have : ef (p - 1) = 0 := by omega
            rw [if_pos this]; omega
          · rw [if_neg z] at hsx hsp
            by_cases z2 : fr p = 0
            · have z3 : ef p = 1 := by omega
              have : ef (p - 1) = 0 := by omega
              rw [if_pos this]; omega
            · have : ef (p - 1) = ef p := by omega
              rw [this, if_neg z]; omega
        rw [this]; rfl
    have hle : dnR (mP p) (iP p) ≤ 4 * mP p := by have := dn_cases (mP p) (iP p); omega
    rw [Int.ofNat_sub hle, Int.sub_mul, ← key, Int.natCast_mul, Int.mul_assoc, ← en]
    omega
def shD (p : Int) : Int := (neS (finR (mP p) (iP p)) : Int)
def shE (p : Int) : Int := ((finR (mP p) (iP p)).tens : Int) - 400
/-- what is told of a pattern above 0 -/
structure ShP (p d e : Int) : Prop where
  r0 : 0 < d
  r1 : d < 100000000000000000
  ne : d % 10 ≠ 0
  e0 : -324 ≤ e
  e1 : e ≤ 308
  rd : ExIs d e p 0
  no : ∀ y, 0 ≤ y → ¬ ExIs y (e + 1) p 0
  nb : ∀ y, 0 ≤ y → y < d → ExIs y e p 0 → exN (d + y) e * e2 1074 ≤ 2 * (numW p * exD e) ∧ (exN (d + y) e * e2 1074 = 2 * (numW p * exD e) → d % 2 = 0)
  na : ∀ y, d < y → ExIs y e p 0 → 2 * (numW p * exD e) ≤ exN (d + y) e * e2 1074 ∧ (2 * (numW p * exD e) = exN (d + y) e * e2 1074 → d % 2 = 0)
end Ry
end Go.Proofs.YtalglldkjbinbaaGreatDoor

